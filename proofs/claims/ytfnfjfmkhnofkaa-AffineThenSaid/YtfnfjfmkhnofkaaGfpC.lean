/-
  What the calls Own, Deg, Bit and Same of package gfp answer, for all lists of words (of up to 100000).
-/
import Derived.Test.YtfnfjfmkhnofkaaGfpB
import Derived.Shelf.Small.Bits
namespace Go.Proofs.Ytfnfjfmkhnofkaa
open Go.RowKit G
set_option linter.unusedVariables false

/-- An answer that is a polynomial in its own form, in a list of its own. -/
def Ans (N : Nat) (w : World) (e : Ending) (w' : World) : Prop :=
  ∃ (A : Option Addr) (cap : Nat), e = .returned (.slice A (wordsOf N).length cap) ∧ Pol w' A cap (wordsOf N) ∧ Below w.heap.size w w'
theorem infoW : (Try.prog.info? 22).map (fun i => (i.zero, i.size, i.bytes)) = some (some (.int .u64 0), 1, 8) := by kernel_rfl
theorem own_take (xs : List Nat) (N : Nat) (hw : Wds xs) (h : leN xs = N) : xs.take (sz N) = wordsOf N ∧ sz N ≤ xs.length := by
  have hl : sz N ≤ xs.length := wordsOf_len _ (by rw [← h]; exact leN_lt xs hw)
  refine ⟨List.ext_getElem (by rw [List.length_take]; unfold sz at *; omega) (fun i h1 h2 => ?_), hl⟩
  have e := leN_inj hw (wds_wordsOf N) (by rw [leN_wordsOf]; exact h) i
  rw [List.getElem_take]
  rw [List.length_take] at h1
  simpa [List.getD_eq_getElem?_getD, List.getElem?_eq_getElem (show i < xs.length by omega), List.getElem?_eq_getElem h2] using e
theorem Pol.of_owns {w : World} {base : Nat} {v : Value} {xs : List Nat} (hw : Wds xs) (h : w.ownsRow base 22 1 v xs.length (xs.map fun x : Nat => Value.int .u64 (x : Int))) :
    ∃ A cap, v = .slice A xs.length cap ∧ Pol w A cap xs := by
  obtain ⟨hl, h2⟩ := id h
  rcases h2 with ⟨rfl, hn⟩ | ⟨g, cap, cur, rfl, hg, hh, hc, hm, rest⟩
  · have e : xs = [] := List.eq_nil_of_length_eq_zero hn
    subst e
    exact ⟨none, 0, rfl, Pol.nil _ _ _ (by omega)⟩
  · refine ⟨some ⟨g, 0, none⟩, cap, rfl, hw, hc, hm, fun i hi => ⟨g, 0, rfl, ?_⟩⟩
    have := h.cells (g := g) rfl i (.int .u64 ((xs.getD i 0 : Nat) : Int)) (by simp [List.getElem?_eq_getElem hi])
    rw [Addr.add_lit] at this
    exact this
theorem Pol.news {w : World} {a : Addr} {cap : Nat} {xs : List Nat} (h : Pol w (some a) cap xs) (ys : List Nat) (n : Nat) (e : xs.take n = ys) : ∀ (j : Nat) (u : Value), (ys.map fun x : Nat => Value.int .u64 (x : Int))[j]? = some u → w.cell? (a.add j) = some u := by
  intro j u hu
  rw [List.getElem?_map] at hu
  cases hy : ys[j]? with
  | none => rw [hy] at hu; cases hu
  | some y =>
    rw [hy] at hu
    obtain rfl : Value.int .u64 (y : Int) = u := by simpa using hu
    obtain ⟨hj, hyy⟩ := List.getElem?_eq_some_iff.1 hy
    have hj' : j < xs.length := by rw [← e, List.length_take] at hj; omega
    obtain ⟨b, o, ea, hc⟩ := h.cell j hj'
    obtain rfl : a = ⟨b, o, none⟩ := by simpa using ea
    rw [Addr.add_lit, hc]
    have : ys[j]? = xs[j]? := by rw [← e, List.getElem?_take]; split; rfl; rw [← e, List.length_take] at hj; omega
    rw [hy] at this
    rw [List.getD_eq_getElem?_getD, ← this]; rfl
theorem one_cells (xs : List Nat) : ∀ u ∈ xs.map (fun x : Nat => Value.int .u64 (x : Int)), u.oneCell' = true := by
  intro u hu
  obtain ⟨n, _, rfl⟩ := List.mem_map.1 hu
  rfl
end Go.Proofs.Ytfnfjfmkhnofkaa
