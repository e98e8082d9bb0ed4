/-
  What the calls Own, Deg, Bit and Same of package gfp answer, for all lists of words (of up to 100000).
-/
import Derived.Test.YtfpbfibnkknhdaaDoorGfpB
import Derived.Shelf.Small.Bits
namespace Go.Proofs.YtfpbfibnkknhdaaDoor
open Go.RowKit G
set_option linter.unusedVariables false

/-- An answer that is a polynomial in its own form, in a list of its own. -/
def Ans (N : Nat) (w : World) (e : Ending) (w' : World) : Prop :=
  ∃ (A : Option Addr) (cap : Nat), e = .returned (.slice A (wordsOf N).length cap) ∧ Pol w' A cap (wordsOf N) ∧ Below w.heap.size w w'
theorem infoW : (Tryd.prog.info? 50).map (fun i => (i.zero, i.size, i.bytes)) = some (some (.int .u64 0), 1, 8) := by kernel_rfl
theorem own_take (xs : List Nat) (N : Nat) (hw : Wds xs) (h : leN xs = N) : xs.take (sz N) = wordsOf N ∧ sz N ≤ xs.length := by
  have hl : sz N ≤ xs.length := wordsOf_len _ (by rw [← h]; exact leN_lt xs hw)
  refine ⟨List.ext_getElem (by rw [List.length_take]; unfold sz at *; omega) (fun i h1 h2 => ?_), hl⟩
  have e := leN_inj hw (wds_wordsOf N) (by rw [leN_wordsOf]; exact h) i
  rw [List.getElem_take]
  rw [List.length_take] at h1
  simpa [List.getD_eq_getElem?_getD, List.getElem?_eq_getElem (show i < xs.length by omega), List.getElem?_eq_getElem h2] using e
theorem Pol.of_owns {w : World} {base : Nat} {v : Value} {xs : List Nat} (hw : Wds xs) (h : w.ownsRow base 50 1 v xs.length (xs.map fun x : Nat => Value.int .u64 (x : Int))) :
    ∃ A cap, v = .slice A xs.length cap ∧ Pol w A cap xs := by
  obtain ⟨hl, h2⟩ := id h
  rcases h2 with ⟨rfl, hn⟩ | ⟨g, cap, cur, rfl, hg, hh, hc, hm, rest⟩
  · have e : xs = [] := List.eq_nil_of_length_eq_zero hn
    subst e
    exact ⟨none, 0, rfl, Pol.nil _ _ _ (by omega)⟩
  · refine ⟨some ⟨g, 0, none⟩, cap, rfl, hw, hc, hm, fun i hi => ⟨g, 0, rfl, ?_⟩⟩
    have := h.cells (g := g) rfl i (.int .u64 ((xs.getD i 0 : Nat) : Int)) (by simp [List.getElem?_eq_getElem hi])
    rw [Addr.add_lit] at this
    exact this
theorem Pol.news {w : World} {a : Addr} {cap : Nat} {xs : List Nat} (h : Pol w (some a) cap xs) (ys : List Nat) (n : Nat) (e : xs.take n = ys) : ∀ (j : Nat) (u : Value), (ys.map fun x : Nat => Value.int .u64 (x : Int))[j]? = some u → w.cell? (a.add j) = some u := by
  intro j u hu
  rw [List.getElem?_map] at hu
  cases hy : ys[j]? with
  | none => rw [hy] at hu; cases hu
  | some y =>
    rw [hy] at hu
    obtain rfl : Value.int .u64 (y : Int) = u := by simpa using hu
    obtain ⟨hj, hyy⟩ := List.getElem?_eq_some_iff.1 hy
    have hj' : j < xs.length := by rw [← e, List.length_take] at hj; omega
    obtain ⟨b, o, ea, hc⟩ := h.cell j hj'
    obtain rfl : a = ⟨b, o, none⟩ := by simpa using ea
    rw [Addr.add_lit, hc]
    have : ys[j]? = xs[j]? := by rw [← e, List.getElem?_take]; split; rfl; rw [← e, List.length_take] at hj; omega
    rw [hy] at this
    rw [List.getD_eq_getElem?_getD, ← this]; rfl
theorem one_cells (xs : List Nat) : ∀ u ∈ xs.map (fun x : Nat => Value.int .u64 (x : Int)), u.oneCell' = true := by
  intro u hu
  obtain ⟨n, _, rfl⟩ := List.mem_map.1 hu
  rfl
theorem nil_append (c : Nat) (w : World) : (Builtin.append_ #[23, 23] 23 #[.slice none 0 0, .slice none 0 c]).run Tryd.prog w = .ok (.slice none 0 0) w := by
  obtain ⟨i0, hi, hz0, hz1, hz2⟩ := info_parts infoW
  simp [Builtin.append_, run_underlying Tryd.underlying23, sizeOf, typeInfo, hi, Builtin.lenOf, Builtin.firstCells]

set_option maxHeartbeats 1000000 in
theorem ownSome (a : Addr) (cap : Nat) (xs ys : List Nat) (n : Nat) (L : Nat) (hL : xs.length = L) (hn : n ≤ L) (hl : L ≤ 100000) (hy : Hid (xs.take n = ys)) (hyn : Hid (ys.length = n)) (w : World) (h : Pol w (some a) cap xs)
    (size : Calls Tryd.prog 28 #[.slice (some a) L cap] w (fun e w' => e = .returned (.int .i64 (n : Int)) ∧ w = w')) :
    Calls Tryd.prog 33 #[.slice (some a) L cap] w (fun e w' => ∃ v, e = .returned v ∧ w'.ownsRow w.heap.size 50 1 v n (ys.map fun x : Nat => Value.int .u64 (x : Int)) ∧ Below w.heap.size w w') := by
  obtain ⟨i0, hi, hz0, hz1, hz2⟩ := info_parts infoW
  have HI := Lib.hid hi
  have HZ0 := Lib.hid hz0
  have HZ1 := Lib.hid hz1
  have HZ2 := Lib.hid hz2
  clear hi hz0 hz1 hz2
  have hc1 : L ≤ cap := by rw [← hL]; exact h.cap1
  have hc2 := h.cap2
  have H := Lib.hid h
  clear h hL
  have n0 : (0 : Int) ≤ (n : Int) := by omega
  have n1 : (n : Int) ≤ (cap : Int) := by omega
  have SIZE := Lib.hid size
  clear size
  go_enter Tryd.func33, Tryd.ntmps33
  go_wp2_with (first
    | (go_at_call 28; ((with_reducible refine (SIZE.out).mono ?_); rintro e w' ⟨rfl, rfl⟩))
    | (at_builtin; refine wpList_append_own _ rfl _ _ 23 rfl w.heap.size 50 i0 (.int .u64 0) 1 8 Tryd.underlying23 HI.out HZ0.out HZ1.out HZ2.out rfl (by decide) (.slice none 0 0) 0 [] rfl (World.ownsRow_nil _ _ _ _) a n cap (ys.map fun x : Nat => Value.int .u64 (x : Int)) rfl (by rw [List.length_map, hyn.out, Nat.mul_one]) (H.out.news ys n hy.out) (one_cells ys) (by unfold maxLen; omega) (by omega) (Nat.le_refl _) ?_; intro v w1 hown hgrow _; have OWN := Lib.hid hown; have GROW := Lib.hid hgrow; clear hown hgrow))
  go_ret
  refine ⟨v, rfl, by simpa using OWN.out, (Below.refl _ _).grown GROW.out (Nat.le_refl _) (by simp [Value.ownBlock])⟩

set_option maxHeartbeats 1000000 in
theorem ownNone (cap : Nat) (hc : cap ≤ 9223372036854775807) (w : World)
    (size : Calls Tryd.prog 28 #[.slice none 0 cap] w (fun e w' => e = .returned (.int .i64 0) ∧ w = w')) :
    Calls Tryd.prog 33 #[.slice none 0 cap] w (fun e w' => e = .returned (.slice none 0 0) ∧ w = w') := by
  have hap := nil_append cap
  have n1 : (0 : Int) ≤ (cap : Int) := by omega
  have SIZE := Lib.hid size
  clear size
  go_enter Tryd.func33, Tryd.ntmps33
  go_wp2_with (first
    | (go_at_call 28; ((with_reducible refine (SIZE.out).mono ?_); rintro e w' ⟨rfl, rfl⟩)))
  go_ret
  exact ⟨rfl, rfl⟩

theorem cOwn (A : Option Addr) (cap : Nat) (xs : List Nat) (N : Nat) (hN : leN xs = N) (hl : xs.length ≤ 100000) (w : World) (h : Pol w A cap xs) :
    Calls Tryd.prog 33 #[.slice A xs.length cap] w (Ans N w) := by
  obtain ⟨e1, e2⟩ := own_take xs N h.word hN
  have hs := cSize A cap xs N hN w h
  cases A with
  | some a =>
    refine (ownSome a cap xs (wordsOf N) (sz N) xs.length rfl e2 hl (Lib.hid e1) (Lib.hid rfl) w h hs).mono ?_
    rintro e w' ⟨v, rfl, own, hb⟩
    obtain ⟨A, c, rfl, P⟩ := Pol.of_owns (wds_wordsOf N) own
    exact ⟨A, c, rfl, P, hb⟩
  | none =>
    have e0 : xs = [] := by
      cases xs with
      | nil => rfl
      | cons x r => obtain ⟨b, o, e, _⟩ := h.cell 0 (by simp); cases e
    subst e0
    obtain rfl : 0 = N := hN
    have z : sz 0 = 0 := by unfold sz; rw [wordsOf_zero]; rfl
    rw [z] at hs
    refine (ownNone cap h.cap2 w hs).mono ?_
    rintro e w' ⟨rfl, rfl⟩
    refine ⟨none, 0, by rw [wordsOf_zero]; rfl, ?_, Below.refl _ _⟩
    rw [wordsOf_zero]
    exact Pol.nil _ _ _ (by omega)
end Go.Proofs.YtfpbfibnkknhdaaDoor
