/-
  What the calls Deg, Bit and Same of package gfp answer, for all lists of words.
-/
import Derived.Test.YtfnfjfmkhnofkaaGfpC
import Derived.Test.YtfnfjfmkhnofkaaGfpS
namespace Go.Proofs.Ytfnfjfmkhnofkaa
open Go.RowKit G
set_option linter.unusedVariables false

theorem ret_int {k : IntKind} {a b : Int} (h : a = b) : Ending.returned (.int k a) = .returned (.int k b) := by rw [h]
theorem wordsOf_last (N : Nat) : N ≠ 0 → (wordsOf N).getD (sz N - 1) 0 ≠ 0 := by
  induction N using Nat.strongRecOn with
  | _ N ih =>
    intro h
    have e : sz N = sz (N / 18446744073709551616) + 1 := by unfold sz; rw [wordsOf_pos h]; rfl
    rw [wordsOf_pos h, e]
    by_cases h2 : N / 18446744073709551616 = 0
    · rw [h2, show sz 0 = 0 from by unfold sz; rw [wordsOf_zero]; rfl]
      simp; omega
    · have := ih _ (by omega) h2
      have p : 0 < sz (N / 18446744073709551616) := by unfold sz; rw [wordsOf_pos h2]; simp
      rw [show sz (N / 18446744073709551616) + 1 - 1 = (sz (N / 18446744073709551616) - 1) + 1 from by omega]
      simpa using this
theorem sz_zero : sz 0 = 0 := by unfold sz; rw [wordsOf_zero]; rfl
theorem deg_top (xs : List Nat) (N m : Nat) (hw : Wds xs) (h : leN xs = N) (hm : sz N = m + 1) : xs.getD m 0 ≠ 0 ∧ len N = 64 * m + len (xs.getD m 0) ∧ m < xs.length := by
  have hN : N ≠ 0 := by intro e; rw [e, sz_zero] at hm; omega
  obtain ⟨e1, e2⟩ := own_take xs N hw h
  have e := leN_inj hw (wds_wordsOf N) (by rw [leN_wordsOf]; exact h)
  have l := wordsOf_last N hN
  rw [hm, Nat.add_sub_cancel, ← e m] at l
  refine ⟨l, ?_, by omega⟩
  have s := leN_take_succ xs m hw
  rw [← hm, e1, leN_wordsOf] at s
  have t : leN (xs.take m) < 2 ^ (64 * m) := by
    have := leN_lt (xs.take m) (fun x hx => hw x (List.mem_of_mem_take hx))
    rwa [List.length_take, Nat.min_eq_left (by omega)] at this
  have t2 := len_le t
  have t3 := len_mul_pow l (64 * m)
  have t4 := len_pos l
  rw [s, Nat.xor_comm, len_xor_lt (by omega), t3]
  omega

theorem len_word {x : Nat} (h : x < 18446744073709551616) : len x ≤ 64 := len_le (k := 64) h
theorem bit_split (xs : List Nat) (N k : Nat) (hw : Wds xs) (h : leN xs = N) : xs.getD (k / 64) 0 / 2 ^ (k % 64) % 2 = N / 2 ^ k % 2 := by
  have := bit_leN xs k hw
  rw [h, bit_mod, bit_mod] at this
  have := decide_eq_decide.1 this
  omega
theorem Pol.take {w : World} {A : Option Addr} {cap : Nat} {xs : List Nat} (h : Pol w A cap xs) (n : Nat) : Pol w A cap (xs.take n) :=
  ⟨fun x hx => h.word x (List.mem_of_mem_take hx), by rw [List.length_take]; have := h.cap1; omega, h.cap2, fun i hi => by
    rw [List.length_take] at hi
    obtain ⟨b, o, e, hc⟩ := h.cell i (by omega)
    refine ⟨b, o, e, hc.trans ?_⟩
    simp only [List.getD_eq_getElem?_getD, List.getElem?_take]; rw [if_pos (by omega)]⟩
theorem Pol.drewN {w : World} {A : Option Addr} {cap : Nat} {xs : List Nat} (h : Pol w A cap xs) (n : Nat) : Pol (w.drewN n) A cap xs := ⟨h.word, h.cap1, h.cap2, h.cell⟩
/-- Are two lists the same? -/
def sameL (us vs : List Nat) : Bool := decide (us = vs)
theorem same_false {us vs : List Nat} {k : Nat} (h : us.getD k 0 ≠ vs.getD k 0) : sameL us vs = false := by
  unfold sameL
  simp only [decide_eq_false_iff_not]
  intro e; exact h (by rw [e])
theorem same_true {us vs : List Nat} (hl : us.length = vs.length) (h : ∀ j, j < us.length → us.getD j 0 = vs.getD j 0) : sameL us vs = true := by
  unfold sameL
  simp only [decide_eq_true_eq]
  refine List.ext_getElem hl (fun i h1 h2 => ?_)
  have := h i h1
  simpa [List.getD_eq_getElem?_getD, List.getElem?_eq_getElem h1, List.getElem?_eq_getElem h2] using this
end Go.Proofs.Ytfnfjfmkhnofkaa
