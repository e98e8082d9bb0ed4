/-
  What the calls Words of the reference of layer 2 and Large of its statements answer; the contracts of package gfp with open lengths.
-/
import Derived.Test.YtfnfjfmkhnofkaaGfpH
namespace Go.Proofs.Ytfnfjfmkhnofkaa
open Go.RowKit G
set_option linter.unusedVariables false

theorem below_of_drawn {w w' : World} (h : ∃ n, w' = w.drewN n) : Below w.heap.size w w' := by
  obtain ⟨n, rfl⟩ := h
  exact below_drewN n
/-- An answer that is this bool. -/
def Bl (b : Bool) (w : World) (e : Ending) (w' : World) : Prop := e = .returned (.bool b) ∧ Below w.heap.size w w'

section
variable {A B : Option Addr} {L K ca cb : Nat} {xs ys : List Nat} {w : World}
end
theorem pol1 (w : World) (x : Nat) (y : Int) (e : (x : Int) = y) (hx : x < 18446744073709551616) : Pol (w.alloc (.cells #[.int .u64 y] 22)) (some ⟨w.heap.size, 0, none⟩) 1 [x] := by
  subst e; exact pol_one w x hx
theorem pol2 (w : World) (x x' : Nat) (y y' : Int) (e : (x : Int) = y) (e' : (x' : Int) = y') (hx : x < 18446744073709551616) (hx' : x' < 18446744073709551616) : Pol (w.alloc (.cells #[.int .u64 y, .int .u64 y'] 22)) (some ⟨w.heap.size, 0, none⟩) 2 [x, x'] := by
  subst e e'
  refine ⟨fun z hz => ?_, Nat.le_refl _, by decide, fun i hi => ⟨w.heap.size, 0, rfl, ?_⟩⟩
  · simp at hz; rcases hz with rfl | rfl <;> assumption
  · have : i = 0 ∨ i = 1 := by simp at hi; omega
    rcases this with rfl | rfl <;> simp
theorem words1 (n : Nat) (h0 : n ≠ 0) (h : n < 18446744073709551616) : wordsOf n = [n] := by
  rw [wordsOf_pos h0, show n / 18446744073709551616 = 0 from by omega, wordsOf_zero, show n % 18446744073709551616 = n from by omega]
theorem words2 (x y : Nat) (h0 : y ≠ 0) (hx : x < 18446744073709551616) (hy : y < 18446744073709551616) : wordsOf (x + 18446744073709551616 * y) = [x, y] := by
  rw [wordsOf_pos (by omega), show (x + 18446744073709551616 * y) / 18446744073709551616 = y from by omega, show (x + 18446744073709551616 * y) % 18446744073709551616 = x from by omega, words1 y h0 hy]
/-- How long the own form of a number is. -/
theorem wl (k : Nat) {N : Nat} (h : N < 2 ^ (64 * k)) : (wordsOf N).length ≤ k := wordsOf_len k h

theorem Pol.alloc {w : World} {A : Option Addr} {cap : Nat} {xs : List Nat} (h : Pol w A cap xs) (o : Obj) : Pol (w.alloc o) A cap xs := h.below (below_alloc (Below.refl _ _) o)
/-- An answer that is 0. -/
def Ans0 (w : World) (e : Ending) (w' : World) : Prop := ∃ (A : Option Addr) (cap : Nat), e = .returned (.slice A 0 cap) ∧ Below w.heap.size w w'
theorem ans0 {w : World} {e : Ending} {w' : World} (h : Ans 0 w e w') : Ans0 w e w' := by
  obtain ⟨A, c, he, _, hb⟩ := h
  rw [wordsOf_zero] at he
  exact ⟨A, c, he, hb⟩
end Go.Proofs.Ytfnfjfmkhnofkaa
