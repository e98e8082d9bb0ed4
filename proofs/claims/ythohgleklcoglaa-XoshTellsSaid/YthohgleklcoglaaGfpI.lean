/-
  What the calls Words of the reference of layer 2 and Large of its statements answer; the contracts of package gfp with open lengths.
-/
import Derived.Test.YthohgleklcoglaaGfpH
namespace Go.Proofs.Ythohgleklcoglaa
open Go.RowKit G
set_option linter.unusedVariables false

set_option maxRecDepth 100000 in
set_option maxHeartbeats 1000000 in
theorem wordsLen (A B : Option Addr) (ca cb n m : Nat) (hne : n ≠ m) (w : World) :
    Calls Try.prog 16 #[.slice A n ca, .slice B m cb] w (fun e w' => e = .returned (.bool false) ∧ ∃ n, w' = w.drewN n) := by
  have h1 : (n != m) = true := by simpa using hne
  have h2 : ((n : Int) != (m : Int)) = true := by simp; omega
  have h3 : (n == m) = false := by simpa using hne
  go_enter Try.func16, Try.ntmps16
  go_wp2
  go_ret
  exact ⟨rfl, 0, rfl⟩
set_option maxRecDepth 100000 in
set_option maxHeartbeats 1000000 in
theorem wordsSame (A B : Option Addr) (ca cb n : Nat) (us vs : List Nat) (hu : us.length = n) (hv : vs.length = n) (hn : n ≤ 100000) (w : World) (P : Pol w A ca us) (Q : Pol w B cb vs) :
    Calls Try.prog 16 #[.slice A n ca, .slice B n cb] w (fun e w' => e = .returned (.bool (sameL us vs)) ∧ ∃ n, w' = w.drewN n) := by
  have HP := Lib.hid P
  have HQ := Lib.hid Q
  have HU := Lib.hid hu
  have HV := Lib.hid hv
  clear P Q hu hv
  go_enter Try.func16, Try.ntmps16
  go_wp2_with fail
  go_loopw [5] (fun i wr => ∃ k q : Nat, k ≤ n ∧ i = .int .i64 k ∧ wr = w.drewN q ∧ Hid (∀ j, j < k → us.getD j 0 = vs.getD j 0)) (fun i _ => n - (intOf i).toNat)
  case atStart => exact ⟨0, 0, by omega, rfl, rfl, Lib.hid (fun j hj => by omega)⟩
  case round =>
    obtain ⟨k, q, hk, rfl, rfl, hs⟩ := hrel
    by_cases hlt : k < n
    · have kl : (k : Int) < (n : Int) := by omega
      have k0 : (0 : Int) ≤ (k : Int) := by omega
      obtain ⟨b, o, rfl, q1⟩ := HP.out.cell k (by rw [HU.out]; exact hlt)
      obtain ⟨b', o', rfl, q2⟩ := HQ.out.cell k (by rw [HV.out]; exact hlt)
      by_cases he : us.getD k 0 = vs.getD k 0
      · rw [← he] at q2
        have HE := Lib.hid he
        clear he
        generalize us.getD k 0 = y at q1 q2
        go_wp2_with fail
        go_quiet (fail)
        go_wp2_with fail
        go_roundw
        case rel => exact ⟨k + 1, _, by omega, by go_num, rfl, Lib.hid (fun j hj => by
          by_cases e : j = k
          · rw [e]; exact HE.out
          · exact hs.out j (by omega))⟩
        case measure => simp [intOf]; omega
      · have E := Lib.hid (same_false he)
        generalize us.getD k 0 = y at q1 he
        generalize vs.getD k 0 = z at q2 he
        have t1 : (y != z) = true := by simpa using he
        have t2 : ((y : Int) != (z : Int)) = true := by simp; omega
        have t3 : (y == z) = false := by simpa using he
        clear he
        go_wp2_with fail
        go_quiet (fail)
        go_wp2_with fail
        go_ret
        exact ⟨by rw [E.out]; rfl, _, World.drewN_drewN _ _ _⟩
    · have kl : ¬ ((k : Int) < (n : Int)) := by omega
      have E := Lib.hid (same_true (us := us) (vs := vs) (HU.out.trans HV.out.symm) (fun j hj => hs.out j (by rw [HU.out] at hj; omega)))
      go_wp2
      go_ret
      exact ⟨by rw [E.out]; rfl, q, rfl⟩
theorem below_of_drawn {w w' : World} (h : ∃ n, w' = w.drewN n) : Below w.heap.size w w' := by
  obtain ⟨n, rfl⟩ := h
  exact below_drewN n
/-- An answer that is this bool. -/
def Bl (b : Bool) (w : World) (e : Ending) (w' : World) : Prop := e = .returned (.bool b) ∧ Below w.heap.size w w'

section
variable {A B : Option Addr} {L K ca cb : Nat} {xs ys : List Nat} {w : World}
theorem gWords (b : Bool) (P : Pol w A ca xs) (Q : Pol w B cb ys) (hL : xs.length = L) (hK : ys.length = K) (hb : sameL xs ys = b) (hl : L ≤ 50000) :
    Calls Try.prog 16 #[.slice A L ca, .slice B K cb] w (Bl b w) := by
  subst hL hK hb
  by_cases h : xs.length = ys.length
  · rw [← h]
    exact (wordsSame A B ca cb _ xs ys rfl h.symm (by omega) w P Q).mono fun _ _ h => ⟨h.1, below_of_drawn h.2⟩
  · have e : sameL xs ys = false := by unfold sameL; simp only [decide_eq_false_iff_not]; intro e; exact h (by rw [e])
    rw [e]
    exact (wordsLen A B ca cb _ _ h w).mono fun _ _ h => ⟨h.1, below_of_drawn h.2⟩
end
theorem pol1 (w : World) (x : Nat) (y : Int) (e : (x : Int) = y) (hx : x < 18446744073709551616) : Pol (w.alloc (.cells #[.int .u64 y] 22)) (some ⟨w.heap.size, 0, none⟩) 1 [x] := by
  subst e; exact pol_one w x hx
theorem pol2 (w : World) (x x' : Nat) (y y' : Int) (e : (x : Int) = y) (e' : (x' : Int) = y') (hx : x < 18446744073709551616) (hx' : x' < 18446744073709551616) : Pol (w.alloc (.cells #[.int .u64 y, .int .u64 y'] 22)) (some ⟨w.heap.size, 0, none⟩) 2 [x, x'] := by
  subst e e'
  refine ⟨fun z hz => ?_, Nat.le_refl _, by decide, fun i hi => ⟨w.heap.size, 0, rfl, ?_⟩⟩
  · simp at hz; rcases hz with rfl | rfl <;> assumption
  · have : i = 0 ∨ i = 1 := by simp at hi; omega
    rcases this with rfl | rfl <;> simp
theorem words1 (n : Nat) (h0 : n ≠ 0) (h : n < 18446744073709551616) : wordsOf n = [n] := by
  rw [wordsOf_pos h0, show n / 18446744073709551616 = 0 from by omega, wordsOf_zero, show n % 18446744073709551616 = n from by omega]
theorem words2 (x y : Nat) (h0 : y ≠ 0) (hx : x < 18446744073709551616) (hy : y < 18446744073709551616) : wordsOf (x + 18446744073709551616 * y) = [x, y] := by
  rw [wordsOf_pos (by omega), show (x + 18446744073709551616 * y) / 18446744073709551616 = y from by omega, show (x + 18446744073709551616 * y) % 18446744073709551616 = x from by omega, words1 y h0 hy]
/-- How long the own form of a number is. -/
theorem wl (k : Nat) {N : Nat} (h : N < 2 ^ (64 * k)) : (wordsOf N).length ≤ k := wordsOf_len k h

theorem Pol.alloc {w : World} {A : Option Addr} {cap : Nat} {xs : List Nat} (h : Pol w A cap xs) (o : Obj) : Pol (w.alloc o) A cap xs := h.below (below_alloc (Below.refl _ _) o)
/-- An answer that is 0. -/
def Ans0 (w : World) (e : Ending) (w' : World) : Prop := ∃ (A : Option Addr) (cap : Nat), e = .returned (.slice A 0 cap) ∧ Below w.heap.size w w'
theorem ans0 {w : World} {e : Ending} {w' : World} (h : Ans 0 w e w') : Ans0 w e w' := by
  obtain ⟨A, c, he, _, hb⟩ := h
  rw [wordsOf_zero] at he
  exact ⟨A, c, he, hb⟩
end Go.Proofs.Ythohgleklcoglaa
