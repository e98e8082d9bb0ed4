/-
  The walk of BoundTells.
-/
import Derived.Test.YtkpignbmocpcaaaGreatBdJ
namespace Go.Proofs.YtkpignbmocpcaaaGreat
open Go.RowKit
set_option linter.unusedVariables false
set_option maxRecDepth 100000

set_option maxHeartbeats 2000000 in
theorem boundTells (AW : Hid (∀ w, Calls Tryz.prog 5 #[] w (fun e w' => e = .returned (.bool true) ∧ Below w.heap.size w w'))) (bx : BX) {x b : Nat} (hx : x < N64) (hb : b < N64) (w : World) : Calls Tryz.prog 3 #[.int .u64 (x : Int), .int .u64 (b : Int)] w (fun e w' => e = .returned (.bool true) ∧ Below w.heap.size w w') := by
  have C1 := Lib.hid (bx.acc x b hx hb)
  have C2 := Lib.hid (rAccept hx hb)
  have hv : takenB N64 x b = true → ((acV x b : Nat) : Int) < (b : Int) := fun h => by
    have h0 : 0 < b := by
      rcases Nat.eq_zero_or_pos b with rfl | h0
      · exfalso
        unfold takenB at h
        rw [Nat.mul_zero, Nat.mod_zero] at h
        exact absurd (of_decide_eq_true h) (by decide)
      · exact h0
    have := tell_lt (N := N64) hx h0
    unfold acV
    rw [if_pos h]
    exact Int.ofNat_lt.2 this
  generalize ((acV x b : Nat) : Int) = v at C1 C2 hv
  generalize takenB N64 x b = t at C1 C2 hv
  clear hx hb
  go_enter Tryz.func3, Tryz.ntmps3
  go_wp2_with fail
  refine (AW.out _).mono ?_
  rintro e V1 ⟨rfl, hb⟩
  have B := Lib.hid hb
  clear hb AW
  go_wp2_with fail
  refine (C1.out _).mono ?_
  rintro e V2 ⟨rfl, hb⟩
  replace B := Lib.hid (below_then B.out hb)
  clear hb C1
  go_wp2_with fail
  refine (C2.out _).mono ?_
  rintro e V3 ⟨rfl, hb⟩
  replace B := Lib.hid (below_then B.out hb)
  clear hb C2
  cases t with
  | false =>
    clear hv
    go_wp2_with fail
    go_ret
    exact ⟨by simp, B.out⟩
  | true =>
    have h1 := hv rfl
    clear hv
    go_wp2_with fail
    go_ret
    exact ⟨by simp, B.out⟩
end Go.Proofs.YtkpignbmocpcaaaGreat
