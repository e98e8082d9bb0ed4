/-
  The calls whose answers the document fixes: layer 6's awake answers true.
-/
import Derived.Test.YteldmnjgjijocaaMixB
namespace Go.Proofs.Yteldmnjgjijocaa
open Go.RowKit G
set_option linter.unusedVariables false

theorem row2 : rowN 0 2 = [16294208416658607535, 7960286522194355700] := by kernel_rfl
theorem behind2 : iterN 0 2 = 4354685564936845354 := by kernel_rfl
theorem mixG : mixN 11400714819323198485 = 16294208416658607535 := by kernel_rfl
theorem mix0 : mixN 0 = 0 := by kernel_rfl
/-- A tuple of a list, a state and a code. -/
theorem aw2 (w : World) : Calls Try.prog 8 #[.int .u64 0, .int .i64 2] w (fun e w' => ∃ (A : Option Addr) (cap : Nat), e = .returned (.tuple #[.slice A 2 cap, .int .u64 4354685564936845354, .int .i64 0]) ∧ Pol w' A cap [16294208416658607535, 7960286522194355700] ∧ Below w.heap.size w w') := by
  refine (wordsYes 0 2 (by decide) (by decide) w).mono ?_
  rintro e w' ⟨A, cap, rfl, P, hb⟩
  rw [row2] at P ⊢
  rw [behind2]
  exact ⟨A, cap, rfl, P, hb⟩
theorem awU (w : World) : Calls Try.prog 19 #[.int .u64 16294208416658607535] w (fun e w' => e = .returned (.int .u64 11400714819323198485) ∧ Below w.heap.size w w') := by
  refine (cUnmix 16294208416658607535 (by decide) w).mono ?_
  rintro e w' ⟨z, hz, hm, rfl, hb⟩
  rw [← mixG] at hm
  rw [mix_inj hz (by decide) hm]
  exact ⟨rfl, hb⟩
theorem awM (w : World) : Calls Try.prog 12 #[.int .u64 0] w (fun e w' => e = .returned (.int .u64 0) ∧ Below w.heap.size w w') := by
  refine (cMix 0 (by decide) w).mono ?_
  rintro e w' ⟨rfl, hb⟩
  rw [mix0]
  exact ⟨rfl, hb⟩
theorem awB (w : World) : Calls Try.prog 20 #[.int .u64 0] w (fun e w' => e = .returned (.int .u64 7046029254386353131) ∧ Below w.heap.size w w') := cBack 0 (by decide) w
theorem awS (w : World) : Calls Try.prog 15 #[.int .u64 0] w (fun e w' => e = .returned (.int .u64 11400714819323198485) ∧ w' = w) := cStep 0 w
theorem awO (w : World) : Calls Try.prog 17 #[.int .u64 2] w (fun e w' => e = .returned (.agg #[.int .u64 0, .int .u64 2]) ∧ Below w.heap.size w w') := cOf 2 2 rfl (by decide) w
theorem awJ1 (w : World) : Calls Try.prog 16 #[.int .u64 5, .agg #[.int .u64 0, .int .u64 2]] w (fun e w' => e = .returned (.int .u64 4354685564936845359) ∧ Below w.heap.size w w') := cJump 5 (by decide) 0 2 w
theorem awJ2 (w : World) : Calls Try.prog 16 #[.int .u64 5, .agg #[.int .u64 9, .int .u64 0]] w (fun e w' => e = .returned (.int .u64 5) ∧ Below w.heap.size w w') := cJump 5 (by decide) 9 0 w

set_option maxHeartbeats 1000000 in
theorem awake6 (w : World) : Calls Try.prog 7 #[] w (Bl true w) := by
  have hB : Below w.heap.size w w := Below.refl _ _
  go_enter Try.func7, Try.ntmps7
  go_wp2_with fail
  refine (aw2 _).mono ?_
  rintro e w1 ⟨A, cap, rfl, P, hb⟩
  replace hB := below_then hB hb
  clear hb
  go_wp2_with fail
  refine (wordsNo 0 257 (by decide) _).mono ?_
  rintro e w2 ⟨rfl, rfl⟩
  go_wp2_with fail
  refine (wordsNo 0 (-1) (by decide) _).mono ?_
  rintro e w2 ⟨rfl, rfl⟩
  go_wp2_with fail
  have Q := pol2 w2 16294208416658607535 7960286522194355700 16294208416658607535 7960286522194355700 rfl rfl (by decide) (by decide)
  replace P := P.alloc (.cells #[.int .u64 16294208416658607535, .int .u64 7960286522194355700] 22)
  replace hB := below_alloc hB (.cells #[.int .u64 16294208416658607535, .int .u64 7960286522194355700] 22)
  generalize hV1 : World.alloc _ _ = V1 at P Q hB ⊢
  clear hV1
  refine (gWords true P Q rfl rfl (by decide) (by decide)).mono ?_
  rintro e w3 ⟨rfl, hb⟩
  replace hB := below_then hB hb
  clear hb P Q
  go_wp2_with fail
  refine (awU _).mono ?_
  rintro e w4 ⟨rfl, hb⟩
  replace hB := below_then hB hb
  clear hb
  go_wp2_with fail
  refine (awM _).mono ?_
  rintro e w5 ⟨rfl, hb⟩
  replace hB := below_then hB hb
  clear hb
  go_wp2_with fail
  refine (awB _).mono ?_
  rintro e w6 ⟨rfl, hb⟩
  replace hB := below_then hB hb
  clear hb
  go_wp2_with fail
  refine (awS _).mono ?_
  rintro e w7 ⟨rfl, rfl⟩
  go_wp2_with fail
  refine (awO _).mono ?_
  rintro e w8 ⟨rfl, hb⟩
  replace hB := below_then hB hb
  clear hb
  go_wp2_with fail
  refine (awJ1 _).mono ?_
  rintro e w9 ⟨rfl, hb⟩
  replace hB := below_then hB hb
  clear hb
  go_wp2_with fail
  refine (awJ2 _).mono ?_
  rintro e w10 ⟨rfl, hb⟩
  replace hB := below_then hB hb
  clear hb
  go_wp2
  go_ret
  exact ⟨rfl, hB⟩
end Go.Proofs.Yteldmnjgjijocaa
