/-
  The statement's own walk: what is mixed comes back, and the other way round; a state ahead comes back, too. For every number.
-/
import Derived.Test.YteldmnjgjijocaaMixJ
namespace Go.Proofs.Yteldmnjgjijocaa
open Go.RowKit G
set_option linter.unusedVariables false

theorem unmixMix (z : Nat) (h : z < 18446744073709551616) (w : World) : Calls Try.prog 19 #[.int .u64 ((mixN z : Nat) : Int)] w (AnsN z w) := by
  refine (cUnmix _ (mix_lt z) w).mono ?_
  rintro e w' ⟨y, hy, hm, q⟩
  rw [mix_inj hy h hm] at q
  exact q
set_option maxHeartbeats 1000000 in
theorem mixBack (z : Nat) (h : z < 18446744073709551616) (w : World) : Calls Try.prog 4 #[.int .u64 (z : Int)] w (Bl true w) := by
  have hB : Below w.heap.size w w := Below.refl _ _
  go_enter Try.func4, Try.ntmps4
  go_wp2_with fail
  refine (awake6 _).mono ?_
  rintro e w1 ⟨rfl, hb⟩
  replace hB := below_then hB hb
  clear hb
  go_wp2_with fail
  refine (cMix z h _).mono ?_
  rintro e w2 ⟨rfl, hb⟩
  replace hB := below_then hB hb
  clear hb
  go_wp2_with fail
  refine (unmixMix z h _).mono ?_
  rintro e w3 ⟨rfl, hb⟩
  replace hB := below_then hB hb
  clear hb
  go_wp2_with fail
  refine (cUnmix z h _).mono ?_
  rintro e w4 ⟨y, hy, hm, rfl, hb⟩
  have HM := Lib.hid hm
  replace hB := below_then hB hb
  clear hb hm
  go_wp2_with fail
  refine (cMix y hy _).mono ?_
  rintro e w5 ⟨rfl, hb⟩
  rw [HM.out]
  replace hB := below_then hB hb
  clear hb
  go_wp2_with fail
  refine (cStep z _).mono ?_
  rintro e w6 ⟨rfl, rfl⟩
  go_wp2_with fail
  refine (cBack _ (step_lt z) _).mono ?_
  rintro e w6 ⟨rfl, hb⟩
  rw [(back_step h).1]
  replace hB := below_then hB hb
  clear hb
  go_wp2_with fail
  refine (cBack z h _).mono ?_
  rintro e w7 ⟨rfl, hb⟩
  replace hB := below_then hB hb
  clear hb
  go_wp2_with fail
  refine (cStep (backN z) _).mono ?_
  rintro e w8 ⟨rfl, rfl⟩
  rw [(back_step h).2]
  go_wp2_with fail
  refine (cStep z _).mono ?_
  rintro e w9 ⟨rfl, rfl⟩
  go_wp2_with fail
  refine (cMix (stepN z) (step_lt z) _).mono ?_
  rintro e w10 ⟨rfl, hb⟩
  replace hB := below_then hB hb
  clear hb
  go_wp2_with fail
  refine (cWord z h _).mono ?_
  rintro e w11 ⟨rfl, hb⟩
  replace hB := below_then hB hb
  clear hb
  go_wp2
  go_ret
  exact ⟨rfl, hB⟩
end Go.Proofs.Yteldmnjgjijocaa
