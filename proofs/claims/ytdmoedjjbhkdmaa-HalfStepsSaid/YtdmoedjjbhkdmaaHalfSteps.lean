/-
  Rows.HalfStepsSaid: for every state and every number of 8 bits the statement HalfSteps answers true and leaves its arguments as they are. It stands on no condition.
-/
import Derived.Test.YtdmoedjjbhkdmaaHfStepsW
import Derived.Test.YtdmoedjjbhkdmaaHfX
import Derived.Test.YtdmoedjjbhkdmaaHfP
namespace Go.Proofs.Ytdmoedjjbhkdmaa.halfSteps
open Go.ChangeShapes Go.WideShapes Go.ChangeAt Go.RowKit Go.Joins
set_option linter.unusedVariables false

set_option maxRecDepth 100000 in
theorem lifted (os : Os) (started : os.Started) (H : Type) (enc : TypeId × Value → H) :
    ReturnsInHanded {} Try.checked os 4 .any (Rows.halfStepsSpec.pre6 enc Try.prog Try.f4 Rows.halfStepsRow.domain false) (Rows.halfStepsSpec.post enc Try.prog Try.f4 false true false false) := by
  refine returnsInHanded_of_change (C := Try.checked) own started (by kernel_rfl) Try.func4
    (ChangeSpec.witness6 (enc := enc) (C := Try.checked) false ⟨#[], #[.agg #[.int .u64 0, .int .u64 0, .int .u32 0, .int .u32 0, .bool false], .int .u8 0], []⟩ 8 (by kernel_rfl) (by kernel_rfl) (by kernel_rfl) (by kernel_rfl)) ?_
  intro W base args ds gs before hval0 hW hcnd _
  have hval : ∀ (j : Nat) t v, Try.f4.params[j]? = some t → args[j]? = some v → Value.okWide Try.prog W .any base t v := hval0
  have hW' := hW
  obtain ⟨p, q, hA0, hV, rfl, hfz, hnd⟩ := hW
  have hA : DataW.TrodAll enc Try.prog W 0 (fun _ => true) true Try.f4.params.toList args.toList ds p := hA0
  rw [Try.params4] at hA hval
  obtain ⟨v0, v1, d0, d1, p0, p1, rfl, rfl, rfl, h0, h1⟩ := trodAll_two hA
  obtain ⟨rfl, rfl⟩ := trodVars_none hV
  obtain ⟨ss, ws, rfl, rfl, rfl, zs⟩ := openHs (hval 0 29 v0 rfl rfl) h0
  obtain ⟨nn, rfl, rfl, rfl, wn⟩ := open_int Try.underlying5 (hval 1 5 v1 rfl rfl) h1
  have bn := bounds_u8 wn
  obtain ⟨nn, rfl⟩ := Int.eq_ofNat_of_zero_le bn.1
  clear hA0 hval0
  simp only [List.append_nil] at hW'
  refine (halfSteps hf awake12h ss ws nn (by omega) _).mono fun e W' ⟨he, hb⟩ => ?_
  subst he
  have again : ∀ sp : Nat → Bool, (∀ q ∈ ([] : List MemPlace) ++ (([] : List MemPlace)), sp q.block = true) → DataW.TrodAll enc Try.prog W' 0 sp true [29, 5] [ss.val, .int .u8 (nn : Int)] [Hs.data ss, .lit (.int .u8 (nn : Int))] (([] : List MemPlace) ++ (([] : List MemPlace))) := fun sp hs =>
    trodAll_mk2 (zs _ sp) (shut_int Try.underlying5 wn)
  exact ⟨_, rfl, post_of_below (pa := ([] : List MemPlace) ++ (([] : List MemPlace))) (pv := []) hW' (fun _ _ _ => trodAll_mk1 (shut_bool Try.underlying4 _)) (fun sp hs => again sp (fun q hq => (by simp at hq))) (fun _ _ => rfl) (by simp)
    hb (ok_one (by kernel_rfl) rfl (okWide_bool_mk Try.underlying4 _))⟩

theorem over : Rows.halfStepsRow.holds Try.pinned (OpenSpec.ofChange Rows.halfStepsSpec) :=
  OpenClaim.holds_of_wide 4 Try.f4 rfl rfl rfl rfl rfl rfl rfl ⟨rfl, rfl, rfl, rfl, rfl⟩ rfl rfl rfl rfl rfl (by kernel_rfl) Try.func4 (by kernel_rfl)
    (of_decide_eq_true (by kernel_rfl)) (by unfold Func.isWrapper; first | (rw [if_pos (by decide +kernel)]; kernel_rfl) | (rw [if_neg (by decide +kernel)]; exact ⟨rfl, rfl⟩))
    (fun os started H enc _ => lifted os started H enc)
end Go.Proofs.Ytdmoedjjbhkdmaa.halfSteps
namespace Go.Proofs.Ytdmoedjjbhkdmaa
theorem halfSteps_holds : Rows.HalfStepsSaid := halfSteps.over
#print axioms halfSteps_holds
end Go.Proofs.Ytdmoedjjbhkdmaa
