/-
  Rows.GfpowFieldSaid: for every two numbers of 64 bits the statement GfpowField answers true. No condition.
-/
import Derived.Test.YtmhglbnoddimhaaGfwFieldW
import Derived.Test.YtmhglbnoddimhaaGfpP
namespace Go.Proofs.Ytmhglbnoddimhaa.gfpowField
open Go.ChangeShapes Go.WideShapes Go.ChangeAt Go.RowKit Go.Joins
set_option linter.unusedVariables false

set_option maxRecDepth 100000 in
theorem lifted (os : Os) (started : os.Started) (H : Type) (enc : TypeId × Value → H) :
    ReturnsInHanded {} Try.checked os 7 .any (Rows.gfpowFieldSpec.pre6 enc Try.prog Try.f7 Rows.gfpowFieldRow.domain false) (Rows.gfpowFieldSpec.post enc Try.prog Try.f7 false true false false) := by
  refine returnsInHanded_of_change (C := Try.checked) own started (by kernel_rfl) Try.func7
    (ChangeSpec.witness6 (enc := enc) (C := Try.checked) false ⟨#[], #[.int .u64 0, .int .u64 0], []⟩ 8 (by kernel_rfl) (by kernel_rfl) (by kernel_rfl) (by kernel_rfl)) ?_
  intro W base args ds gs before hval0 hW hcnd _
  have hval : ∀ (j : Nat) t v, Try.f7.params[j]? = some t → args[j]? = some v → Value.okWide Try.prog W .any base t v := hval0
  have hW' := hW
  obtain ⟨p, q, hA0, hV, rfl, hfz, hnd⟩ := hW
  have hA : DataW.TrodAll enc Try.prog W 0 (fun _ => true) true Try.f7.params.toList args.toList ds p := hA0
  rw [Try.params7] at hA hval
  obtain ⟨v0, v1, d0, d1, p0, p1, rfl, rfl, rfl, h0, h1⟩ := trodAll_two hA
  obtain ⟨rfl, rfl⟩ := trodVars_none hV
  obtain ⟨np, rfl, rfl, rfl, wp⟩ := open_int Try.underlying24 (hval 0 24 v0 rfl rfl) h0
  have bp := bounds_u64 wp
  obtain ⟨np, rfl⟩ := Int.eq_ofNat_of_zero_le bp.1
  obtain ⟨na, rfl, rfl, rfl, wa⟩ := open_int Try.underlying24 (hval 1 24 v1 rfl rfl) h1
  have ba := bounds_u64 wa
  obtain ⟨na, rfl⟩ := Int.eq_ofNat_of_zero_le ba.1
  clear hA0 hval0
  simp only [List.append_nil] at hW'
  refine (fieldWalk np na (by omega) (by omega) W).mono fun e W' ⟨he, hb⟩ => ?_
  subst he
  have again : ∀ sp : Nat → Bool, (∀ q ∈ ([] : List MemPlace) ++ (([] : List MemPlace)), sp q.block = true) → DataW.TrodAll enc Try.prog W' 0 sp true [24, 24] [.int .u64 (np : Int), .int .u64 (na : Int)] [.lit (.int .u64 (np : Int)), .lit (.int .u64 (na : Int))] (([] : List MemPlace) ++ (([] : List MemPlace))) := fun sp hs =>
    trodAll_mk2 (shut_int Try.underlying24 wp) (shut_int Try.underlying24 wa)
  exact ⟨_, rfl, post_of_below (pa := ([] : List MemPlace) ++ (([] : List MemPlace))) (pv := []) hW' (fun _ _ _ => trodAll_mk1 (shut_bool Try.underlying4 _)) (fun sp hs => again sp (fun q hq => (by simp at hq))) (fun _ _ => rfl) (by simp)
    hb (ok_one (by kernel_rfl) rfl (okWide_bool_mk Try.underlying4 _))⟩

theorem over : Rows.gfpowFieldRow.holds Try.pinned (OpenSpec.ofChange Rows.gfpowFieldSpec) :=
  OpenClaim.holds_of_wide 7 Try.f7 rfl rfl rfl rfl rfl rfl rfl ⟨rfl, rfl, rfl, rfl, rfl⟩ rfl rfl rfl rfl rfl (by kernel_rfl) Try.func7 (by kernel_rfl)
    (of_decide_eq_true (by kernel_rfl)) (by unfold Func.isWrapper; first | (rw [if_pos (by decide +kernel)]; kernel_rfl) | (rw [if_neg (by decide +kernel)]; exact ⟨rfl, rfl⟩))
    (fun os started H enc _ => lifted os started H enc)
end Go.Proofs.Ytmhglbnoddimhaa.gfpowField
namespace Go.Proofs.Ytmhglbnoddimhaa
theorem gfpowField_holds : Rows.GfpowFieldSaid := gfpowField.over
#print axioms gfpowField_holds
end Go.Proofs.Ytmhglbnoddimhaa
