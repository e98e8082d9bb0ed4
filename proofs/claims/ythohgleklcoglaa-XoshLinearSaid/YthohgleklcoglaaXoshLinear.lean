/-
  Rows.XoshLinearSaid: for every two states and every number of 8 bits the statement XoshLinear answers true and leaves its arguments as they are. It stands on no condition.
-/
import Derived.Test.YthohgleklcoglaaXoshLinearW
import Derived.Test.YthohgleklcoglaaXshP
namespace Go.Proofs.Ythohgleklcoglaa.xoshLinear
open Go.ChangeShapes Go.WideShapes Go.ChangeAt Go.RowKit Go.Joins
set_option linter.unusedVariables false

set_option maxRecDepth 100000 in
theorem lifted (os : Os) (started : os.Started) (H : Type) (enc : TypeId × Value → H) :
    ReturnsInHanded {} Try.checked os 5 .any (Rows.xoshLinearSpec.pre6 enc Try.prog Try.f5 Rows.xoshLinearRow.domain false) (Rows.xoshLinearSpec.post enc Try.prog Try.f5 false true false false) := by
  refine returnsInHanded_of_change (C := Try.checked) own started (by kernel_rfl) Try.func5
    (ChangeSpec.witness6 (enc := enc) (C := Try.checked) false ⟨#[], #[.agg #[.int .u64 0, .int .u64 0, .int .u64 0, .int .u64 0], .agg #[.int .u64 0, .int .u64 0, .int .u64 0, .int .u64 0], .int .u8 0], []⟩ 8 (by kernel_rfl) (by kernel_rfl) (by kernel_rfl) (by kernel_rfl)) ?_
  intro W base args ds gs before hval0 hW hcnd _
  have hval : ∀ (j : Nat) t v, Try.f5.params[j]? = some t → args[j]? = some v → Value.okWide Try.prog W .any base t v := hval0
  have hW' := hW
  obtain ⟨p, q, hA0, hV, rfl, hfz, hnd⟩ := hW
  have hA : DataW.TrodAll enc Try.prog W 0 (fun _ => true) true Try.f5.params.toList args.toList ds p := hA0
  rw [Try.params5] at hA hval
  obtain ⟨v0, v1, v2, d0, d1, d2, p0, p1, p2, rfl, rfl, rfl, h0, h1, h2⟩ := trodAll_three hA
  obtain ⟨rfl, rfl⟩ := trodVars_none hV
  obtain ⟨ss, ws, rfl, rfl, rfl, zs⟩ := openSt (hval 0 24 v0 rfl rfl) h0
  obtain ⟨st, wt, rfl, rfl, rfl, zt⟩ := openSt (hval 1 24 v1 rfl rfl) h1
  obtain ⟨nn, rfl, rfl, rfl, wn⟩ := open_int Try.underlying5 (hval 2 5 v2 rfl rfl) h2
  have bn := bounds_u8 wn
  obtain ⟨nn, rfl⟩ := Int.eq_ofNat_of_zero_le bn.1
  clear hA0 hval0
  simp only [List.append_nil] at hW'
  refine (xoshLinear ss st nn ws wt (by omega) _).mono fun e W' ⟨he, hb⟩ => ?_
  subst he
  have again : ∀ sp : Nat → Bool, (∀ q ∈ ([] : List MemPlace) ++ (([] : List MemPlace) ++ (([] : List MemPlace))), sp q.block = true) → DataW.TrodAll enc Try.prog W' 0 sp true [24, 24, 5] [ss.val, st.val, .int .u8 (nn : Int)] [St.data ss, St.data st, .lit (.int .u8 (nn : Int))] (([] : List MemPlace) ++ (([] : List MemPlace) ++ (([] : List MemPlace)))) := fun sp hs =>
    trodAll_mk3 (zs _ sp) (zt _ sp) (shut_int Try.underlying5 wn)
  exact ⟨_, rfl, post_of_below (pa := ([] : List MemPlace) ++ (([] : List MemPlace) ++ (([] : List MemPlace)))) (pv := []) hW' (fun _ _ _ => trodAll_mk1 (shut_bool Try.underlying4 _)) (fun sp hs => again sp (fun q hq => (by simp at hq))) (fun _ _ => rfl) (by simp)
    hb (ok_one (by kernel_rfl) rfl (okWide_bool_mk Try.underlying4 _))⟩

theorem over : Rows.xoshLinearRow.holds Try.pinned (OpenSpec.ofChange Rows.xoshLinearSpec) :=
  OpenClaim.holds_of_wide 5 Try.f5 rfl rfl rfl rfl rfl rfl rfl ⟨rfl, rfl, rfl, rfl, rfl⟩ rfl rfl rfl rfl rfl (by kernel_rfl) Try.func5 (by kernel_rfl)
    (of_decide_eq_true (by kernel_rfl)) (by unfold Func.isWrapper; first | (rw [if_pos (by decide +kernel)]; kernel_rfl) | (rw [if_neg (by decide +kernel)]; exact ⟨rfl, rfl⟩))
    (fun os started H enc _ => lifted os started H enc)
end Go.Proofs.Ythohgleklcoglaa.xoshLinear
namespace Go.Proofs.Ythohgleklcoglaa
theorem xoshLinear_holds : Rows.XoshLinearSaid := xoshLinear.over
#print axioms xoshLinear_holds
end Go.Proofs.Ythohgleklcoglaa
