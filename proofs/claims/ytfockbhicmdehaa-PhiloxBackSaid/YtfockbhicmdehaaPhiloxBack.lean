/-
  Rows.PhiloxBackSaid: for every block, every key and every number of 8 bits the statement PhiloxBack answers true and leaves its arguments as they are. It stands on no condition.
-/
import Derived.Test.YtfockbhicmdehaaPhBackW
import Derived.Test.YtfockbhicmdehaaPhX
import Derived.Test.YtfockbhicmdehaaPhP
namespace Go.Proofs.Ytfockbhicmdehaa.philoxBack
open Go.ChangeShapes Go.WideShapes Go.ChangeAt Go.RowKit Go.Joins
set_option linter.unusedVariables false

set_option maxRecDepth 100000 in
theorem lifted (os : Os) (started : os.Started) (H : Type) (enc : TypeId × Value → H) :
    ReturnsInHanded {} Try.checked os 4 .any (Rows.philoxBackSpec.pre6 enc Try.prog Try.f4 Rows.philoxBackRow.domain false) (Rows.philoxBackSpec.post enc Try.prog Try.f4 false true false false) := by
  refine returnsInHanded_of_change (C := Try.checked) own started (by kernel_rfl) Try.func4
    (ChangeSpec.witness6 (enc := enc) (C := Try.checked) false ⟨#[], #[.agg #[.int .u32 0, .int .u32 0, .int .u32 0, .int .u32 0], .agg #[.int .u32 0, .int .u32 0], .int .u8 0], []⟩ 8 (by kernel_rfl) (by kernel_rfl) (by kernel_rfl) (by kernel_rfl)) ?_
  intro W base args ds gs before hval0 hW hcnd _
  have hval : ∀ (j : Nat) t v, Try.f4.params[j]? = some t → args[j]? = some v → Value.okWide Try.prog W .any base t v := hval0
  have hW' := hW
  obtain ⟨p, q, hA0, hV, rfl, hfz, hnd⟩ := hW
  have hA : DataW.TrodAll enc Try.prog W 0 (fun _ => true) true Try.f4.params.toList args.toList ds p := hA0
  rw [Try.params4] at hA hval
  obtain ⟨v0, v1, v2, d0, d1, d2, p0, p1, p2, rfl, rfl, rfl, h0, h1, h2⟩ := trodAll_three hA
  obtain ⟨rfl, rfl⟩ := trodVars_none hV
  obtain ⟨sb, wb, rfl, rfl, rfl, zb⟩ := openBk (hval 0 24 v0 rfl rfl) h0
  obtain ⟨sk, wk, rfl, rfl, rfl, zk⟩ := openKy (hval 1 26 v1 rfl rfl) h1
  obtain ⟨nr, rfl, rfl, rfl, wr⟩ := open_int Try.underlying5 (hval 2 5 v2 rfl rfl) h2
  have br := bounds_u8 wr
  obtain ⟨nr, rfl⟩ := Int.eq_ofNat_of_zero_le br.1
  clear hA0 hval0
  simp only [List.append_nil] at hW'
  refine (philoxBack hx awake11h sb sk wb wk nr (by omega) _).mono fun e W' ⟨he, hb⟩ => ?_
  subst he
  have again : ∀ sp : Nat → Bool, (∀ q ∈ ([] : List MemPlace) ++ (([] : List MemPlace) ++ (([] : List MemPlace))), sp q.block = true) → DataW.TrodAll enc Try.prog W' 0 sp true [24, 26, 5] [sb.val, sk.val, .int .u8 (nr : Int)] [Bk.data sb, Ky.data sk, .lit (.int .u8 (nr : Int))] (([] : List MemPlace) ++ (([] : List MemPlace) ++ (([] : List MemPlace)))) := fun sp hs =>
    trodAll_mk3 (zb _ sp) (zk _ sp) (shut_int Try.underlying5 wr)
  exact ⟨_, rfl, post_of_below (pa := ([] : List MemPlace) ++ (([] : List MemPlace) ++ (([] : List MemPlace)))) (pv := []) hW' (fun _ _ _ => trodAll_mk1 (shut_bool Try.underlying4 _)) (fun sp hs => again sp (fun q hq => (by simp at hq))) (fun _ _ => rfl) (by simp)
    hb (ok_one (by kernel_rfl) rfl (okWide_bool_mk Try.underlying4 _))⟩

theorem over : Rows.philoxBackRow.holds Try.pinned (OpenSpec.ofChange Rows.philoxBackSpec) :=
  OpenClaim.holds_of_wide 4 Try.f4 rfl rfl rfl rfl rfl rfl rfl ⟨rfl, rfl, rfl, rfl, rfl⟩ rfl rfl rfl rfl rfl (by kernel_rfl) Try.func4 (by kernel_rfl)
    (of_decide_eq_true (by kernel_rfl)) (by unfold Func.isWrapper; first | (rw [if_pos (by decide +kernel)]; kernel_rfl) | (rw [if_neg (by decide +kernel)]; exact ⟨rfl, rfl⟩))
    (fun os started H enc _ => lifted os started H enc)
end Go.Proofs.Ytfockbhicmdehaa.philoxBack
namespace Go.Proofs.Ytfockbhicmdehaa
theorem philoxBack_holds : Rows.PhiloxBackSaid := philoxBack.over
#print axioms philoxBack_holds
end Go.Proofs.Ytfockbhicmdehaa
