/-
  Rows.BoundRowSaid: for every three numbers of 64 bits the statement BoundRow answers true and leaves its arguments as they are. It stands on no condition.
-/
import Derived.Test.YtkpignbmocpcaaaGreatBdRowW
import Derived.Test.YtkpignbmocpcaaaGreatBdX
import Derived.Test.YtkpignbmocpcaaaGreatBdPo
namespace Go.Proofs.YtkpignbmocpcaaaGreat.boundRow
open Go.ChangeShapes Go.WideShapes Go.ChangeAt Go.RowKit Go.Joins
set_option linter.unusedVariables false

set_option maxRecDepth 100000 in
theorem lifted (os : Os) (started : os.Started) (H : Type) (enc : TypeId × Value → H) :
    ReturnsInHanded {} Tryz.checked os 4 .any (Rows.boundRowSpec.pre6 enc Tryz.prog Tryz.f4 Rows.boundRowRow.domain false) (Rows.boundRowSpec.post enc Tryz.prog Tryz.f4 false true false false) := by
  refine returnsInHanded_of_change (C := Tryz.checked) own started (by kernel_rfl) Tryz.func4
    (ChangeSpec.witness6 (enc := enc) (C := Tryz.checked) false ⟨#[], #[.int .u64 0, .int .u64 0, .int .u64 0], []⟩ 8 (by kernel_rfl) (by kernel_rfl) (by kernel_rfl) (by kernel_rfl)) ?_
  intro W base args ds gs before hval0 hW hcnd _
  have hval : ∀ (j : Nat) t v, Tryz.f4.params[j]? = some t → args[j]? = some v → Value.okWide Tryz.prog W .any base t v := hval0
  have hW' := hW
  obtain ⟨p, q, hA0, hV, rfl, hfz, hnd⟩ := hW
  have hA : DataW.TrodAll enc Tryz.prog W 0 (fun _ => true) true Tryz.f4.params.toList args.toList ds p := hA0
  rw [Tryz.params4] at hA hval
  obtain ⟨v0, v1, v2, d0, d1, d2, p0, p1, p2, rfl, rfl, rfl, h0, h1, h2⟩ := trodAll_three hA
  obtain ⟨rfl, rfl⟩ := trodVars_none hV
  obtain ⟨nb, rfl, rfl, rfl, wb⟩ := open_int Tryz.underlying22 (hval 0 22 v0 rfl rfl) h0
  have bb := bounds_u64 wb
  obtain ⟨nb, rfl⟩ := Int.eq_ofNat_of_zero_le bb.1
  obtain ⟨nv, rfl, rfl, rfl, wv⟩ := open_int Tryz.underlying22 (hval 1 22 v1 rfl rfl) h1
  have bv := bounds_u64 wv
  obtain ⟨nv, rfl⟩ := Int.eq_ofNat_of_zero_le bv.1
  obtain ⟨nx, rfl, rfl, rfl, wx⟩ := open_int Tryz.underlying22 (hval 2 22 v2 rfl rfl) h2
  have bx := bounds_u64 wx
  obtain ⟨nx, rfl⟩ := Int.eq_ofNat_of_zero_le bx.1
  clear hA0 hval0
  simp only [List.append_nil] at hW'
  refine (boundRow (Lib.hid (awake18 bnd)) bnd (b := nb) (v := nv) (x := nx) (by show _ < 18446744073709551616; omega) (by show _ < 18446744073709551616; omega) (by show _ < 18446744073709551616; omega) _).mono fun e W' ⟨he, hb⟩ => ?_
  subst he
  have again : ∀ sp : Nat → Bool, (∀ q ∈ ([] : List MemPlace) ++ (([] : List MemPlace) ++ (([] : List MemPlace))), sp q.block = true) → DataW.TrodAll enc Tryz.prog W' 0 sp true [22, 22, 22] [.int .u64 (nb : Int), .int .u64 (nv : Int), .int .u64 (nx : Int)] [.lit (.int .u64 (nb : Int)), .lit (.int .u64 (nv : Int)), .lit (.int .u64 (nx : Int))] (([] : List MemPlace) ++ (([] : List MemPlace) ++ (([] : List MemPlace)))) := fun sp hs =>
    trodAll_mk3 (shut_int Tryz.underlying22 wb) (shut_int Tryz.underlying22 wv) (shut_int Tryz.underlying22 wx)
  exact ⟨_, rfl, post_of_below (pa := ([] : List MemPlace) ++ (([] : List MemPlace) ++ (([] : List MemPlace)))) (pv := []) hW' (fun _ _ _ => trodAll_mk1 (shut_bool Tryz.underlying4 _)) (fun sp hs => again sp (fun q hq => (by simp at hq))) (fun _ _ => rfl) (by simp)
    hb (ok_one (by kernel_rfl) rfl (okWide_bool_mk Tryz.underlying4 _))⟩

theorem over : Rows.boundRowRow.holds Tryz.pinned (OpenSpec.ofChange Rows.boundRowSpec) :=
  OpenClaim.holds_of_wide 4 Tryz.f4 rfl rfl rfl rfl rfl rfl rfl ⟨rfl, rfl, rfl, rfl, rfl⟩ rfl rfl rfl rfl rfl (by kernel_rfl) Tryz.func4 (by kernel_rfl)
    (of_decide_eq_true (by kernel_rfl)) (by unfold Func.isWrapper; first | (rw [if_pos (by decide +kernel)]; kernel_rfl) | (rw [if_neg (by decide +kernel)]; exact ⟨rfl, rfl⟩))
    (fun os started H enc _ => lifted os started H enc)
end Go.Proofs.YtkpignbmocpcaaaGreat.boundRow
namespace Go.Proofs.YtkpignbmocpcaaaGreat
theorem boundRow_holds : Rows.BoundRowSaid := boundRow.over
#print axioms boundRow_holds
end Go.Proofs.YtkpignbmocpcaaaGreat
