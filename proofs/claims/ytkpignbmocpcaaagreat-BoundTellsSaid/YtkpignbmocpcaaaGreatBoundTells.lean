/-
  Rows.BoundTellsSaid: for every two numbers of 64 bits the statement BoundTells answers true and leaves its arguments as they are. It stands on no condition.
-/
import Derived.Test.YtkpignbmocpcaaaGreatBdTellsW
import Derived.Test.YtkpignbmocpcaaaGreatBdX
import Derived.Test.YtkpignbmocpcaaaGreatBdPo
namespace Go.Proofs.YtkpignbmocpcaaaGreat.boundTells
open Go.ChangeShapes Go.WideShapes Go.ChangeAt Go.RowKit Go.Joins
set_option linter.unusedVariables false

set_option maxRecDepth 100000 in
theorem lifted (os : Os) (started : os.Started) (H : Type) (enc : TypeId × Value → H) :
    ReturnsInHanded {} Tryz.checked os 3 .any (Rows.boundTellsSpec.pre6 enc Tryz.prog Tryz.f3 Rows.boundTellsRow.domain false) (Rows.boundTellsSpec.post enc Tryz.prog Tryz.f3 false true false false) := by
  refine returnsInHanded_of_change (C := Tryz.checked) own started (by kernel_rfl) Tryz.func3
    (ChangeSpec.witness6 (enc := enc) (C := Tryz.checked) false ⟨#[], #[.int .u64 0, .int .u64 0], []⟩ 8 (by kernel_rfl) (by kernel_rfl) (by kernel_rfl) (by kernel_rfl)) ?_
  intro W base args ds gs before hval0 hW hcnd _
  have hval : ∀ (j : Nat) t v, Tryz.f3.params[j]? = some t → args[j]? = some v → Value.okWide Tryz.prog W .any base t v := hval0
  have hW' := hW
  obtain ⟨p, q, hA0, hV, rfl, hfz, hnd⟩ := hW
  have hA : DataW.TrodAll enc Tryz.prog W 0 (fun _ => true) true Tryz.f3.params.toList args.toList ds p := hA0
  rw [Tryz.params3] at hA hval
  obtain ⟨v0, v1, d0, d1, p0, p1, rfl, rfl, rfl, h0, h1⟩ := trodAll_two hA
  obtain ⟨rfl, rfl⟩ := trodVars_none hV
  obtain ⟨nx, rfl, rfl, rfl, wx⟩ := open_int Tryz.underlying22 (hval 0 22 v0 rfl rfl) h0
  have bx := bounds_u64 wx
  obtain ⟨nx, rfl⟩ := Int.eq_ofNat_of_zero_le bx.1
  obtain ⟨nb, rfl, rfl, rfl, wb⟩ := open_int Tryz.underlying22 (hval 1 22 v1 rfl rfl) h1
  have bb := bounds_u64 wb
  obtain ⟨nb, rfl⟩ := Int.eq_ofNat_of_zero_le bb.1
  clear hA0 hval0
  simp only [List.append_nil] at hW'
  refine (boundTells (Lib.hid (awake18 bnd)) bnd (x := nx) (b := nb) (by show _ < 18446744073709551616; omega) (by show _ < 18446744073709551616; omega) _).mono fun e W' ⟨he, hb⟩ => ?_
  subst he
  have again : ∀ sp : Nat → Bool, (∀ q ∈ ([] : List MemPlace) ++ (([] : List MemPlace)), sp q.block = true) → DataW.TrodAll enc Tryz.prog W' 0 sp true [22, 22] [.int .u64 (nx : Int), .int .u64 (nb : Int)] [.lit (.int .u64 (nx : Int)), .lit (.int .u64 (nb : Int))] (([] : List MemPlace) ++ (([] : List MemPlace))) := fun sp hs =>
    trodAll_mk2 (shut_int Tryz.underlying22 wx) (shut_int Tryz.underlying22 wb)
  exact ⟨_, rfl, post_of_below (pa := ([] : List MemPlace) ++ (([] : List MemPlace))) (pv := []) hW' (fun _ _ _ => trodAll_mk1 (shut_bool Tryz.underlying4 _)) (fun sp hs => again sp (fun q hq => (by simp at hq))) (fun _ _ => rfl) (by simp)
    hb (ok_one (by kernel_rfl) rfl (okWide_bool_mk Tryz.underlying4 _))⟩

theorem over : Rows.boundTellsRow.holds Tryz.pinned (OpenSpec.ofChange Rows.boundTellsSpec) :=
  OpenClaim.holds_of_wide 3 Tryz.f3 rfl rfl rfl rfl rfl rfl rfl ⟨rfl, rfl, rfl, rfl, rfl⟩ rfl rfl rfl rfl rfl (by kernel_rfl) Tryz.func3 (by kernel_rfl)
    (of_decide_eq_true (by kernel_rfl)) (by unfold Func.isWrapper; first | (rw [if_pos (by decide +kernel)]; kernel_rfl) | (rw [if_neg (by decide +kernel)]; exact ⟨rfl, rfl⟩))
    (fun os started H enc _ => lifted os started H enc)
end Go.Proofs.YtkpignbmocpcaaaGreat.boundTells
namespace Go.Proofs.YtkpignbmocpcaaaGreat
theorem boundTells_holds : Rows.BoundTellsSaid := boundTells.over
#print axioms boundTells_holds
end Go.Proofs.YtkpignbmocpcaaaGreat
