/-
  Rows.MixApartSaid: for every three numbers of 64 bits the statement MixApart answers true and leaves its arguments as they are. It stands on no condition.
-/
import Derived.Test.YteldmnjgjijocaaMixApartW
import Derived.Test.YteldmnjgjijocaaUnA
namespace Go.Proofs.Yteldmnjgjijocaa.mixApart
open Go.ChangeShapes Go.WideShapes Go.ChangeAt Go.RowKit Go.Joins
set_option linter.unusedVariables false

set_option maxRecDepth 100000 in
theorem lifted (os : Os) (started : os.Started) (H : Type) (enc : TypeId × Value → H) :
    ReturnsInHanded {} Try.checked os 6 .any (Rows.mixApartSpec.pre6 enc Try.prog Try.f6 Rows.mixApartRow.domain false) (Rows.mixApartSpec.post enc Try.prog Try.f6 false true false false) := by
  refine returnsInHanded_of_change (C := Try.checked) own started (by kernel_rfl) Try.func6
    (ChangeSpec.witness6 (enc := enc) (C := Try.checked) false ⟨#[], #[.int .u64 0, .int .u64 0, .int .u64 0], []⟩ 8 (by kernel_rfl) (by kernel_rfl) (by kernel_rfl) (by kernel_rfl)) ?_
  intro W base args ds gs before hval0 hW hcnd _
  have hval : ∀ (j : Nat) t v, Try.f6.params[j]? = some t → args[j]? = some v → Value.okWide Try.prog W .any base t v := hval0
  have hW' := hW
  obtain ⟨p, q, hA0, hV, rfl, hfz, hnd⟩ := hW
  have hA : DataW.TrodAll enc Try.prog W 0 (fun _ => true) true Try.f6.params.toList args.toList ds p := hA0
  rw [Try.params6] at hA hval
  obtain ⟨v0, v1, v2, d0, d1, d2, p0, p1, p2, rfl, rfl, rfl, h0, h1, h2⟩ := trodAll_three hA
  obtain ⟨rfl, rfl⟩ := trodVars_none hV
  obtain ⟨ns, rfl, rfl, rfl, ws⟩ := open_int Try.underlying22 (hval 0 22 v0 rfl rfl) h0
  have bs := bounds_u64 ws
  obtain ⟨ns, rfl⟩ := Int.eq_ofNat_of_zero_le bs.1
  obtain ⟨nn, rfl, rfl, rfl, wn⟩ := open_int Try.underlying22 (hval 1 22 v1 rfl rfl) h1
  have bn := bounds_u64 wn
  obtain ⟨nn, rfl⟩ := Int.eq_ofNat_of_zero_le bn.1
  obtain ⟨nm, rfl, rfl, rfl, wm⟩ := open_int Try.underlying22 (hval 2 22 v2 rfl rfl) h2
  have bm := bounds_u64 wm
  obtain ⟨nm, rfl⟩ := Int.eq_ofNat_of_zero_le bm.1
  clear hA0 hval0
  simp only [List.append_nil] at hW'
  refine (mixApart ns nn nm (by omega) (by omega) (by omega) _).mono fun e W' ⟨he, hb⟩ => ?_
  subst he
  have again : ∀ sp : Nat → Bool, (∀ q ∈ ([] : List MemPlace) ++ (([] : List MemPlace) ++ (([] : List MemPlace))), sp q.block = true) → DataW.TrodAll enc Try.prog W' 0 sp true [22, 22, 22] [.int .u64 (ns : Int), .int .u64 (nn : Int), .int .u64 (nm : Int)] [.lit (.int .u64 (ns : Int)), .lit (.int .u64 (nn : Int)), .lit (.int .u64 (nm : Int))] (([] : List MemPlace) ++ (([] : List MemPlace) ++ (([] : List MemPlace)))) := fun sp hs =>
    trodAll_mk3 (shut_int Try.underlying22 ws) (shut_int Try.underlying22 wn) (shut_int Try.underlying22 wm)
  exact ⟨_, rfl, post_of_below (pa := ([] : List MemPlace) ++ (([] : List MemPlace) ++ (([] : List MemPlace)))) (pv := []) hW' (fun _ _ _ => trodAll_mk1 (shut_bool Try.underlying4 _)) (fun sp hs => again sp (fun q hq => (by simp at hq))) (fun _ _ => rfl) (by simp)
    hb (ok_one (by kernel_rfl) rfl (okWide_bool_mk Try.underlying4 _))⟩

theorem over : Rows.mixApartRow.holds Try.pinned (OpenSpec.ofChange Rows.mixApartSpec) :=
  OpenClaim.holds_of_wide 6 Try.f6 rfl rfl rfl rfl rfl rfl rfl ⟨rfl, rfl, rfl, rfl, rfl⟩ rfl rfl rfl rfl rfl (by kernel_rfl) Try.func6 (by kernel_rfl)
    (of_decide_eq_true (by kernel_rfl)) (by unfold Func.isWrapper; first | (rw [if_pos (by decide +kernel)]; kernel_rfl) | (rw [if_neg (by decide +kernel)]; exact ⟨rfl, rfl⟩))
    (fun os started H enc _ => lifted os started H enc)
end Go.Proofs.Yteldmnjgjijocaa.mixApart
namespace Go.Proofs.Yteldmnjgjijocaa
theorem mixApart_holds : Rows.MixApartSaid := mixApart.over
#print axioms mixApart_holds
end Go.Proofs.Yteldmnjgjijocaa
