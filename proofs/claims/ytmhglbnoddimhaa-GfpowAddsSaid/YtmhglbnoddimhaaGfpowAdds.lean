/-
  Rows.GfpowAddsSaid: for every two polynomials of package gfp and every two numbers of 64 bits the statement GfpowAdds answers true and leaves its arguments as they were. No condition.
-/
import Derived.Test.YtmhglbnoddimhaaGfwAddsW
import Derived.Test.YtmhglbnoddimhaaGfpP
namespace Go.Proofs.Ytmhglbnoddimhaa.gfpowAdds
open Go.ChangeShapes Go.WideShapes Go.ChangeAt Go.RowKit Go.Joins
set_option linter.unusedVariables false

set_option maxRecDepth 100000 in
theorem lifted (os : Os) (started : os.Started) (H : Type) (enc : TypeId × Value → H) :
    ReturnsInHanded {} Try.checked os 5 .any (Rows.gfpowAddsSpec.pre6 enc Try.prog Try.f5 Rows.gfpowAddsRow.domain false) (Rows.gfpowAddsSpec.post enc Try.prog Try.f5 false true false false) := by
  refine returnsInHanded_of_change (C := Try.checked) own started (by kernel_rfl) Try.func5
    (ChangeSpec.witness6 (enc := enc) (C := Try.checked) false ⟨#[], #[.slice none 0 0, .slice none 0 0, .int .u64 0, .int .u64 0], []⟩ 8 (by kernel_rfl) (by kernel_rfl) (by kernel_rfl) (by kernel_rfl)) ?_
  intro W base args ds gs before hval0 hW hcnd _
  have hval : ∀ (j : Nat) t v, Try.f5.params[j]? = some t → args[j]? = some v → Value.okWide Try.prog W .any base t v := hval0
  have hW' := hW
  obtain ⟨p, q, hA0, hV, rfl, hfz, hnd⟩ := hW
  have hA : DataW.TrodAll enc Try.prog W 0 (fun _ => true) true Try.f5.params.toList args.toList ds p := hA0
  rw [Try.params5] at hA hval
  obtain ⟨v0, v1, v2, v3, d0, d1, d2, d3, p0, p1, p2, p3, rfl, rfl, rfl, h0, h1, h2, h3⟩ := trodAll_four hA
  obtain ⟨rfl, rfl⟩ := trodVars_none hV
  obtain ⟨Aa, La, ca, xsa, rfl, la, Pa⟩ := openP Try.underlying23 (hval 0 23 v0 rfl rfl) h0
  obtain ⟨Ab, Lb, cb, xsb, rfl, lb, Pb⟩ := openP Try.underlying23 (hval 1 23 v1 rfl rfl) h1
  obtain ⟨nn, rfl, rfl, rfl, wn⟩ := open_int Try.underlying24 (hval 2 24 v2 rfl rfl) h2
  have bn := bounds_u64 wn
  obtain ⟨nn, rfl⟩ := Int.eq_ofNat_of_zero_le bn.1
  obtain ⟨nm, rfl, rfl, rfl, wm⟩ := open_int Try.underlying24 (hval 3 24 v3 rfl rfl) h3
  have bm := bounds_u64 wm
  obtain ⟨nm, rfl⟩ := Int.eq_ofNat_of_zero_le bm.1
  clear hA0 hval0
  simp only [List.append_nil] at hW'
  refine (addsWalk Aa Ab ca cb La Lb nn nm xsa xsb W Pa Pb la lb (by omega) (by omega)).mono fun e W' ⟨he, hb⟩ => ?_
  subst he
  have again : ∀ sp : Nat → Bool, (∀ q ∈ p0 ++ (p1 ++ (([] : List MemPlace) ++ (([] : List MemPlace)))), sp q.block = true) → DataW.TrodAll enc Try.prog W' 0 sp true [23, 23, 24, 24] [.slice Aa La ca, .slice Ab Lb cb, .int .u64 (nn : Int), .int .u64 (nm : Int)] [d0, d1, .lit (.int .u64 (nn : Int)), .lit (.int .u64 (nm : Int))] (p0 ++ (p1 ++ (([] : List MemPlace) ++ (([] : List MemPlace))))) := fun sp hs =>
    trodAll_mk4 (trod_below (by kernel_rfl) (of_decide_eq_true (by kernel_rfl)) h0 hb (fun q hq => hs q (by simp [hq]))) (trod_below (by kernel_rfl) (of_decide_eq_true (by kernel_rfl)) h1 hb (fun q hq => hs q (by simp [hq]))) (shut_int Try.underlying24 wn) (shut_int Try.underlying24 wm)
  exact ⟨_, rfl, post_of_below (pa := p0 ++ (p1 ++ (([] : List MemPlace) ++ (([] : List MemPlace))))) (pv := []) hW' (fun _ _ _ => trodAll_mk1 (shut_bool Try.underlying4 _)) (fun sp hs => again sp (fun q hq => hs q (by simpa using hq))) (fun _ _ => rfl) (by simp)
    hb (ok_one (by kernel_rfl) rfl (okWide_bool_mk Try.underlying4 _))⟩

theorem over : Rows.gfpowAddsRow.holds Try.pinned (OpenSpec.ofChange Rows.gfpowAddsSpec) :=
  OpenClaim.holds_of_wide 5 Try.f5 rfl rfl rfl rfl rfl rfl rfl ⟨rfl, rfl, rfl, rfl, rfl⟩ rfl rfl rfl rfl rfl (by kernel_rfl) Try.func5 (by kernel_rfl)
    (of_decide_eq_true (by kernel_rfl)) (by unfold Func.isWrapper; first | (rw [if_pos (by decide +kernel)]; kernel_rfl) | (rw [if_neg (by decide +kernel)]; exact ⟨rfl, rfl⟩))
    (fun os started H enc _ => lifted os started H enc)
end Go.Proofs.Ytmhglbnoddimhaa.gfpowAdds
namespace Go.Proofs.Ytmhglbnoddimhaa
theorem gfpowAdds_holds : Rows.GfpowAddsSaid := gfpowAdds.over
#print axioms gfpowAdds_holds
end Go.Proofs.Ytmhglbnoddimhaa
