/-
  Rows.GfpowPlainSaid: for every two polynomials of package gfp and every number of 8 bits the statement GfpowPlain answers true and leaves its arguments as they were. No condition.
-/
import Derived.Test.YtmhglbnoddimhaaGfwPlainW
import Derived.Test.YtmhglbnoddimhaaGfpP
namespace Go.Proofs.Ytmhglbnoddimhaa.gfpowPlain
open Go.ChangeShapes Go.WideShapes Go.ChangeAt Go.RowKit Go.Joins
set_option linter.unusedVariables false

set_option maxRecDepth 100000 in
theorem lifted (os : Os) (started : os.Started) (H : Type) (enc : TypeId × Value → H) :
    ReturnsInHanded {} Try.checked os 4 .any (Rows.gfpowPlainSpec.pre6 enc Try.prog Try.f4 Rows.gfpowPlainRow.domain false) (Rows.gfpowPlainSpec.post enc Try.prog Try.f4 false true false false) := by
  refine returnsInHanded_of_change (C := Try.checked) own started (by kernel_rfl) Try.func4
    (ChangeSpec.witness6 (enc := enc) (C := Try.checked) false ⟨#[], #[.slice none 0 0, .slice none 0 0, .int .u8 0], []⟩ 8 (by kernel_rfl) (by kernel_rfl) (by kernel_rfl) (by kernel_rfl)) ?_
  intro W base args ds gs before hval0 hW hcnd _
  have hval : ∀ (j : Nat) t v, Try.f4.params[j]? = some t → args[j]? = some v → Value.okWide Try.prog W .any base t v := hval0
  have hW' := hW
  obtain ⟨p, q, hA0, hV, rfl, hfz, hnd⟩ := hW
  have hA : DataW.TrodAll enc Try.prog W 0 (fun _ => true) true Try.f4.params.toList args.toList ds p := hA0
  rw [Try.params4] at hA hval
  obtain ⟨v0, v1, v2, d0, d1, d2, p0, p1, p2, rfl, rfl, rfl, h0, h1, h2⟩ := trodAll_three hA
  obtain ⟨rfl, rfl⟩ := trodVars_none hV
  obtain ⟨Aa, La, ca, xsa, rfl, la, Pa⟩ := openP Try.underlying23 (hval 0 23 v0 rfl rfl) h0
  obtain ⟨Ab, Lb, cb, xsb, rfl, lb, Pb⟩ := openP Try.underlying23 (hval 1 23 v1 rfl rfl) h1
  obtain ⟨nn, rfl, rfl, rfl, wn⟩ := open_int Try.underlying5 (hval 2 5 v2 rfl rfl) h2
  have bn := bounds_u8 wn
  obtain ⟨nn, rfl⟩ := Int.eq_ofNat_of_zero_le bn.1
  clear hA0 hval0
  simp only [List.append_nil] at hW'
  refine (plainWalk Aa Ab ca cb La Lb nn xsa xsb W Pa Pb la lb (by omega)).mono fun e W' ⟨he, hb⟩ => ?_
  subst he
  have again : ∀ sp : Nat → Bool, (∀ q ∈ p0 ++ (p1 ++ (([] : List MemPlace))), sp q.block = true) → DataW.TrodAll enc Try.prog W' 0 sp true [23, 23, 5] [.slice Aa La ca, .slice Ab Lb cb, .int .u8 (nn : Int)] [d0, d1, .lit (.int .u8 (nn : Int))] (p0 ++ (p1 ++ (([] : List MemPlace)))) := fun sp hs =>
    trodAll_mk3 (trod_below (by kernel_rfl) (of_decide_eq_true (by kernel_rfl)) h0 hb (fun q hq => hs q (by simp [hq]))) (trod_below (by kernel_rfl) (of_decide_eq_true (by kernel_rfl)) h1 hb (fun q hq => hs q (by simp [hq]))) (shut_int Try.underlying5 wn)
  exact ⟨_, rfl, post_of_below (pa := p0 ++ (p1 ++ (([] : List MemPlace)))) (pv := []) hW' (fun _ _ _ => trodAll_mk1 (shut_bool Try.underlying4 _)) (fun sp hs => again sp (fun q hq => hs q (by simpa using hq))) (fun _ _ => rfl) (by simp)
    hb (ok_one (by kernel_rfl) rfl (okWide_bool_mk Try.underlying4 _))⟩

theorem over : Rows.gfpowPlainRow.holds Try.pinned (OpenSpec.ofChange Rows.gfpowPlainSpec) :=
  OpenClaim.holds_of_wide 4 Try.f4 rfl rfl rfl rfl rfl rfl rfl ⟨rfl, rfl, rfl, rfl, rfl⟩ rfl rfl rfl rfl rfl (by kernel_rfl) Try.func4 (by kernel_rfl)
    (of_decide_eq_true (by kernel_rfl)) (by unfold Func.isWrapper; first | (rw [if_pos (by decide +kernel)]; kernel_rfl) | (rw [if_neg (by decide +kernel)]; exact ⟨rfl, rfl⟩))
    (fun os started H enc _ => lifted os started H enc)
end Go.Proofs.Ytmhglbnoddimhaa.gfpowPlain
namespace Go.Proofs.Ytmhglbnoddimhaa
theorem gfpowPlain_holds : Rows.GfpowPlainSaid := gfpowPlain.over
#print axioms gfpowPlain_holds
end Go.Proofs.Ytmhglbnoddimhaa
