/-
  Rows.GfpowTellsSaid: for every two polynomials of package gfp, every number of 128 bits and every int the statement GfpowTells answers true and leaves its arguments as they were. No condition.
-/
import Derived.Test.YtmhglbnoddimhaaGfwTellsV
import Derived.Test.YtmhglbnoddimhaaGfpP
namespace Go.Proofs.Ytmhglbnoddimhaa.gfpowTells
open Go.ChangeShapes Go.WideShapes Go.ChangeAt Go.RowKit Go.Joins
set_option linter.unusedVariables false

set_option maxRecDepth 100000 in
theorem lifted (os : Os) (started : os.Started) (H : Type) (enc : TypeId × Value → H) :
    ReturnsInHanded {} Try.checked os 3 .any (Rows.gfpowTellsSpec.pre6 enc Try.prog Try.f3 Rows.gfpowTellsRow.domain false) (Rows.gfpowTellsSpec.post enc Try.prog Try.f3 false true false false) := by
  refine returnsInHanded_of_change (C := Try.checked) own started (by kernel_rfl) Try.func3
    (ChangeSpec.witness6 (enc := enc) (C := Try.checked) false ⟨#[], #[.slice none 0 0, .slice none 0 0, .agg #[.int .u64 0, .int .u64 0], .int .i64 0], []⟩ 8 (by kernel_rfl) (by kernel_rfl) (by kernel_rfl) (by kernel_rfl)) ?_
  intro W base args ds gs before hval0 hW hcnd _
  have hval : ∀ (j : Nat) t v, Try.f3.params[j]? = some t → args[j]? = some v → Value.okWide Try.prog W .any base t v := hval0
  have hW' := hW
  obtain ⟨p, q, hA0, hV, rfl, hfz, hnd⟩ := hW
  have hA : DataW.TrodAll enc Try.prog W 0 (fun _ => true) true Try.f3.params.toList args.toList ds p := hA0
  rw [Try.params3] at hA hval
  obtain ⟨v0, v1, v2, v3, d0, d1, d2, d3, p0, p1, p2, p3, rfl, rfl, rfl, h0, h1, h2, h3⟩ := trodAll_four hA
  obtain ⟨rfl, rfl⟩ := trodVars_none hV
  obtain ⟨Aa, La, ca, xsa, rfl, la, Pa⟩ := openP Try.underlying23 (hval 0 23 v0 rfl rfl) h0
  obtain ⟨Ab, Lb, cb, xsb, rfl, lb, Pb⟩ := openP Try.underlying23 (hval 1 23 v1 rfl rfl) h1
  obtain ⟨hn, ln, Nn, wn, rfl, rfl, rfl, sn⟩ := openUN (hval 2 26 v2 rfl rfl) h2
  obtain ⟨nm, rfl, rfl, rfl, wm⟩ := open_int Try.underlying3 (hval 3 3 v3 rfl rfl) h3
  clear hA0 hval0
  simp only [List.append_nil] at hW'
  have bm := bounds_i64 wm
  refine (powTellsWalk Aa Ab ca cb La Lb xsa xsb hn ln nm Nn W Pa Pb wn la lb (by omega) (by omega)).mono fun e W' ⟨he, hb⟩ => ?_
  subst he
  have again : ∀ sp : Nat → Bool, (∀ q ∈ p0 ++ (p1 ++ (([] : List MemPlace) ++ (([] : List MemPlace)))), sp q.block = true) → DataW.TrodAll enc Try.prog W' 0 sp true [23, 23, 26, 3] [.slice Aa La ca, .slice Ab Lb cb, .agg #[.int .u64 hn, .int .u64 ln], .int .i64 (nm : Int)] [d0, d1, .agg [.lit (.int .u64 hn), .lit (.int .u64 ln)], .lit (.int .i64 (nm : Int))] (p0 ++ (p1 ++ (([] : List MemPlace) ++ (([] : List MemPlace))))) := fun sp hs =>
    trodAll_mk4 (trod_below (by kernel_rfl) (of_decide_eq_true (by kernel_rfl)) h0 hb (fun q hq => hs q (by simp [hq]))) (trod_below (by kernel_rfl) (of_decide_eq_true (by kernel_rfl)) h1 hb (fun q hq => hs q (by simp [hq]))) (sn _ sp) (shut_int Try.underlying3 wm)
  exact ⟨_, rfl, post_of_below (pa := p0 ++ (p1 ++ (([] : List MemPlace) ++ (([] : List MemPlace))))) (pv := []) hW' (fun _ _ _ => trodAll_mk1 (shut_bool Try.underlying4 _)) (fun sp hs => again sp (fun q hq => hs q (by simpa using hq))) (fun _ _ => rfl) (by simp)
    hb (ok_one (by kernel_rfl) rfl (okWide_bool_mk Try.underlying4 _))⟩

theorem over : Rows.gfpowTellsRow.holds Try.pinned (OpenSpec.ofChange Rows.gfpowTellsSpec) :=
  OpenClaim.holds_of_wide 3 Try.f3 rfl rfl rfl rfl rfl rfl rfl ⟨rfl, rfl, rfl, rfl, rfl⟩ rfl rfl rfl rfl rfl (by kernel_rfl) Try.func3 (by kernel_rfl)
    (of_decide_eq_true (by kernel_rfl)) (by unfold Func.isWrapper; first | (rw [if_pos (by decide +kernel)]; kernel_rfl) | (rw [if_neg (by decide +kernel)]; exact ⟨rfl, rfl⟩))
    (fun os started H enc _ => lifted os started H enc)
end Go.Proofs.Ytmhglbnoddimhaa.gfpowTells
namespace Go.Proofs.Ytmhglbnoddimhaa
theorem gfpowTells_holds : Rows.GfpowTellsSaid := gfpowTells.over
#print axioms gfpowTells_holds
end Go.Proofs.Ytmhglbnoddimhaa
