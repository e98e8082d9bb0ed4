/-
  Rows.SpanTellsSaid: for every two spans, every number of 128 bits and every list of spans the statement SpanTells answers true and leaves its arguments as they are. It stands on no condition.
-/
import Derived.Test.YtolicfackceomaaSpTellsW
import Derived.Test.YtolicfackceomaaSpJw
import Derived.Test.YtolicfackceomaaSpPo
namespace Go.Proofs.Ytolicfackceomaa.spanTells
open Go.ChangeShapes Go.WideShapes Go.ChangeAt Go.RowKit Go.Joins
set_option linter.unusedVariables false

set_option maxRecDepth 100000 in
theorem lifted (os : Os) (started : os.Started) (H : Type) (enc : TypeId × Value → H) :
    ReturnsInHanded {} Try.checked os 3 .any (Rows.spanTellsSpec.pre6 enc Try.prog Try.f3 Rows.spanTellsRow.domain false) (Rows.spanTellsSpec.post enc Try.prog Try.f3 false true false false) := by
  refine returnsInHanded_of_change (C := Try.checked) own started (by kernel_rfl) Try.func3
    (ChangeSpec.witness6 (enc := enc) (C := Try.checked) false ⟨#[], #[.agg #[.int .u64 0, .int .u64 0, .int .u64 0, .int .u64 0], .agg #[.int .u64 0, .int .u64 0, .int .u64 0, .int .u64 0], .agg #[.int .u64 0, .int .u64 0], .slice none 0 0], []⟩ 8 (by kernel_rfl) (by kernel_rfl) (by kernel_rfl) (by kernel_rfl)) ?_
  intro W base args ds gs before hval0 hW hcnd _
  have hval : ∀ (j : Nat) t v, Try.f3.params[j]? = some t → args[j]? = some v → Value.okWide Try.prog W .any base t v := hval0
  have hW' := hW
  obtain ⟨p, q, hA0, hV, rfl, hfz, hnd⟩ := hW
  have hA : DataW.TrodAll enc Try.prog W 0 (fun _ => true) true Try.f3.params.toList args.toList ds p := hA0
  rw [Try.params3] at hA hval
  obtain ⟨v0, v1, v2, v3, d0, d1, d2, d3, p0, p1, p2, p3, rfl, rfl, rfl, h0, h1, h2, h3⟩ := trodAll_four hA
  obtain ⟨rfl, rfl⟩ := trodVars_none hV
  obtain ⟨ms, ws, rfl, rfl, rfl, zs⟩ := openSp (hval 0 26 v0 rfl rfl) h0
  obtain ⟨mt, wt, rfl, rfl, rfl, zt⟩ := openSp (hval 1 26 v1 rfl rfl) h1
  obtain ⟨hn, ln, Nn, wn, rfl, rfl, rfl, sn⟩ := openUN (hval 2 24 v2 rfl rfl) h2
  obtain ⟨Al, cl, xsl, rfl, Pl⟩ := openSL (hval 3 27 v3 rfl rfl) h3
  clear hA0 hval0
  simp only [List.append_nil] at hW'
  refine (spanTells awake15 (ws_of ws) (ws_of wt) wn Al cl xsl _ Pl).mono fun e W' ⟨he, hb⟩ => ?_
  subst he
  have again : ∀ sp : Nat → Bool, (∀ q ∈ ([] : List MemPlace) ++ (([] : List MemPlace) ++ (([] : List MemPlace) ++ (p3))), sp q.block = true) → DataW.TrodAll enc Try.prog W' 0 sp true [26, 26, 24, 27] [ms.val, mt.val, .agg #[.int .u64 hn, .int .u64 ln], .slice Al xsl.length cl] [Sp.data ms, Sp.data mt, .agg [.lit (.int .u64 hn), .lit (.int .u64 ln)], d3] (([] : List MemPlace) ++ (([] : List MemPlace) ++ (([] : List MemPlace) ++ (p3)))) := fun sp hs =>
    trodAll_mk4 (zs _ sp) (zt _ sp) (sn _ sp) (trod_below (by kernel_rfl) (of_decide_eq_true (by kernel_rfl)) h3 hb (fun q hq => hs q (by simp [hq])))
  exact ⟨_, rfl, post_of_below (pa := ([] : List MemPlace) ++ (([] : List MemPlace) ++ (([] : List MemPlace) ++ (p3)))) (pv := []) hW' (fun _ _ _ => trodAll_mk1 (shut_bool Try.underlying4 _)) (fun sp hs => again sp (fun q hq => hs q (by simpa using hq))) (fun _ _ => rfl) (by simp)
    hb (ok_one (by kernel_rfl) rfl (okWide_bool_mk Try.underlying4 _))⟩

theorem over : Rows.spanTellsRow.holds Try.pinned (OpenSpec.ofChange Rows.spanTellsSpec) :=
  OpenClaim.holds_of_wide 3 Try.f3 rfl rfl rfl rfl rfl rfl rfl ⟨rfl, rfl, rfl, rfl, rfl⟩ rfl rfl rfl rfl rfl (by kernel_rfl) Try.func3 (by kernel_rfl)
    (of_decide_eq_true (by kernel_rfl)) (by unfold Func.isWrapper; first | (rw [if_pos (by decide +kernel)]; kernel_rfl) | (rw [if_neg (by decide +kernel)]; exact ⟨rfl, rfl⟩))
    (fun os started H enc _ => lifted os started H enc)
end Go.Proofs.Ytolicfackceomaa.spanTells
namespace Go.Proofs.Ytolicfackceomaa
theorem spanTells_holds : Rows.SpanTellsSaid := spanTells.over
#print axioms spanTells_holds
end Go.Proofs.Ytolicfackceomaa
