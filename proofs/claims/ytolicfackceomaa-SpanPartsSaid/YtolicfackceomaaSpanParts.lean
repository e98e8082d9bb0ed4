/-
  Rows.SpanPartsSaid: for every span and every two numbers of 128 bits the statement SpanParts answers true and leaves its arguments as they are. It stands on no condition.
-/
import Derived.Test.YtolicfackceomaaSpPartsV
import Derived.Test.YtolicfackceomaaSpJw
import Derived.Test.YtolicfackceomaaSpPo
namespace Go.Proofs.Ytolicfackceomaa.spanParts
open Go.ChangeShapes Go.WideShapes Go.ChangeAt Go.RowKit Go.Joins
set_option linter.unusedVariables false

set_option maxRecDepth 100000 in
theorem lifted (os : Os) (started : os.Started) (H : Type) (enc : TypeId × Value → H) :
    ReturnsInHanded {} Try.checked os 4 .any (Rows.spanPartsSpec.pre6 enc Try.prog Try.f4 Rows.spanPartsRow.domain false) (Rows.spanPartsSpec.post enc Try.prog Try.f4 false true false false) := by
  refine returnsInHanded_of_change (C := Try.checked) own started (by kernel_rfl) Try.func4
    (ChangeSpec.witness6 (enc := enc) (C := Try.checked) false ⟨#[], #[.agg #[.int .u64 0, .int .u64 0, .int .u64 0, .int .u64 0], .agg #[.int .u64 0, .int .u64 0], .agg #[.int .u64 0, .int .u64 0]], []⟩ 8 (by kernel_rfl) (by kernel_rfl) (by kernel_rfl) (by kernel_rfl)) ?_
  intro W base args ds gs before hval0 hW hcnd _
  have hval : ∀ (j : Nat) t v, Try.f4.params[j]? = some t → args[j]? = some v → Value.okWide Try.prog W .any base t v := hval0
  have hW' := hW
  obtain ⟨p, q, hA0, hV, rfl, hfz, hnd⟩ := hW
  have hA : DataW.TrodAll enc Try.prog W 0 (fun _ => true) true Try.f4.params.toList args.toList ds p := hA0
  rw [Try.params4] at hA hval
  obtain ⟨v0, v1, v2, d0, d1, d2, p0, p1, p2, rfl, rfl, rfl, h0, h1, h2⟩ := trodAll_three hA
  obtain ⟨rfl, rfl⟩ := trodVars_none hV
  obtain ⟨ms, ws, rfl, rfl, rfl, zs⟩ := openSp (hval 0 26 v0 rfl rfl) h0
  obtain ⟨ha, la, Na, wa, rfl, rfl, rfl, sa⟩ := openUN (hval 1 24 v1 rfl rfl) h1
  obtain ⟨hn, ln, Nn, wn, rfl, rfl, rfl, sn⟩ := openUN (hval 2 24 v2 rfl rfl) h2
  clear hA0 hval0
  simp only [List.append_nil] at hW'
  refine (spanParts awake15 (ws_of ws) wa wn _).mono fun e W' ⟨he, hb⟩ => ?_
  subst he
  have again : ∀ sp : Nat → Bool, (∀ q ∈ ([] : List MemPlace) ++ (([] : List MemPlace) ++ (([] : List MemPlace))), sp q.block = true) → DataW.TrodAll enc Try.prog W' 0 sp true [26, 24, 24] [ms.val, .agg #[.int .u64 ha, .int .u64 la], .agg #[.int .u64 hn, .int .u64 ln]] [Sp.data ms, .agg [.lit (.int .u64 ha), .lit (.int .u64 la)], .agg [.lit (.int .u64 hn), .lit (.int .u64 ln)]] (([] : List MemPlace) ++ (([] : List MemPlace) ++ (([] : List MemPlace)))) := fun sp hs =>
    trodAll_mk3 (zs _ sp) (sa _ sp) (sn _ sp)
  exact ⟨_, rfl, post_of_below (pa := ([] : List MemPlace) ++ (([] : List MemPlace) ++ (([] : List MemPlace)))) (pv := []) hW' (fun _ _ _ => trodAll_mk1 (shut_bool Try.underlying4 _)) (fun sp hs => again sp (fun q hq => (by simp at hq))) (fun _ _ => rfl) (by simp)
    hb (ok_one (by kernel_rfl) rfl (okWide_bool_mk Try.underlying4 _))⟩

theorem over : Rows.spanPartsRow.holds Try.pinned (OpenSpec.ofChange Rows.spanPartsSpec) :=
  OpenClaim.holds_of_wide 4 Try.f4 rfl rfl rfl rfl rfl rfl rfl ⟨rfl, rfl, rfl, rfl, rfl⟩ rfl rfl rfl rfl rfl (by kernel_rfl) Try.func4 (by kernel_rfl)
    (of_decide_eq_true (by kernel_rfl)) (by unfold Func.isWrapper; first | (rw [if_pos (by decide +kernel)]; kernel_rfl) | (rw [if_neg (by decide +kernel)]; exact ⟨rfl, rfl⟩))
    (fun os started H enc _ => lifted os started H enc)
end Go.Proofs.Ytolicfackceomaa.spanParts
namespace Go.Proofs.Ytolicfackceomaa
theorem spanParts_holds : Rows.SpanPartsSaid := spanParts.over
#print axioms spanParts_holds
end Go.Proofs.Ytolicfackceomaa
