/-
  Rows.HalfJumpsSaid: for every state and every two numbers the statement HalfJumps answers true and leaves its arguments as they are. It stands on no condition.
-/
import Derived.Test.YtdmoedjjbhkdmaaHfU
import Derived.Test.YtdmoedjjbhkdmaaHfX
import Derived.Test.YtdmoedjjbhkdmaaHfP
namespace Go.Proofs.Ytdmoedjjbhkdmaa.halfJumps
open Go.ChangeShapes Go.WideShapes Go.ChangeAt Go.RowKit Go.Joins
set_option linter.unusedVariables false

set_option maxRecDepth 100000 in
theorem lifted (os : Os) (started : os.Started) (H : Type) (enc : TypeId × Value → H) :
    ReturnsInHanded {} Try.checked os 6 .any (Rows.halfJumpsSpec.pre6 enc Try.prog Try.f6 Rows.halfJumpsRow.domain false) (Rows.halfJumpsSpec.post enc Try.prog Try.f6 false true false false) := by
  refine returnsInHanded_of_change (C := Try.checked) own started (by kernel_rfl) Try.func6
    (ChangeSpec.witness6 (enc := enc) (C := Try.checked) false ⟨#[], #[.agg #[.int .u64 0, .int .u64 0, .int .u32 0, .int .u32 0, .bool false], .agg #[.int .u64 0, .int .u64 0], .agg #[.int .u64 0, .int .u64 0]], []⟩ 8 (by kernel_rfl) (by kernel_rfl) (by kernel_rfl) (by kernel_rfl)) ?_
  intro W base args ds gs before hval0 hW hcnd _
  have hval : ∀ (j : Nat) t v, Try.f6.params[j]? = some t → args[j]? = some v → Value.okWide Try.prog W .any base t v := hval0
  have hW' := hW
  obtain ⟨p, q, hA0, hV, rfl, hfz, hnd⟩ := hW
  have hA : DataW.TrodAll enc Try.prog W 0 (fun _ => true) true Try.f6.params.toList args.toList ds p := hA0
  rw [Try.params6] at hA hval
  obtain ⟨v0, v1, v2, d0, d1, d2, p0, p1, p2, rfl, rfl, rfl, h0, h1, h2⟩ := trodAll_three hA
  obtain ⟨rfl, rfl⟩ := trodVars_none hV
  obtain ⟨ss, ws, rfl, rfl, rfl, zs⟩ := openHs (hval 0 29 v0 rfl rfl) h0
  obtain ⟨hn, ln, Nn, wn, rfl, rfl, rfl, sn⟩ := openUN (hval 1 24 v1 rfl rfl) h1
  obtain ⟨hm, lm, Nm, wm, rfl, rfl, rfl, sm⟩ := openUN (hval 2 24 v2 rfl rfl) h2
  clear hA0 hval0
  simp only [List.append_nil] at hW'
  refine (halfJumpsU hf awake12h ss ws wn wm _).mono fun e W' ⟨he, hb⟩ => ?_
  subst he
  have again : ∀ sp : Nat → Bool, (∀ q ∈ ([] : List MemPlace) ++ (([] : List MemPlace) ++ (([] : List MemPlace))), sp q.block = true) → DataW.TrodAll enc Try.prog W' 0 sp true [29, 24, 24] [ss.val, .agg #[.int .u64 hn, .int .u64 ln], .agg #[.int .u64 hm, .int .u64 lm]] [Hs.data ss, .agg [.lit (.int .u64 hn), .lit (.int .u64 ln)], .agg [.lit (.int .u64 hm), .lit (.int .u64 lm)]] (([] : List MemPlace) ++ (([] : List MemPlace) ++ (([] : List MemPlace)))) := fun sp hs =>
    trodAll_mk3 (zs _ sp) (sn _ sp) (sm _ sp)
  exact ⟨_, rfl, post_of_below (pa := ([] : List MemPlace) ++ (([] : List MemPlace) ++ (([] : List MemPlace)))) (pv := []) hW' (fun _ _ _ => trodAll_mk1 (shut_bool Try.underlying4 _)) (fun sp hs => again sp (fun q hq => (by simp at hq))) (fun _ _ => rfl) (by simp)
    hb (ok_one (by kernel_rfl) rfl (okWide_bool_mk Try.underlying4 _))⟩

theorem over : Rows.halfJumpsRow.holds Try.pinned (OpenSpec.ofChange Rows.halfJumpsSpec) :=
  OpenClaim.holds_of_wide 6 Try.f6 rfl rfl rfl rfl rfl rfl rfl ⟨rfl, rfl, rfl, rfl, rfl⟩ rfl rfl rfl rfl rfl (by kernel_rfl) Try.func6 (by kernel_rfl)
    (of_decide_eq_true (by kernel_rfl)) (by unfold Func.isWrapper; first | (rw [if_pos (by decide +kernel)]; kernel_rfl) | (rw [if_neg (by decide +kernel)]; exact ⟨rfl, rfl⟩))
    (fun os started H enc _ => lifted os started H enc)
end Go.Proofs.Ytdmoedjjbhkdmaa.halfJumps
namespace Go.Proofs.Ytdmoedjjbhkdmaa
theorem halfJumps_holds : Rows.HalfJumpsSaid := halfJumps.over
#print axioms halfJumps_holds
end Go.Proofs.Ytdmoedjjbhkdmaa
