/-
  Rows.AffineThenSaid: for every three maps and every number of 128 bits the statement AffineThen answers true and leaves its arguments as they are. It stands on no condition.
-/
import Derived.Test.YtfnfjfmkhnofkaaAffThenW
import Derived.Test.YtfnfjfmkhnofkaaAffXj
namespace Go.Proofs.Ytfnfjfmkhnofkaa.affineThen
open Go.ChangeShapes Go.WideShapes Go.ChangeAt Go.RowKit Go.Joins
set_option linter.unusedVariables false

set_option maxRecDepth 100000 in
theorem lifted (os : Os) (started : os.Started) (H : Type) (enc : TypeId × Value → H) :
    ReturnsInHanded {} Try.checked os 4 .any (Rows.affineThenSpec.pre6 enc Try.prog Try.f4 Rows.affineThenRow.domain false) (Rows.affineThenSpec.post enc Try.prog Try.f4 false true false false) := by
  refine returnsInHanded_of_change (C := Try.checked) own started (by kernel_rfl) Try.func4
    (ChangeSpec.witness6 (enc := enc) (C := Try.checked) false ⟨#[], #[.agg #[.int .u64 0, .int .u64 0, .int .u64 0, .int .u64 0], .agg #[.int .u64 0, .int .u64 0, .int .u64 0, .int .u64 0], .agg #[.int .u64 0, .int .u64 0, .int .u64 0, .int .u64 0], .agg #[.int .u64 0, .int .u64 0]], []⟩ 8 (by kernel_rfl) (by kernel_rfl) (by kernel_rfl) (by kernel_rfl)) ?_
  intro W base args ds gs before hval0 hW hcnd _
  have hval : ∀ (j : Nat) t v, Try.f4.params[j]? = some t → args[j]? = some v → Value.okWide Try.prog W .any base t v := hval0
  have hW' := hW
  obtain ⟨p, q, hA0, hV, rfl, hfz, hnd⟩ := hW
  have hA : DataW.TrodAll enc Try.prog W 0 (fun _ => true) true Try.f4.params.toList args.toList ds p := hA0
  rw [Try.params4] at hA hval
  obtain ⟨v0, v1, v2, v3, d0, d1, d2, d3, p0, p1, p2, p3, rfl, rfl, rfl, h0, h1, h2, h3⟩ := trodAll_four hA
  obtain ⟨rfl, rfl⟩ := trodVars_none hV
  obtain ⟨ma, wa, rfl, rfl, rfl, za⟩ := openMp (hval 0 26 v0 rfl rfl) h0
  obtain ⟨mb, wb, rfl, rfl, rfl, zb⟩ := openMp (hval 1 26 v1 rfl rfl) h1
  obtain ⟨mc, wc, rfl, rfl, rfl, zc⟩ := openMp (hval 2 26 v2 rfl rfl) h2
  obtain ⟨hx, lx, Nx, wx, rfl, rfl, rfl, sx⟩ := openUN (hval 3 24 v3 rfl rfl) h3
  clear hA0 hval0
  simp only [List.append_nil] at hW'
  refine (affineThen ax awake9h ma mb mc wa wb wc wx _).mono fun e W' ⟨he, hb⟩ => ?_
  subst he
  have again : ∀ sp : Nat → Bool, (∀ q ∈ ([] : List MemPlace) ++ (([] : List MemPlace) ++ (([] : List MemPlace) ++ (([] : List MemPlace)))), sp q.block = true) → DataW.TrodAll enc Try.prog W' 0 sp true [26, 26, 26, 24] [ma.val, mb.val, mc.val, .agg #[.int .u64 hx, .int .u64 lx]] [Mp.data ma, Mp.data mb, Mp.data mc, .agg [.lit (.int .u64 hx), .lit (.int .u64 lx)]] (([] : List MemPlace) ++ (([] : List MemPlace) ++ (([] : List MemPlace) ++ (([] : List MemPlace))))) := fun sp hs =>
    trodAll_mk4 (za _ sp) (zb _ sp) (zc _ sp) (sx _ sp)
  exact ⟨_, rfl, post_of_below (pa := ([] : List MemPlace) ++ (([] : List MemPlace) ++ (([] : List MemPlace) ++ (([] : List MemPlace))))) (pv := []) hW' (fun _ _ _ => trodAll_mk1 (shut_bool Try.underlying4 _)) (fun sp hs => again sp (fun q hq => (by simp at hq))) (fun _ _ => rfl) (by simp)
    hb (ok_one (by kernel_rfl) rfl (okWide_bool_mk Try.underlying4 _))⟩

theorem over : Rows.affineThenRow.holds Try.pinned (OpenSpec.ofChange Rows.affineThenSpec) :=
  OpenClaim.holds_of_wide 4 Try.f4 rfl rfl rfl rfl rfl rfl rfl ⟨rfl, rfl, rfl, rfl, rfl⟩ rfl rfl rfl rfl rfl (by kernel_rfl) Try.func4 (by kernel_rfl)
    (of_decide_eq_true (by kernel_rfl)) (by unfold Func.isWrapper; first | (rw [if_pos (by decide +kernel)]; kernel_rfl) | (rw [if_neg (by decide +kernel)]; exact ⟨rfl, rfl⟩))
    (fun os started H enc _ => lifted os started H enc)
end Go.Proofs.Ytfnfjfmkhnofkaa.affineThen
namespace Go.Proofs.Ytfnfjfmkhnofkaa
theorem affineThen_holds : Rows.AffineThenSaid := affineThen.over
#print axioms affineThen_holds
end Go.Proofs.Ytfnfjfmkhnofkaa
