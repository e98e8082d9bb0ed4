/-
  Rows.AffineTellsSaid: for every two maps and every number of 128 bits the statement AffineTells answers true and leaves its arguments as they are. It stands on no condition.
-/
import Derived.Test.YtfnfjfmkhnofkaaAffVj
import Derived.Test.YtfnfjfmkhnofkaaAffXj
namespace Go.Proofs.Ytfnfjfmkhnofkaa.affineTells
open Go.ChangeShapes Go.WideShapes Go.ChangeAt Go.RowKit Go.Joins
set_option linter.unusedVariables false

set_option maxRecDepth 100000 in
theorem lifted (os : Os) (started : os.Started) (H : Type) (enc : TypeId × Value → H) :
    ReturnsInHanded {} Try.checked os 3 .any (Rows.affineTellsSpec.pre6 enc Try.prog Try.f3 Rows.affineTellsRow.domain false) (Rows.affineTellsSpec.post enc Try.prog Try.f3 false true false false) := by
  refine returnsInHanded_of_change (C := Try.checked) own started (by kernel_rfl) Try.func3
    (ChangeSpec.witness6 (enc := enc) (C := Try.checked) false ⟨#[], #[.agg #[.int .u64 0, .int .u64 0, .int .u64 0, .int .u64 0], .agg #[.int .u64 0, .int .u64 0, .int .u64 0, .int .u64 0], .agg #[.int .u64 0, .int .u64 0]], []⟩ 8 (by kernel_rfl) (by kernel_rfl) (by kernel_rfl) (by kernel_rfl)) ?_
  intro W base args ds gs before hval0 hW hcnd _
  have hval : ∀ (j : Nat) t v, Try.f3.params[j]? = some t → args[j]? = some v → Value.okWide Try.prog W .any base t v := hval0
  have hW' := hW
  obtain ⟨p, q, hA0, hV, rfl, hfz, hnd⟩ := hW
  have hA : DataW.TrodAll enc Try.prog W 0 (fun _ => true) true Try.f3.params.toList args.toList ds p := hA0
  rw [Try.params3] at hA hval
  obtain ⟨v0, v1, v2, d0, d1, d2, p0, p1, p2, rfl, rfl, rfl, h0, h1, h2⟩ := trodAll_three hA
  obtain ⟨rfl, rfl⟩ := trodVars_none hV
  obtain ⟨mm, wm, rfl, rfl, rfl, zm⟩ := openMp (hval 0 26 v0 rfl rfl) h0
  obtain ⟨mn, wn, rfl, rfl, rfl, zn⟩ := openMp (hval 1 26 v1 rfl rfl) h1
  obtain ⟨hx, lx, Nx, wx, rfl, rfl, rfl, sx⟩ := openUN (hval 2 24 v2 rfl rfl) h2
  clear hA0 hval0
  simp only [List.append_nil] at hW'
  refine (affineTells ax awake9h mm mn wm wn wx _).mono fun e W' ⟨he, hb⟩ => ?_
  subst he
  have again : ∀ sp : Nat → Bool, (∀ q ∈ ([] : List MemPlace) ++ (([] : List MemPlace) ++ (([] : List MemPlace))), sp q.block = true) → DataW.TrodAll enc Try.prog W' 0 sp true [26, 26, 24] [mm.val, mn.val, .agg #[.int .u64 hx, .int .u64 lx]] [Mp.data mm, Mp.data mn, .agg [.lit (.int .u64 hx), .lit (.int .u64 lx)]] (([] : List MemPlace) ++ (([] : List MemPlace) ++ (([] : List MemPlace)))) := fun sp hs =>
    trodAll_mk3 (zm _ sp) (zn _ sp) (sx _ sp)
  exact ⟨_, rfl, post_of_below (pa := ([] : List MemPlace) ++ (([] : List MemPlace) ++ (([] : List MemPlace)))) (pv := []) hW' (fun _ _ _ => trodAll_mk1 (shut_bool Try.underlying4 _)) (fun sp hs => again sp (fun q hq => (by simp at hq))) (fun _ _ => rfl) (by simp)
    hb (ok_one (by kernel_rfl) rfl (okWide_bool_mk Try.underlying4 _))⟩

theorem over : Rows.affineTellsRow.holds Try.pinned (OpenSpec.ofChange Rows.affineTellsSpec) :=
  OpenClaim.holds_of_wide 3 Try.f3 rfl rfl rfl rfl rfl rfl rfl ⟨rfl, rfl, rfl, rfl, rfl⟩ rfl rfl rfl rfl rfl (by kernel_rfl) Try.func3 (by kernel_rfl)
    (of_decide_eq_true (by kernel_rfl)) (by unfold Func.isWrapper; first | (rw [if_pos (by decide +kernel)]; kernel_rfl) | (rw [if_neg (by decide +kernel)]; exact ⟨rfl, rfl⟩))
    (fun os started H enc _ => lifted os started H enc)
end Go.Proofs.Ytfnfjfmkhnofkaa.affineTells
namespace Go.Proofs.Ytfnfjfmkhnofkaa
theorem affineTells_holds : Rows.AffineTellsSaid := affineTells.over
#print axioms affineTells_holds
end Go.Proofs.Ytfnfjfmkhnofkaa
