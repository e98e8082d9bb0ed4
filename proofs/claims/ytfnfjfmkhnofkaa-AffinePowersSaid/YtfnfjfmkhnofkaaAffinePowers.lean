/-
  Rows.AffinePowersSaid: for every map, every two numbers of 128 bits and every number of 8 bits the statement AffinePowers answers true and leaves its arguments as they are. It stands on no condition.
-/
import Derived.Test.YtfnfjfmkhnofkaaAffPowW
import Derived.Test.YtfnfjfmkhnofkaaAffXj
namespace Go.Proofs.Ytfnfjfmkhnofkaa.affinePowers
open Go.ChangeShapes Go.WideShapes Go.ChangeAt Go.RowKit Go.Joins
set_option linter.unusedVariables false

set_option maxRecDepth 100000 in
theorem lifted (os : Os) (started : os.Started) (H : Type) (enc : TypeId × Value → H) :
    ReturnsInHanded {} Try.checked os 5 .any (Rows.affinePowersSpec.pre6 enc Try.prog Try.f5 Rows.affinePowersRow.domain false) (Rows.affinePowersSpec.post enc Try.prog Try.f5 false true false false) := by
  refine returnsInHanded_of_change (C := Try.checked) own started (by kernel_rfl) Try.func5
    (ChangeSpec.witness6 (enc := enc) (C := Try.checked) false ⟨#[], #[.agg #[.int .u64 0, .int .u64 0, .int .u64 0, .int .u64 0], .agg #[.int .u64 0, .int .u64 0], .agg #[.int .u64 0, .int .u64 0], .int .u8 0], []⟩ 8 (by kernel_rfl) (by kernel_rfl) (by kernel_rfl) (by kernel_rfl)) ?_
  intro W base args ds gs before hval0 hW hcnd _
  have hval : ∀ (j : Nat) t v, Try.f5.params[j]? = some t → args[j]? = some v → Value.okWide Try.prog W .any base t v := hval0
  have hW' := hW
  obtain ⟨p, q, hA0, hV, rfl, hfz, hnd⟩ := hW
  have hA : DataW.TrodAll enc Try.prog W 0 (fun _ => true) true Try.f5.params.toList args.toList ds p := hA0
  rw [Try.params5] at hA hval
  obtain ⟨v0, v1, v2, v3, d0, d1, d2, d3, p0, p1, p2, p3, rfl, rfl, rfl, h0, h1, h2, h3⟩ := trodAll_four hA
  obtain ⟨rfl, rfl⟩ := trodVars_none hV
  obtain ⟨mm, wm, rfl, rfl, rfl, zm⟩ := openMp (hval 0 26 v0 rfl rfl) h0
  obtain ⟨hn, ln, Nn, wn, rfl, rfl, rfl, sn⟩ := openUN (hval 1 24 v1 rfl rfl) h1
  obtain ⟨hk, lk, Nk, wk, rfl, rfl, rfl, sk⟩ := openUN (hval 2 24 v2 rfl rfl) h2
  obtain ⟨nf, rfl, rfl, rfl, wf⟩ := open_int Try.underlying5 (hval 3 5 v3 rfl rfl) h3
  have bf := bounds_u8 wf
  obtain ⟨nf, rfl⟩ := Int.eq_ofNat_of_zero_le bf.1
  clear hA0 hval0
  simp only [List.append_nil] at hW'
  refine (affinePowers ax awake9h mm nf wm wn wk (by omega) _).mono fun e W' ⟨he, hb⟩ => ?_
  subst he
  have again : ∀ sp : Nat → Bool, (∀ q ∈ ([] : List MemPlace) ++ (([] : List MemPlace) ++ (([] : List MemPlace) ++ (([] : List MemPlace)))), sp q.block = true) → DataW.TrodAll enc Try.prog W' 0 sp true [26, 24, 24, 5] [mm.val, .agg #[.int .u64 hn, .int .u64 ln], .agg #[.int .u64 hk, .int .u64 lk], .int .u8 (nf : Int)] [Mp.data mm, .agg [.lit (.int .u64 hn), .lit (.int .u64 ln)], .agg [.lit (.int .u64 hk), .lit (.int .u64 lk)], .lit (.int .u8 (nf : Int))] (([] : List MemPlace) ++ (([] : List MemPlace) ++ (([] : List MemPlace) ++ (([] : List MemPlace))))) := fun sp hs =>
    trodAll_mk4 (zm _ sp) (sn _ sp) (sk _ sp) (shut_int Try.underlying5 wf)
  exact ⟨_, rfl, post_of_below (pa := ([] : List MemPlace) ++ (([] : List MemPlace) ++ (([] : List MemPlace) ++ (([] : List MemPlace))))) (pv := []) hW' (fun _ _ _ => trodAll_mk1 (shut_bool Try.underlying4 _)) (fun sp hs => again sp (fun q hq => (by simp at hq))) (fun _ _ => rfl) (by simp)
    hb (ok_one (by kernel_rfl) rfl (okWide_bool_mk Try.underlying4 _))⟩

theorem over : Rows.affinePowersRow.holds Try.pinned (OpenSpec.ofChange Rows.affinePowersSpec) :=
  OpenClaim.holds_of_wide 5 Try.f5 rfl rfl rfl rfl rfl rfl rfl ⟨rfl, rfl, rfl, rfl, rfl⟩ rfl rfl rfl rfl rfl (by kernel_rfl) Try.func5 (by kernel_rfl)
    (of_decide_eq_true (by kernel_rfl)) (by unfold Func.isWrapper; first | (rw [if_pos (by decide +kernel)]; kernel_rfl) | (rw [if_neg (by decide +kernel)]; exact ⟨rfl, rfl⟩))
    (fun os started H enc _ => lifted os started H enc)
end Go.Proofs.Ytfnfjfmkhnofkaa.affinePowers
namespace Go.Proofs.Ytfnfjfmkhnofkaa
theorem affinePowers_holds : Rows.AffinePowersSaid := affinePowers.over
#print axioms affinePowers_holds
end Go.Proofs.Ytfnfjfmkhnofkaa
