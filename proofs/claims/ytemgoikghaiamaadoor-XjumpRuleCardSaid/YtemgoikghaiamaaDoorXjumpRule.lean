/-
  Rows.XjumpRuleCardSaid: for every state and every polynomial the statement XjumpRule answers true and leaves its arguments as they are. Its condition: the table of math/bits reads as its initialiser lays it (tied to the program).
-/
import Derived.Test.YtemgoikghaiamaaDoorBase9
import Derived.Test.YtemgoikghaiamaaDoorCards
import Derived.Test.YtemgoikghaiamaaDoorTie
import Derived.SevenTiedAt
namespace Go.Proofs.YtemgoikghaiamaaDoor.xjumpRule
open Go.ChangeShapes Go.WideShapes Go.ChangeAt Go.RowKit Go.Joins
set_option linter.unusedVariables false

set_option maxRecDepth 100000 in
theorem lifted (os : Os) (started : os.Started) (H : Type) (enc : TypeId × Value → H) :
    ReturnsInHanded {} Tryd.checked os 6 .any (fun w args => (Rows.xjumpRuleSpec.pre enc Tryd.prog Tryd.f6 [] false w args ∧ laidMetH Tryd.prog laidT w) ∧ sizedMet enc Tryd.prog Tryd.f6 (OpenSpec.ofChange Rows.xjumpRuleSpec) false w args) (Rows.xjumpRuleSpec.post enc Tryd.prog Tryd.f6 false true false false) := by
  refine returnsInHanded_of_change_and (C := Tryd.checked) (X := fun w _ => laidMetH Tryd.prog laidT w) (fun _ _ _ hh h => h.of_heap hh) own started (by kernel_rfl) Tryd.func6
    (ChangeSpec.witness_shaped (enc := enc) (C := Tryd.checked) (os := os) (X := fun w _ => laidMetH Tryd.prog laidT w) false (World.doorLaid Tryd.prog 400 os) #[.agg #[.int .u64 0, .int .u64 0, .int .u64 0, .int .u64 0], .slice none 0 0] 8 rfl (World.shaped_of_RefB (by kernel_rfl) (by kernel_rfl)) (by kernel_rfl) (by kernel_rfl) (by kernel_rfl) (door_met os _)) ?_
  intro W base args ds gs before hval0 hW _ _ hL _
  have hval : ∀ (j : Nat) t v, Tryd.f6.params[j]? = some t → args[j]? = some v → Value.okWide Tryd.prog W .any base t v := hval0
  have hW' := hW
  obtain ⟨p, q, hA0, hV, rfl, hfz, hnd⟩ := hW
  have hA : DataW.TrodAll enc Tryd.prog W 0 (fun _ => true) true Tryd.f6.params.toList args.toList ds p := hA0
  rw [Tryd.params6] at hA hval
  obtain ⟨v0, v1, d0, d1, p0, p1, rfl, rfl, rfl, h0, h1⟩ := trodAll_two hA
  obtain ⟨rfl, rfl⟩ := trodVars_none hV
  obtain ⟨ss, ws, rfl, rfl, rfl, zs⟩ := openSt (hval 0 24 v0 rfl rfl) h0
  obtain ⟨Ap, Lp, cp, xsp, rfl, lp, Pp⟩ := openP Tryd.underlying28 (hval 1 28 v1 rfl rfl) h1
  have TT := tab_of_laid hL
  clear hA0 hval0
  simp only [List.append_nil] at hW'
  refine (xjumpRule jx awake8h ss ws lp _ Pp TT).mono fun e W' ⟨he, hb⟩ => ?_
  subst he
  have again : ∀ sp : Nat → Bool, (∀ q ∈ ([] : List MemPlace) ++ (p1), sp q.block = true) → DataW.TrodAll enc Tryd.prog W' 0 sp true [24, 28] [ss.val, .slice Ap Lp cp] [St.data ss, d1] (([] : List MemPlace) ++ (p1)) := fun sp hs =>
    trodAll_mk2 (zs _ sp) (trod_below (by kernel_rfl) (of_decide_eq_true (by kernel_rfl)) h1 hb (fun q hq => hs q (by simp [hq])))
  exact ⟨_, rfl, post_of_below (pa := ([] : List MemPlace) ++ (p1)) (pv := []) hW' (fun _ _ _ => trodAll_mk1 (shut_bool Tryd.underlying4 _)) (fun sp hs => again sp (fun q hq => hs q (by simpa using hq))) (fun _ _ => rfl) (by simp)
    hb (ok_one (by kernel_rfl) rfl (okWide_bool_mk Tryd.underlying4 _))⟩

theorem over : Rows.xjumpRuleRow.holds Tryd.pinned (OpenSpec.ofChange Rows.xjumpRuleSpec) :=
  OpenClaim.holds_of_wide 6 Tryd.f6 rfl rfl rfl rfl rfl rfl rfl ⟨rfl, rfl, rfl, rfl, rfl⟩ rfl rfl rfl rfl rfl (by kernel_rfl) Tryd.func6 (by kernel_rfl)
    (of_decide_eq_true (by kernel_rfl)) (by unfold Func.isWrapper; first | (rw [if_pos (by decide +kernel)]; kernel_rfl) | (rw [if_neg (by decide +kernel)]; exact ⟨rfl, rfl⟩))
    (fun os started H enc _ => lifted os started H enc)
end Go.Proofs.YtemgoikghaiamaaDoor.xjumpRule
namespace Go.Proofs.YtemgoikghaiamaaDoor
open Go
theorem xjumpRule_holds : Rows.XjumpRuleCardSaid :=
  Claim7.holds_tied_plain_at .later [] [.data] true Rows.xjumpRuleCard.stood.harness false
    xjumpRule.over (fun _ h => by cases h) (by kernel_rfl) (fun _ h => by cases h) xjumpRule_row_tie rfl ⟨rfl, rfl⟩ (by kernel_rfl) rfl
    (fun f fn hf hfn => by
      obtain rfl : f = 6 := Option.some.inj ((show Tryd.prog.funcNamed "knucklebone/knucklebonelaw08.XjumpRule" = some 6 by kernel_rfl).symm.trans hf) |>.symm
      obtain rfl : fn = Tryd.f6 := (Option.some.inj (Tryd.func6.symm.trans hfn)).symm
      exact ⟨by kernel_rfl, fun j t ht => by
        rw [Tryd.params6] at ht
        have hm : t ∈ [24, 28] := by simpa using Array.mem_of_getElem? ht
        have hall : ([24, 28].all fun u => !Tryd.prog.wantsStandIn u) = true := by kernel_rfl
        exact (show Tryd.prog.wantsStandIn t = false by simpa using List.all_eq_true.1 hall t hm)⟩)
    (by kernel_rfl)
#print axioms xjumpRule_holds
end Go.Proofs.YtemgoikghaiamaaDoor
