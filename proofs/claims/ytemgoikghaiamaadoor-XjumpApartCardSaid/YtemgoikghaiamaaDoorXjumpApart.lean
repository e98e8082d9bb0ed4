/-
  Rows.XjumpApartCardSaid: for every state and every two numbers of 128 bits the statement XjumpApart answers true and leaves its arguments as they are. Its condition: the table of math/bits reads as its initialiser lays it (tied to the program).
-/
import Derived.Test.YtemgoikghaiamaaDoorBase9
import Derived.Test.YtemgoikghaiamaaDoorCards
import Derived.Test.YtemgoikghaiamaaDoorTie
import Derived.SevenTiedAt
namespace Go.Proofs.YtemgoikghaiamaaDoor.xjumpApart
open Go.ChangeShapes Go.WideShapes Go.ChangeAt Go.RowKit Go.Joins
set_option linter.unusedVariables false

set_option maxRecDepth 100000 in
theorem lifted (os : Os) (started : os.Started) (H : Type) (enc : TypeId × Value → H) :
    ReturnsInHanded {} Tryd.checked os 7 .any (fun w args => (Rows.xjumpApartSpec.pre enc Tryd.prog Tryd.f7 [] false w args ∧ laidMetH Tryd.prog laidT w) ∧ sizedMet enc Tryd.prog Tryd.f7 (OpenSpec.ofChange Rows.xjumpApartSpec) false w args) (Rows.xjumpApartSpec.post enc Tryd.prog Tryd.f7 false true false false) := by
  refine returnsInHanded_of_change_and (C := Tryd.checked) (X := fun w _ => laidMetH Tryd.prog laidT w) (fun _ _ _ hh h => h.of_heap hh) own started (by kernel_rfl) Tryd.func7
    (ChangeSpec.witness_shaped (enc := enc) (C := Tryd.checked) (os := os) (X := fun w _ => laidMetH Tryd.prog laidT w) false (World.doorLaid Tryd.prog 400 os) #[.agg #[.int .u64 0, .int .u64 0, .int .u64 0, .int .u64 0], .agg #[.int .u64 0, .int .u64 0], .agg #[.int .u64 0, .int .u64 0]] 8 rfl (World.shaped_of_RefB (by kernel_rfl) (by kernel_rfl)) (by kernel_rfl) (by kernel_rfl) (by kernel_rfl) (door_met os _)) ?_
  intro W base args ds gs before hval0 hW _ _ hL _
  have hval : ∀ (j : Nat) t v, Tryd.f7.params[j]? = some t → args[j]? = some v → Value.okWide Tryd.prog W .any base t v := hval0
  have hW' := hW
  obtain ⟨p, q, hA0, hV, rfl, hfz, hnd⟩ := hW
  have hA : DataW.TrodAll enc Tryd.prog W 0 (fun _ => true) true Tryd.f7.params.toList args.toList ds p := hA0
  rw [Tryd.params7] at hA hval
  obtain ⟨v0, v1, v2, d0, d1, d2, p0, p1, p2, rfl, rfl, rfl, h0, h1, h2⟩ := trodAll_three hA
  obtain ⟨rfl, rfl⟩ := trodVars_none hV
  obtain ⟨ss, ws, rfl, rfl, rfl, zs⟩ := openSt (hval 0 24 v0 rfl rfl) h0
  obtain ⟨hn, ln, Nn, wn, rfl, rfl, rfl, sn⟩ := openUN (hval 1 26 v1 rfl rfl) h1
  obtain ⟨hm, lm, Nm, wm, rfl, rfl, rfl, sm⟩ := openUN (hval 2 26 v2 rfl rfl) h2
  have TT := tab_of_laid hL
  clear hA0 hval0
  simp only [List.append_nil] at hW'
  refine (xjumpApart jx awake8h ss ws wn wm _ TT).mono fun e W' ⟨he, hb⟩ => ?_
  subst he
  have again : ∀ sp : Nat → Bool, (∀ q ∈ ([] : List MemPlace) ++ (([] : List MemPlace) ++ (([] : List MemPlace))), sp q.block = true) → DataW.TrodAll enc Tryd.prog W' 0 sp true [24, 26, 26] [ss.val, .agg #[.int .u64 hn, .int .u64 ln], .agg #[.int .u64 hm, .int .u64 lm]] [St.data ss, .agg [.lit (.int .u64 hn), .lit (.int .u64 ln)], .agg [.lit (.int .u64 hm), .lit (.int .u64 lm)]] (([] : List MemPlace) ++ (([] : List MemPlace) ++ (([] : List MemPlace)))) := fun sp hs =>
    trodAll_mk3 (zs _ sp) (sn _ sp) (sm _ sp)
  exact ⟨_, rfl, post_of_below (pa := ([] : List MemPlace) ++ (([] : List MemPlace) ++ (([] : List MemPlace)))) (pv := []) hW' (fun _ _ _ => trodAll_mk1 (shut_bool Tryd.underlying4 _)) (fun sp hs => again sp (fun q hq => (by simp at hq))) (fun _ _ => rfl) (by simp)
    hb (ok_one (by kernel_rfl) rfl (okWide_bool_mk Tryd.underlying4 _))⟩

theorem over : Rows.xjumpApartRow.holds Tryd.pinned (OpenSpec.ofChange Rows.xjumpApartSpec) :=
  OpenClaim.holds_of_wide 7 Tryd.f7 rfl rfl rfl rfl rfl rfl rfl ⟨rfl, rfl, rfl, rfl, rfl⟩ rfl rfl rfl rfl rfl (by kernel_rfl) Tryd.func7 (by kernel_rfl)
    (of_decide_eq_true (by kernel_rfl)) (by unfold Func.isWrapper; first | (rw [if_pos (by decide +kernel)]; kernel_rfl) | (rw [if_neg (by decide +kernel)]; exact ⟨rfl, rfl⟩))
    (fun os started H enc _ => lifted os started H enc)
end Go.Proofs.YtemgoikghaiamaaDoor.xjumpApart
namespace Go.Proofs.YtemgoikghaiamaaDoor
open Go
theorem xjumpApart_holds : Rows.XjumpApartCardSaid :=
  Claim7.holds_tied_plain_at .later [] [.data] true Rows.xjumpApartCard.stood.harness false
    xjumpApart.over (fun _ h => by cases h) (by kernel_rfl) (fun _ h => by cases h) xjumpApart_row_tie rfl ⟨rfl, rfl⟩ (by kernel_rfl) rfl
    (fun f fn hf hfn => by
      obtain rfl : f = 7 := Option.some.inj ((show Tryd.prog.funcNamed "knucklebone/knucklebonelaw08.XjumpApart" = some 7 by kernel_rfl).symm.trans hf) |>.symm
      obtain rfl : fn = Tryd.f7 := (Option.some.inj (Tryd.func7.symm.trans hfn)).symm
      exact ⟨by kernel_rfl, fun j t ht => by
        rw [Tryd.params7] at ht
        have hm : t ∈ [24, 26, 26] := by simpa using Array.mem_of_getElem? ht
        have hall : ([24, 26, 26].all fun u => !Tryd.prog.wantsStandIn u) = true := by kernel_rfl
        exact (show Tryd.prog.wantsStandIn t = false by simpa using List.all_eq_true.1 hall t hm)⟩)
    (by kernel_rfl)
#print axioms xjumpApart_holds
end Go.Proofs.YtemgoikghaiamaaDoor
