/-
  Rows.MasseyTellsCardSaid: for every polynomial, every row of bits and every number the statement MasseyTells answers true and leaves its arguments as they were. Its condition: the table of math/bits reads as its initialiser lays it (tied to the program).
-/
import Derived.Test.YtfpbfibnkknhdaaDoorMsyTellsW
import Derived.Test.YtfpbfibnkknhdaaDoorMsyL
import Derived.Test.YtfpbfibnkknhdaaDoorCards
import Derived.Test.YtfpbfibnkknhdaaDoorTie
import Derived.SevenTiedAt
namespace Go.Proofs.YtfpbfibnkknhdaaDoor.masseyTells
open Go.ChangeShapes Go.WideShapes Go.ChangeAt Go.RowKit Go.Joins
set_option linter.unusedVariables false

set_option maxRecDepth 100000 in
theorem lifted (os : Os) (started : os.Started) (H : Type) (enc : TypeId × Value → H) :
    ReturnsInHanded {} Tryd.checked os 3 .any (fun w args => (Rows.masseyTellsSpec.pre enc Tryd.prog Tryd.f3 [] false w args ∧ laidMetH Tryd.prog laidT w) ∧ sizedMet enc Tryd.prog Tryd.f3 (OpenSpec.ofChange Rows.masseyTellsSpec) false w args) (Rows.masseyTellsSpec.post enc Tryd.prog Tryd.f3 false true false false) := by
  refine returnsInHanded_of_change_and (C := Tryd.checked) (X := fun w _ => laidMetH Tryd.prog laidT w) (fun _ _ _ hh h => h.of_heap hh) own started (by kernel_rfl) Tryd.func3
    (ChangeSpec.witness_shaped (enc := enc) (C := Tryd.checked) (os := os) (X := fun w _ => laidMetH Tryd.prog laidT w) false (World.doorLaid Tryd.prog 400 os) #[.slice none 0 0, .slice none 0 0, .int .i64 0] 8 rfl (World.shaped_of_RefB (by kernel_rfl) (by kernel_rfl)) (by kernel_rfl) (by kernel_rfl) (by kernel_rfl) (door_met os _)) ?_
  intro W base args ds gs before hval0 hW _ _ hL _
  have hval : ∀ (j : Nat) t v, Tryd.f3.params[j]? = some t → args[j]? = some v → Value.okWide Tryd.prog W .any base t v := hval0
  have hW' := hW
  obtain ⟨p, q, hA0, hV, rfl, hfz, hnd⟩ := hW
  have hA : DataW.TrodAll enc Tryd.prog W 0 (fun _ => true) true Tryd.f3.params.toList args.toList ds p := hA0
  rw [Tryd.params3] at hA hval
  obtain ⟨v0, v1, v2, d0, d1, d2, p0, p1, p2, rfl, rfl, rfl, h0, h1, h2⟩ := trodAll_three hA
  obtain ⟨rfl, rfl⟩ := trodVars_none hV
  obtain ⟨Aa, La, ca, xsa, rfl, la, Pa⟩ := openP Tryd.underlying23 (hval 0 23 v0 rfl rfl) h0
  obtain ⟨Al, Ll, cl, xsl, rfl, ll, Pl⟩ := openB Tryd.underlying24 (hval 1 24 v1 rfl rfl) h1
  obtain ⟨nn, rfl, rfl, rfl, wn⟩ := open_int Tryd.underlying3 (hval 2 3 v2 rfl rfl) h2
  have TT := tab_of_laid hL
  clear hA0 hval0
  simp only [List.append_nil] at hW'
  refine (tellsWalk Aa Al ca cl La Ll nn xsa xsl W Pa Pl TT la ll).mono fun e W' ⟨he, hb⟩ => ?_
  subst he
  have again : ∀ sp : Nat → Bool, (∀ q ∈ p0 ++ (p1 ++ (([] : List MemPlace))), sp q.block = true) → DataW.TrodAll enc Tryd.prog W' 0 sp true [23, 24, 3] [.slice Aa La ca, .slice Al Ll cl, .int .i64 (nn : Int)] [d0, d1, .lit (.int .i64 (nn : Int))] (p0 ++ (p1 ++ (([] : List MemPlace)))) := fun sp hs =>
    trodAll_mk3 (trod_below (by kernel_rfl) (of_decide_eq_true (by kernel_rfl)) h0 hb (fun q hq => hs q (by simp [hq]))) (trod_below (by kernel_rfl) (of_decide_eq_true (by kernel_rfl)) h1 hb (fun q hq => hs q (by simp [hq]))) (shut_int Tryd.underlying3 wn)
  exact ⟨_, rfl, post_of_below (pa := p0 ++ (p1 ++ (([] : List MemPlace)))) (pv := []) hW' (fun _ _ _ => trodAll_mk1 (shut_bool Tryd.underlying4 _)) (fun sp hs => again sp (fun q hq => hs q (by simpa using hq))) (fun _ _ => rfl) (by simp)
    hb (ok_one (by kernel_rfl) rfl (okWide_bool_mk Tryd.underlying4 _))⟩

theorem over : Rows.masseyTellsRow.holds Tryd.pinned (OpenSpec.ofChange Rows.masseyTellsSpec) :=
  OpenClaim.holds_of_wide 3 Tryd.f3 rfl rfl rfl rfl rfl rfl rfl ⟨rfl, rfl, rfl, rfl, rfl⟩ rfl rfl rfl rfl rfl (by kernel_rfl) Tryd.func3 (by kernel_rfl)
    (of_decide_eq_true (by kernel_rfl)) (by unfold Func.isWrapper; first | (rw [if_pos (by decide +kernel)]; kernel_rfl) | (rw [if_neg (by decide +kernel)]; exact ⟨rfl, rfl⟩))
    (fun os started H enc _ => lifted os started H enc)
end Go.Proofs.YtfpbfibnkknhdaaDoor.masseyTells
namespace Go.Proofs.YtfpbfibnkknhdaaDoor
open Go
theorem masseyTells_holds : Rows.MasseyTellsCardSaid :=
  Claim7.holds_tied_plain_at .later [] [.data] true Rows.masseyTellsCard.stood.harness false
    masseyTells.over (fun _ h => by cases h) (by kernel_rfl) (fun _ h => by cases h) masseyTells_row_tie rfl ⟨rfl, rfl⟩ (by kernel_rfl) rfl
    (fun f fn hf hfn => by
      obtain rfl : f = 3 := Option.some.inj ((show Tryd.prog.funcNamed "knucklebone/knucklebonelaw05.MasseyTells" = some 3 by kernel_rfl).symm.trans hf) |>.symm
      obtain rfl : fn = Tryd.f3 := (Option.some.inj (Tryd.func3.symm.trans hfn)).symm
      exact ⟨by kernel_rfl, fun j t ht => by
        rw [Tryd.params3] at ht
        have hm : t ∈ [23, 24, 3] := by simpa using Array.mem_of_getElem? ht
        have hall : ([23, 24, 3].all fun u => !Tryd.prog.wantsStandIn u) = true := by kernel_rfl
        exact (show Tryd.prog.wantsStandIn t = false by simpa using List.all_eq_true.1 hall t hm)⟩)
    (by kernel_rfl)
#print axioms masseyTells_holds
end Go.Proofs.YtfpbfibnkknhdaaDoor
