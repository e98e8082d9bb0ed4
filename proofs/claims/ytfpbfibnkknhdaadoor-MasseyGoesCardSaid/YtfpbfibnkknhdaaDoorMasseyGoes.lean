/-
  Rows.MasseyGoesCardSaid: for every polynomial, every row of bits and every number of 8 bits the statement MasseyGoes answers true and leaves its arguments as they were. Its condition: the table of math/bits reads as its initialiser lays it (tied to the program).
-/
import Derived.Test.YtfpbfibnkknhdaaDoorMsyGoesW
import Derived.Test.YtfpbfibnkknhdaaDoorMsyL
import Derived.Test.YtfpbfibnkknhdaaDoorCards
import Derived.Test.YtfpbfibnkknhdaaDoorTie
import Derived.SevenTiedAt
namespace Go.Proofs.YtfpbfibnkknhdaaDoor.masseyGoes
open Go.ChangeShapes Go.WideShapes Go.ChangeAt Go.RowKit Go.Joins
set_option linter.unusedVariables false

set_option maxRecDepth 100000 in
theorem lifted (os : Os) (started : os.Started) (H : Type) (enc : TypeId × Value → H) :
    ReturnsInHanded {} Tryd.checked os 5 .any (fun w args => (Rows.masseyGoesSpec.pre enc Tryd.prog Tryd.f5 [] false w args ∧ laidMetH Tryd.prog laidT w) ∧ sizedMet enc Tryd.prog Tryd.f5 (OpenSpec.ofChange Rows.masseyGoesSpec) false w args) (Rows.masseyGoesSpec.post enc Tryd.prog Tryd.f5 false true false false) := by
  refine returnsInHanded_of_change_and (C := Tryd.checked) (X := fun w _ => laidMetH Tryd.prog laidT w) (fun _ _ _ hh h => h.of_heap hh) own started (by kernel_rfl) Tryd.func5
    (ChangeSpec.witness_shaped (enc := enc) (C := Tryd.checked) (os := os) (X := fun w _ => laidMetH Tryd.prog laidT w) false (World.doorLaid Tryd.prog 400 os) #[.slice none 0 0, .slice none 0 0, .int .u8 0] 8 rfl (World.shaped_of_RefB (by kernel_rfl) (by kernel_rfl)) (by kernel_rfl) (by kernel_rfl) (by kernel_rfl) (door_met os _)) ?_
  intro W base args ds gs before hval0 hW _ _ hL _
  have hval : ∀ (j : Nat) t v, Tryd.f5.params[j]? = some t → args[j]? = some v → Value.okWide Tryd.prog W .any base t v := hval0
  have hW' := hW
  obtain ⟨p, q, hA0, hV, rfl, hfz, hnd⟩ := hW
  have hA : DataW.TrodAll enc Tryd.prog W 0 (fun _ => true) true Tryd.f5.params.toList args.toList ds p := hA0
  rw [Tryd.params5] at hA hval
  obtain ⟨v0, v1, v2, d0, d1, d2, p0, p1, p2, rfl, rfl, rfl, h0, h1, h2⟩ := trodAll_three hA
  obtain ⟨rfl, rfl⟩ := trodVars_none hV
  obtain ⟨Aa, La, ca, xsa, rfl, la, Pa⟩ := openP Tryd.underlying23 (hval 0 23 v0 rfl rfl) h0
  obtain ⟨Al, Ll, cl, xsl, rfl, ll, Pl⟩ := openB Tryd.underlying24 (hval 1 24 v1 rfl rfl) h1
  obtain ⟨nn, rfl, rfl, rfl, wn⟩ := open_int Tryd.underlying5 (hval 2 5 v2 rfl rfl) h2
  have bn := bounds_u8 wn
  obtain ⟨nn, rfl⟩ := Int.eq_ofNat_of_zero_le bn.1
  have TT := tab_of_laid hL
  clear hA0 hval0
  simp only [List.append_nil] at hW'
  refine (goesRowWalk Aa Al ca cl La Ll nn xsa xsl W Pa Pl TT la ll (by omega)).mono fun e W' ⟨he, hb⟩ => ?_
  subst he
  have again : ∀ sp : Nat → Bool, (∀ q ∈ p0 ++ (p1 ++ (([] : List MemPlace))), sp q.block = true) → DataW.TrodAll enc Tryd.prog W' 0 sp true [23, 24, 5] [.slice Aa La ca, .slice Al Ll cl, .int .u8 (nn : Int)] [d0, d1, .lit (.int .u8 (nn : Int))] (p0 ++ (p1 ++ (([] : List MemPlace)))) := fun sp hs =>
    trodAll_mk3 (trod_below (by kernel_rfl) (of_decide_eq_true (by kernel_rfl)) h0 hb (fun q hq => hs q (by simp [hq]))) (trod_below (by kernel_rfl) (of_decide_eq_true (by kernel_rfl)) h1 hb (fun q hq => hs q (by simp [hq]))) (shut_int Tryd.underlying5 wn)
  exact ⟨_, rfl, post_of_below (pa := p0 ++ (p1 ++ (([] : List MemPlace)))) (pv := []) hW' (fun _ _ _ => trodAll_mk1 (shut_bool Tryd.underlying4 _)) (fun sp hs => again sp (fun q hq => hs q (by simpa using hq))) (fun _ _ => rfl) (by simp)
    hb (ok_one (by kernel_rfl) rfl (okWide_bool_mk Tryd.underlying4 _))⟩

theorem over : Rows.masseyGoesRow.holds Tryd.pinned (OpenSpec.ofChange Rows.masseyGoesSpec) :=
  OpenClaim.holds_of_wide 5 Tryd.f5 rfl rfl rfl rfl rfl rfl rfl ⟨rfl, rfl, rfl, rfl, rfl⟩ rfl rfl rfl rfl rfl (by kernel_rfl) Tryd.func5 (by kernel_rfl)
    (of_decide_eq_true (by kernel_rfl)) (by unfold Func.isWrapper; first | (rw [if_pos (by decide +kernel)]; kernel_rfl) | (rw [if_neg (by decide +kernel)]; exact ⟨rfl, rfl⟩))
    (fun os started H enc _ => lifted os started H enc)
end Go.Proofs.YtfpbfibnkknhdaaDoor.masseyGoes
namespace Go.Proofs.YtfpbfibnkknhdaaDoor
open Go
theorem masseyGoes_holds : Rows.MasseyGoesCardSaid :=
  Claim7.holds_tied_plain_at .later [] [.data] true Rows.masseyGoesCard.stood.harness false
    masseyGoes.over (fun _ h => by cases h) (by kernel_rfl) (fun _ h => by cases h) masseyGoes_row_tie rfl ⟨rfl, rfl⟩ (by kernel_rfl) rfl
    (fun f fn hf hfn => by
      obtain rfl : f = 5 := Option.some.inj ((show Tryd.prog.funcNamed "knucklebone/knucklebonelaw05.MasseyGoes" = some 5 by kernel_rfl).symm.trans hf) |>.symm
      obtain rfl : fn = Tryd.f5 := (Option.some.inj (Tryd.func5.symm.trans hfn)).symm
      exact ⟨by kernel_rfl, fun j t ht => by
        rw [Tryd.params5] at ht
        have hm : t ∈ [23, 24, 5] := by simpa using Array.mem_of_getElem? ht
        have hall : ([23, 24, 5].all fun u => !Tryd.prog.wantsStandIn u) = true := by kernel_rfl
        exact (show Tryd.prog.wantsStandIn t = false by simpa using List.all_eq_true.1 hall t hm)⟩)
    (by kernel_rfl)
#print axioms masseyGoes_holds
end Go.Proofs.YtfpbfibnkknhdaaDoor
