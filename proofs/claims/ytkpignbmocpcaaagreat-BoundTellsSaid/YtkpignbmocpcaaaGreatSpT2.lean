/-
  A drawn region whose first operations are quiet in a class of worlds, and whose other ones can come up in one order alone, behind all of those: one walk in the text's order serves.
-/
import Derived.Test.YtkpignbmocpcaaaGreatSpQ
import Derived.StillTail
namespace Go.Proofs.YtkpignbmocpcaaaGreat
open Go.RowKit
set_option linter.unusedVariables false

section
variable {P : Program} {md : Region.Mode} {l : List Oper} {n : Nat} {C : World → Prop}
/-- Each of the first operations waits for earlier ones alone, and its guard is one of the first. -/
def earlierB (md : Region.Mode) (l : List Oper) (n : Nat) : Bool :=
  (List.range n).all fun i => match l[i]? with
    | some o => (o.after.all fun e => !Region.binds md e || decide (e.on < i)) && (match o.guard with | some (j, _) => decide (j < n) | none => true)
    | none => false
theorem headGet (j : Nat) (h : j < n) : (l.take n).toArray[j]? = l.toArray[j]? := by simp [h]
theorem headOut (j : Nat) (h : ¬ j < n) : (l.take n).toArray[j]? = none := by simp [List.getElem?_take, h]
theorem earlier_spec (h : earlierB md l n = true) {i : Nat} (hi : i < n) : ∃ o, l[i]? = some o ∧ (∀ e ∈ o.after, Region.binds md e = true → e.on < i) ∧ ∀ j b, o.guard = some (j, b) → j < n := by
  have := List.all_eq_true.1 h i (List.mem_range.2 hi)
  cases ho : l[i]? with
  | none => rw [ho] at this; cases this
  | some o =>
    rw [ho] at this
    simp only [Bool.and_eq_true] at this
    refine ⟨o, rfl, fun e he hb => ?_, fun j b hg => ?_⟩
    · have := Array.all_eq_true'.1 this.1 e he
      rw [hb] at this
      simpa using this
    · have h2 := this.2
      rw [hg] at h2
      simpa using h2
theorem wantedHead {o : Oper} (hg : ∀ j b, o.guard = some (j, b) → j < n) (a : Act) : Region.wanted o (yielded (l.take n).toArray a.tmps) = Region.wanted o (yielded l.toArray a.tmps) := by
  unfold Region.wanted
  cases h : o.guard with
  | none => rfl
  | some q =>
    obtain ⟨j, b⟩ := q
    have : yielded (l.take n).toArray a.tmps j = yielded l.toArray a.tmps j := by
      unfold yielded
      rw [headGet j (hg j b h)]
    simp only [this]
theorem readyHead {listed : Array Bool} {i : Nat} : i ∈ Region.ready md (l.take n).toArray listed ↔ i < n ∧ i ∈ Region.ready md l.toArray listed := by
  rw [mem_ready, mem_ready]
  constructor
  · rintro ⟨a, o, ho, r⟩
    have hi : i < n := by
      rcases Nat.lt_or_ge i n with h | h
      · exact h
      · rw [headOut i (by omega)] at ho; cases ho
    exact ⟨hi, a, o, by rw [← headGet i hi]; exact ho, r⟩
  · rintro ⟨hi, a, o, ho, r⟩
    exact ⟨a, o, by rw [headGet i hi]; exact ho, r⟩
/-- The one order behind, with whatever is left of the count. -/
theorem seqMore {ops : Array Oper} {Q' : Exit → Act → World → Prop} (x : Nat) : ∀ (t : List Oper) (k : Nat) (listed : Array Bool) (a : Act) (w : World), (∀ j, t[j]? = ops[k + j]?) →
    Region.seqB md ops t.length k listed = true → wpList P ops Q' t a w → wpAny P md ops Q' (t.length + x) listed a w := by
  intro t
  induction t with
  | nil =>
    intro k listed a w _ hB h
    have e : Region.ready md ops listed = [] := by simpa [Region.seqB] using hB
    cases x with
    | zero => exact ⟨e, h⟩
    | succ x => exact ⟨fun _ => h, fun i hi => (by rw [e] at hi; cases hi)⟩
  | cons o t ih =>
    intro k listed a w hl hB h
    have h0 : ops[k]? = some o := by simpa using (hl 0).symm
    simp only [List.length_cons, Region.seqB, Bool.and_eq_true, decide_eq_true_eq] at hB
    rw [List.length_cons, show t.length + 1 + x = (t.length + x) + 1 from by omega]
    refine ⟨fun e => (by rw [hB.1] at e; cases e), fun i hi => ?_⟩
    rw [hB.1, List.mem_singleton] at hi
    subst hi
    have step : wpOp P ops Q' i (wpList P ops Q' t) a w := by unfold wpOp; rw [h0]; exact h
    exact wpOp_mono (fun a' w' h' => ih (i + 1) _ a' w' (fun j => by have := hl (j + 1); simpa [Nat.add_assoc, Nat.add_comm 1 j] using this) hB.2 h') step
theorem allListed {listed : Array Bool} (he : earlierB md l n = true) (hr : Region.ready md (l.take n).toArray listed = []) (hsz : listed.size = l.length) (hn : n < l.length) :
    ∀ i, i < n → listed.getD i true = true := by
  intro i
  induction i using Nat.strongRecOn with
  | _ i ih =>
    intro hi
    cases hx : listed.getD i true with
    | true => rfl
    | false =>
      obtain ⟨o, ho, ha, _⟩ := earlier_spec he hi
      have : i ∈ Region.ready md (l.take n).toArray listed := readyHead.2 ⟨hi, mem_ready.2 ⟨hx, o, by simpa using ho, fun e hem hb => by
        have h1 := ih e.on (ha e hem hb) (Nat.lt_trans (ha e hem hb) hi)
        have hs : e.on < listed.size := by have := ha e hem hb; omega
        simpa [Array.getD, hs] using h1⟩⟩
      rw [hr] at this
      cases this
theorem headTail {Q' : Exit → Act → World → Prop} {Qh : Act → Prop} (hn : n < l.length) (he : earlierB md l n = true) (hs : Region.sinkB md l.toArray n = true) (hc : Region.chainB md l.toArray n = true)
    (hq : Region.seqB md l.toArray (l.drop n).length n (Array.replicate n true ++ Array.replicate (l.length - n) false) = true)
    (hQ : ∀ a w, C w → Qh a → wpList P l.toArray Q' (l.drop n) a w) :
    ∀ (f : Nat) (listed : Array Bool) (a : Act) (w : World), C w → HeadInv md l.toArray n listed → wpAnyQ P md (l.take n).toArray C Qh f listed a → wpAny P md l.toArray Q' ((l.drop n).length + f) listed a w := by
  intro f
  have done : ∀ (f : Nat) (listed : Array Bool) (a : Act) (w : World), C w → HeadInv md l.toArray n listed → Region.ready md (l.take n).toArray listed = [] → Qh a → wpAny P md l.toArray Q' ((l.drop n).length + f) listed a w := by
    intro f listed a w hw inv hr hh
    have hsz : listed.size = l.length := by simpa using inv.size
    have all := allListed he hr hsz hn
    have e : listed = Array.replicate n true ++ Array.replicate (l.length - n) false := by
      apply Array.ext
      · simp [hsz]; omega
      · intro i h1 h2
        by_cases hi : i < n
        · have := all i hi
          rw [Array.getElem_append_left (by simpa using hi)]
          simp [Array.getD, h1] at this
          simpa using this
        · have := inv.tail i (by omega) (by simpa [hsz] using h1)
          rw [Array.getElem_append_right (by simpa using hi)]
          simp [Array.getD, h1] at this
          simpa using this
    subst e
    exact seqMore f (l.drop n) n _ a w (fun j => by simp [List.getElem?_drop]) hq (hQ a w hw hh)
  induction f with
  | zero =>
    intro listed a w hw inv H
    exact done 0 listed a w hw inv H.1 H.2
  | succ f ih =>
    intro listed a w hw inv H
    by_cases hr : Region.ready md (l.take n).toArray listed = []
    · exact done (f + 1) listed a w hw inv hr (H.1 hr)
    · obtain ⟨u, hu⟩ := List.exists_mem_of_ne_nil _ hr
      obtain ⟨hun, hur⟩ := readyHead.1 hu
      rw [show (l.drop n).length + (f + 1) = ((l.drop n).length + f) + 1 from by omega]
      refine ⟨fun e => (by rw [e] at hur; cases hur), fun i hi => ?_⟩
      have hin : i < n := by
        rcases Nat.lt_or_ge i n with h | h
        · exact h
        · exact absurd hi (tail_waits hs hc (by simpa using hn) inv _ u rfl hun (mem_ready.1 hur).1 i h)
      obtain ⟨o, ho, _, hg⟩ := earlier_spec he hin
      have ho1 : l.toArray[i]? = some o := by simpa using ho
      have ho2 : (l.take n).toArray[i]? = some o := by rw [headGet i hin]; exact ho1
      have h1 := H.2 i (readyHead.2 ⟨hin, hi⟩)
      have next : ∀ a' w', C w' → wpAnyQ P md (l.take n).toArray C Qh f (listed.setIfInBounds i true) a' → wpAny P md l.toArray Q' ((l.drop n).length + f) (listed.setIfInBounds i true) a' w' := fun a' w' hw' h' => ih _ a' w' hw' (inv.set hi hin) h'
      unfold qOp at h1
      unfold wpOp
      simp only [ho2] at h1
      simp only [ho1]
      rw [wantedHead hg] at h1
      split
      · rename_i hwt
        simp only [hwt, if_true] at h1
        exact .inl (Oper.wp_of_quiet hw next h1)
      · rename_i hwt
        simp only [hwt] at h1
        exact next _ _ hw h1
/-- The region: the first n operations quiet, the others one behind the other. -/
theorem wp_region_quiet_tail {id : Nat} {Q : Exit → Act → World → Prop} {a : Act} {w : World} (n : Nat) (hm : P.follows .mixedOrders = true) (hn : n < l.length)
    (he : earlierB .any l n = true) (hs : Region.sinkB .any l.toArray n = true) (hc : Region.chainB .any l.toArray n = true)
    (hq : Region.seqB .any l.toArray (l.drop n).length n (Array.replicate n true ++ Array.replicate (l.length - n) false) = true)
    (hx : Region.noSelect (l.take n).toArray = true) (hl : Region.lexFrom .any (l.take n).toArray (l.take n).length 0 (Array.replicate l.length false) = true) (hC : C w.drew)
    (h : wpQuiet P (l.take n).toArray C (fun a' => ∀ w', C w' → wpList P l.toArray Q (l.drop n) a' w') (l.take n) a) : (Code.region id l.toArray true).wp P Q a w := by
  refine wp_region_any hm ?_
  have H := wpAnyQ_lex (C := C) (md := .any) hx (l.take n) 0 (Array.replicate l.length false) a (by simp) hl h
  have inv0 : HeadInv .any l.toArray n (Array.replicate l.toArray.size false) :=
    ⟨by simp, fun j oj _ hlj => (by rw [getD_replicate_false] at hlj; cases hlj), fun t _ ht => getD_in (by simpa using ht) (getD_replicate_false _ _)⟩
  have R := headTail hn he hs hc hq (fun a' w' hw' hh => hh w' hw') _ (Array.replicate l.length false) a w.drew hC (by simpa using inv0) H
  have e : (l.drop n).length + (l.take n).length = l.toArray.size := by simp; omega
  rw [e] at R
  simpa using R
end
end Go.Proofs.YtkpignbmocpcaaaGreat
