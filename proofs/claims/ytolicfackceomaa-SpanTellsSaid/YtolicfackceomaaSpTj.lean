/-
  A drawn region whose first operations are quiet in a class of worlds, and whose other ones can come up in one order alone, behind all of those: one walk in the text's order serves.
-/
import Derived.Test.YtolicfackceomaaSpQ
import Derived.StillTail
import Derived.Great.BuildSlice
import Derived.BigFrame
namespace Go.Proofs.Ytolicfackceomaa
open Go.RowKit
set_option linter.unusedVariables false

section
variable {P : Program} {md : Region.Mode} {l : List Oper} {n : Nat} {C : World → Prop}
/-- Each of the first operations waits for earlier ones alone, and its guard is one of the first. -/
def earlierB (md : Region.Mode) (l : List Oper) (n : Nat) : Bool :=
  (List.range n).all fun i => match l[i]? with
    | some o => (o.after.all fun e => !Region.binds md e || decide (e.on < i)) && (match o.guard with | some (j, _) => decide (j < n) | none => true)
    | none => false
theorem headGet (j : Nat) (h : j < n) : (l.take n).toArray[j]? = l.toArray[j]? := by simp [h]
theorem headOut (j : Nat) (h : ¬ j < n) : (l.take n).toArray[j]? = none := by simp [List.getElem?_take, h]
theorem earlier_spec (h : earlierB md l n = true) {i : Nat} (hi : i < n) : ∃ o, l[i]? = some o ∧ (∀ e ∈ o.after, Region.binds md e = true → e.on < i) ∧ ∀ j b, o.guard = some (j, b) → j < n := by
  have := List.all_eq_true.1 h i (List.mem_range.2 hi)
  cases ho : l[i]? with
  | none => rw [ho] at this; cases this
  | some o =>
    rw [ho] at this
    simp only [Bool.and_eq_true] at this
    refine ⟨o, rfl, fun e he hb => ?_, fun j b hg => ?_⟩
    · have := Array.all_eq_true'.1 this.1 e he
      rw [hb] at this
      simpa using this
    · have h2 := this.2
      rw [hg] at h2
      simpa using h2
theorem wantedHead {o : Oper} (hg : ∀ j b, o.guard = some (j, b) → j < n) (a : Act) : Region.wanted o (yielded (l.take n).toArray a.tmps) = Region.wanted o (yielded l.toArray a.tmps) := by
  unfold Region.wanted
  cases h : o.guard with
  | none => rfl
  | some q =>
    obtain ⟨j, b⟩ := q
    have : yielded (l.take n).toArray a.tmps j = yielded l.toArray a.tmps j := by
      unfold yielded
      rw [headGet j (hg j b h)]
    simp only [this]
theorem readyHead {listed : Array Bool} {i : Nat} : i ∈ Region.ready md (l.take n).toArray listed ↔ i < n ∧ i ∈ Region.ready md l.toArray listed := by
  rw [mem_ready, mem_ready]
  constructor
  · rintro ⟨a, o, ho, r⟩
    have hi : i < n := by
      rcases Nat.lt_or_ge i n with h | h
      · exact h
      · rw [headOut i (by omega)] at ho; cases ho
    exact ⟨hi, a, o, by rw [← headGet i hi]; exact ho, r⟩
  · rintro ⟨hi, a, o, ho, r⟩
    exact ⟨a, o, by rw [headGet i hi]; exact ho, r⟩
/-- The one order behind, with whatever is left of the count. -/
theorem seqMore {ops : Array Oper} {Q' : Exit → Act → World → Prop} (x : Nat) : ∀ (t : List Oper) (k : Nat) (listed : Array Bool) (a : Act) (w : World), (∀ j, t[j]? = ops[k + j]?) →
    Region.seqB md ops t.length k listed = true → wpList P ops Q' t a w → wpAny P md ops Q' (t.length + x) listed a w := by
  intro t
  induction t with
  | nil =>
    intro k listed a w _ hB h
    have e : Region.ready md ops listed = [] := by simpa [Region.seqB] using hB
    cases x with
    | zero => exact ⟨e, h⟩
    | succ x => exact ⟨fun _ => h, fun i hi => (by rw [e] at hi; cases hi)⟩
  | cons o t ih =>
    intro k listed a w hl hB h
    have h0 : ops[k]? = some o := by simpa using (hl 0).symm
    simp only [List.length_cons, Region.seqB, Bool.and_eq_true, decide_eq_true_eq] at hB
    rw [List.length_cons, show t.length + 1 + x = (t.length + x) + 1 from by omega]
    refine ⟨fun e => (by rw [hB.1] at e; cases e), fun i hi => ?_⟩
    rw [hB.1, List.mem_singleton] at hi
    subst hi
    have step : wpOp P ops Q' i (wpList P ops Q' t) a w := by unfold wpOp; rw [h0]; exact h
    exact wpOp_mono (fun a' w' h' => ih (i + 1) _ a' w' (fun j => by have := hl (j + 1); simpa [Nat.add_assoc, Nat.add_comm 1 j] using this) hB.2 h') step
theorem allListed {listed : Array Bool} (he : earlierB md l n = true) (hr : Region.ready md (l.take n).toArray listed = []) (hsz : listed.size = l.length) (hn : n < l.length) :
    ∀ i, i < n → listed.getD i true = true := by
  intro i
  induction i using Nat.strongRecOn with
  | _ i ih =>
    intro hi
    cases hx : listed.getD i true with
    | true => rfl
    | false =>
      obtain ⟨o, ho, ha, _⟩ := earlier_spec he hi
      have : i ∈ Region.ready md (l.take n).toArray listed := readyHead.2 ⟨hi, mem_ready.2 ⟨hx, o, by simpa using ho, fun e hem hb => by
        have h1 := ih e.on (ha e hem hb) (Nat.lt_trans (ha e hem hb) hi)
        have hs : e.on < listed.size := by have := ha e hem hb; omega
        simpa [Array.getD, hs] using h1⟩⟩
      rw [hr] at this
      cases this
theorem headTail {Q' : Exit → Act → World → Prop} {Qh : Act → Prop} (hn : n < l.length) (he : earlierB md l n = true) (hs : Region.sinkB md l.toArray n = true) (hc : Region.chainB md l.toArray n = true)
    (hq : Region.seqB md l.toArray (l.drop n).length n (Array.replicate n true ++ Array.replicate (l.length - n) false) = true)
    (hQ : ∀ a w, C w → Qh a → wpList P l.toArray Q' (l.drop n) a w) :
    ∀ (f : Nat) (listed : Array Bool) (a : Act) (w : World), C w → HeadInv md l.toArray n listed → wpAnyQ P md (l.take n).toArray C Qh f listed a → wpAny P md l.toArray Q' ((l.drop n).length + f) listed a w := by
  intro f
  have done : ∀ (f : Nat) (listed : Array Bool) (a : Act) (w : World), C w → HeadInv md l.toArray n listed → Region.ready md (l.take n).toArray listed = [] → Qh a → wpAny P md l.toArray Q' ((l.drop n).length + f) listed a w := by
    intro f listed a w hw inv hr hh
    have hsz : listed.size = l.length := by simpa using inv.size
    have all := allListed he hr hsz hn
    have e : listed = Array.replicate n true ++ Array.replicate (l.length - n) false := by
      apply Array.ext
      · simp [hsz]; omega
      · intro i h1 h2
        by_cases hi : i < n
        · have := all i hi
          rw [Array.getElem_append_left (by simpa using hi)]
          simp [Array.getD, h1] at this
          simpa using this
        · have := inv.tail i (by omega) (by simpa [hsz] using h1)
          rw [Array.getElem_append_right (by simpa using hi)]
          simp [Array.getD, h1] at this
          simpa using this
    subst e
    exact seqMore f (l.drop n) n _ a w (fun j => by simp [List.getElem?_drop]) hq (hQ a w hw hh)
  induction f with
  | zero =>
    intro listed a w hw inv H
    exact done 0 listed a w hw inv H.1 H.2
  | succ f ih =>
    intro listed a w hw inv H
    by_cases hr : Region.ready md (l.take n).toArray listed = []
    · exact done (f + 1) listed a w hw inv hr (H.1 hr)
    · obtain ⟨u, hu⟩ := List.exists_mem_of_ne_nil _ hr
      obtain ⟨hun, hur⟩ := readyHead.1 hu
      rw [show (l.drop n).length + (f + 1) = ((l.drop n).length + f) + 1 from by omega]
      refine ⟨fun e => (by rw [e] at hur; cases hur), fun i hi => ?_⟩
      have hin : i < n := by
        rcases Nat.lt_or_ge i n with h | h
        · exact h
        · exact absurd hi (tail_waits hs hc (by simpa using hn) inv _ u rfl hun (mem_ready.1 hur).1 i h)
      obtain ⟨o, ho, _, hg⟩ := earlier_spec he hin
      have ho1 : l.toArray[i]? = some o := by simpa using ho
      have ho2 : (l.take n).toArray[i]? = some o := by rw [headGet i hin]; exact ho1
      have h1 := H.2 i (readyHead.2 ⟨hin, hi⟩)
      have next : ∀ a' w', C w' → wpAnyQ P md (l.take n).toArray C Qh f (listed.setIfInBounds i true) a' → wpAny P md l.toArray Q' ((l.drop n).length + f) (listed.setIfInBounds i true) a' w' := fun a' w' hw' h' => ih _ a' w' hw' (inv.set hi hin) h'
      unfold qOp at h1
      unfold wpOp
      simp only [ho2] at h1
      simp only [ho1]
      rw [wantedHead hg] at h1
      split
      · rename_i hwt
        simp only [hwt, if_true] at h1
        exact .inl (Oper.wp_of_quiet hw next h1)
      · rename_i hwt
        simp only [hwt] at h1
        exact next _ _ hw h1
/-- The region: the first n operations quiet, the others one behind the other. -/
theorem wp_region_quiet_tail {id : Nat} {Q : Exit → Act → World → Prop} {a : Act} {w : World} (n : Nat) (hm : P.follows .mixedOrders = true) (hn : n < l.length)
    (he : earlierB .any l n = true) (hs : Region.sinkB .any l.toArray n = true) (hc : Region.chainB .any l.toArray n = true)
    (hq : Region.seqB .any l.toArray (l.drop n).length n (Array.replicate n true ++ Array.replicate (l.length - n) false) = true)
    (hx : Region.noSelect (l.take n).toArray = true) (hl : Region.lexFrom .any (l.take n).toArray (l.take n).length 0 (Array.replicate l.length false) = true) (hC : C w.drew)
    (h : wpQuiet P (l.take n).toArray C (fun a' => ∀ w', C w' → wpList P l.toArray Q (l.drop n) a' w') (l.take n) a) : (Code.region id l.toArray true).wp P Q a w := by
  refine wp_region_any hm ?_
  have H := wpAnyQ_lex (C := C) (md := .any) hx (l.take n) 0 (Array.replicate l.length false) a (by simp) hl h
  have inv0 : HeadInv .any l.toArray n (Array.replicate l.toArray.size false) :=
    ⟨by simp, fun j oj _ hlj => (by rw [getD_replicate_false] at hlj; cases hlj), fun t _ ht => getD_in (by simpa using ht) (getD_replicate_false _ _)⟩
  have R := headTail hn he hs hc hq (fun a' w' hw' hh => hh w' hw') _ (Array.replicate l.length false) a w.drew hC (by simpa using inv0) H
  have e : (l.drop n).length + (l.take n).length = l.toArray.size := by simp; omega
  rw [e] at R
  simpa using R
end
end Go.Proofs.Ytolicfackceomaa
/-
  The row of truths of a forced tail, asked of each row by itself.
-/
namespace Go.Proofs.Ytolicfackceomaa
open Go.RowKit

/-- The row of truths behind the first `k` of `n` operations. -/
def rowT (n k : Nat) : Array Bool := ⟨List.replicate k true ++ List.replicate (n - k) false⟩
theorem rowT_set {n k : Nat} (h : k < n) : (rowT n k).setIfInBounds k true = rowT n (k + 1) := by
  have e : n - k = (n - (k + 1)) + 1 := by omega
  have e1 : List.replicate (n - k) false = false :: List.replicate (n - (k + 1)) false := by rw [e]; rfl
  have e2 : List.replicate (k + 1) true = List.replicate k true ++ [true] := List.replicate_succ'
  unfold rowT
  rw [e1, e2, List.setIfInBounds_toArray, List.set_append]
  simp
theorem seqB_rows {md : Region.Mode} {ops : Array Oper} {n : Nat} : ∀ g k : Nat, k + g = n → (∀ j, k ≤ j → j < n → Region.ready md ops (rowT n j) = [j]) → (Region.ready md ops (rowT n n)).isEmpty = true → Region.seqB md ops g k (rowT n k) = true
  | 0, k, h, _, h0 => by
    have e : k = n := by omega
    subst e
    exact h0
  | g + 1, k, h, hr, h0 => by
    unfold Region.seqB
    rw [hr k (Nat.le_refl _) (by omega), rowT_set (by omega), seqB_rows g (k + 1) (by omega) (fun j a b => hr j (by omega) b) h0]
    simp
/-- The same, asked of each row by itself. -/
def rowsB (md : Region.Mode) (ops : Array Oper) (n k g : Nat) : Bool := (List.range' k g).all (fun j => Region.ready md ops (rowT n j) == [j]) && (Region.ready md ops (rowT n n)).isEmpty
theorem hq_of_rows {md : Region.Mode} {l : List Oper} {n : Nat} (hn : n < l.length) (h : rowsB md l.toArray l.length n (l.length - n) = true) :
    Region.seqB md l.toArray (l.drop n).length n (Array.replicate n true ++ Array.replicate (l.length - n) false) = true := by
  unfold rowsB at h
  rw [Bool.and_eq_true, List.all_eq_true] at h
  have e : Array.replicate n true ++ Array.replicate (l.length - n) false = rowT l.length n := Array.ext' (by simp [rowT])
  rw [e, List.length_drop]
  exact seqB_rows _ _ (by omega) (fun j a b => by simpa using h.1 j (by simp; omega)) h.2

theorem rowT_get {n k i : Nat} {b : Bool} (h : k ≤ n) : (rowT n k).getD i b = if i < k then true else if i < n then false else b := by
  unfold rowT
  simp only [Array.getD_eq_getD_getElem?, List.getElem?_toArray, List.getElem?_append, List.getElem?_replicate, List.length_replicate]
  split
  · simp_all
  · split <;> split <;> first | rfl | omega | simp_all | (exfalso; omega)
theorem filter_one (p : Nat → Bool) (j : Nat) : ∀ m, (∀ i, i < m → (p i = true ↔ i = j)) → (List.range m).filter p = if j < m then [j] else []
  | 0, _ => by simp
  | m + 1, h => by
    rw [List.range_succ, List.filter_append, filter_one p j m (fun i hi => h i (by omega))]
    have hm := h m (by omega)
    by_cases e : m = j
    · subst e; simp [hm.2 rfl]
    · have hf : p m = false := Bool.eq_false_iff.2 (fun x => e (hm.1 x))
      by_cases e2 : j < m
      · rw [if_pos e2, if_pos (by omega)]; simp [hf]
      · rw [if_neg e2, if_neg (by omega)]; simp [hf]
theorem ready_row {md : Region.Mode} {l : List Oper} {n j : Nat} (he : earlierB md l l.length = true) (hc : Region.chainB md l.toArray n = true) (hj : n ≤ j) (hl : j < l.length) :
    Region.ready md l.toArray (rowT l.length j) = [j] := by
  have key : ∀ i, i < l.length → (i ∈ Region.ready md l.toArray (rowT l.length j) ↔ i = j) := by
    intro i hi
    rw [mem_ready, rowT_get (by omega)]
    constructor
    · rintro ⟨h1, o, ho, h2⟩
      by_cases c : i < j
      · rw [if_pos c] at h1; cases h1
      · by_cases c2 : i = j
        · exact c2
        · have h3 := List.all_eq_true.1 hc i (by simpa using hi)
          rw [Bool.or_eq_true] at h3
          rcases h3 with h3 | h3
          · have := of_decide_eq_true h3; omega
          · obtain ⟨o', ho', e, hem, hb, hon⟩ := Region.waitsFor_spec h3
            rw [ho] at ho'; cases ho'
            have h4 := h2 e hem hb
            rw [rowT_get (by omega), hon, if_neg (by omega), if_pos (by omega)] at h4
            cases h4
    · rintro rfl
      obtain ⟨o, ho, h1, _⟩ := earlier_spec he hi
      refine ⟨by rw [if_neg (by omega), if_pos hi], o, by simpa using ho, fun e hem hb => ?_⟩
      rw [rowT_get (by omega), if_pos (h1 e hem hb)]
  have H := filter_one (fun i => !(rowT l.length j).getD i true && ((l.toArray[i]?).map (·.after.all fun e => !Region.binds md e || (rowT l.length j).getD e.on false)).getD false) j l.length (fun i hi => by
    have := key i hi
    unfold Region.ready at this
    rw [List.mem_filter] at this
    rw [← this]
    simp [hi])
  rw [if_pos hl] at H
  exact H
theorem hq_of_chain {md : Region.Mode} {l : List Oper} {n : Nat} (hn : n < l.length) (he : earlierB md l l.length = true) (hc : Region.chainB md l.toArray n = true) :
    Region.seqB md l.toArray (l.drop n).length n (Array.replicate n true ++ Array.replicate (l.length - n) false) = true := by
  have e : Array.replicate n true ++ Array.replicate (l.length - n) false = rowT l.length n := Array.ext' (by simp [rowT])
  rw [e, List.length_drop]
  refine seqB_rows _ _ (by omega) (fun j a b => ready_row he hc a b) ?_
  cases hr : Region.ready md l.toArray (rowT l.length l.length) with
  | nil => rfl
  | cons x xs =>
    have hx : x ∈ Region.ready md l.toArray (rowT l.length l.length) := by rw [hr]; exact List.mem_cons_self
    obtain ⟨h1, o, ho, _⟩ := mem_ready.1 hx
    have hlt : x < l.length := by
      have := (Array.getElem?_eq_some_iff.1 ho).1
      simpa using this
    rw [rowT_get (Nat.le_refl _), if_pos hlt] at h1
    cases h1
end Go.Proofs.Ytolicfackceomaa
/-
  A literal list of spans, laid in a row of operations, whatever slots the frame has: neither the frame nor the operation is opened.
-/
namespace Go.Proofs.Ytolicfackceomaa
open Go.RowKit
set_option linter.unusedVariables false

theorem wpList_lit {P : Program} {ops : Array Oper} {K : Exit → Act → World → Prop} {a : Act} {w : World} {rest : List Oper} {d : Option Tmp} {ty t : TypeId} {pos : String} {after : Array Edge} {gd : Option (Nat × Bool)} {len : Nat} {parts : Array (Nat × Operand)}
    (e : TypeId) (vs : List Value) (cells : Array Value) (z : Value)
    (hu : P.underlying t = some (.slice e)) (hie : (P.info? e).map (fun i => (i.size, i.zero)) = some (4, some z)) (hn : vs.length = len) (hl : 0 < len ∧ len ≤ 100) (hv : ∀ v ∈ vs, v.cells.size = 4)
    (hw : Region.wanted { dst := d, op := .buildSlice t len parts, type := ty, pos := pos, after := after, guard := gd } (yielded ops a.tmps) = true)
    (hf : parts.toList.map (fun (i, x) => (i, a.eval x)) = (vs.zipIdx 0).map fun x => (x.2, x.1)) (hc : (vs.flatMap fun v => v.cells.toList).toArray = cells)
    (h : wpList P ops K rest (a.put d (.slice (some ⟨w.heap.size, 0, none⟩) len len)) (w.alloc (.cells cells e))) :
    wpList P ops K ({ dst := d, op := .buildSlice t len parts, type := ty, pos := pos, after := after, guard := gd } :: rest) a w := by
  cases hi : P.info? e with
  | none => rw [hi] at hie; cases hie
  | some ie =>
    rw [hi] at hie
    obtain ⟨h1, h2⟩ := Prod.mk.inj (Option.some.inj hie)
    refine BigFrame.wpList_want hw fun _ hK => wp_buildSlice t e len parts rfl cells ie z hu hi h2 ?_ ?_ ?_ (hK _ _ h)
    · rw [show ie.size = 4 from h1]; omega
    · rw [show ie.size = 4 from h1]; omega
    · rw [show ie.size = 4 from h1, Array.toList_map]
      rw [hf, Great.fill_whole (by omega) vs _ hv (by simp [hn]), hc]
end Go.Proofs.Ytolicfackceomaa
