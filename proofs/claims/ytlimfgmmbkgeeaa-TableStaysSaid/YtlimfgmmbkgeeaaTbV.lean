/-
  Which handles have values, and which are gone, kept in maps beside a table.
-/
import Derived.Test.YtlimfgmmbkgeeaaTbN
import Derived.Maps.OwnSet
namespace Go.Proofs.Ytlimfgmmbkgeeaa
open Go.RowKit
set_option linter.unusedVariables false
set_option maxRecDepth 100000

theorem has_iff {t : Tb} {h : Int} : hasT t h = true ↔ h ∈ t.h := by simp [hasT]
theorem fresh {t : Tb} (k : t.Ok) {x : Int} (hx : t.n ≤ x) : hasT t x = false := by
  rw [← Bool.not_eq_true, has_iff]
  intro h
  have := (k.within x h).2
  omega
theorem has_low {t : Tb} (k : t.Ok) {x : Int} (h : hasT t x = true) : 0 ≤ x ∧ x < t.n := k.within x (has_iff.1 h)
theorem has_put (t : Tb) (x v h : Int) : hasT (putT t x v) h = (hasT t h || decide (h = x)) := by
  rw [Bool.eq_iff_iff, has_iff, put_h, List.mem_append, List.mem_singleton, Bool.or_eq_true, has_iff, decide_eq_true_iff]
theorem get_put_same {t : Tb} {x : Int} (h : hasT t x = false) (v : Int) : getT (putT t x v) x = v := by
  have hm' : x ∉ t.h := fun e => by rw [has_iff.2 e] at h; cases h
  have : t.l.find? (fun y => y.1 == x) = none := List.find?_eq_none.2 fun p hp => by
    have : p.1 ≠ x := fun e => hm' (e ▸ List.mem_map_of_mem hp)
    simpa using this
  unfold getT putT
  rw [List.find?_append, this]
  simp
theorem get_put_other {t : Tb} {x h : Int} (e : h ≠ x) (v : Int) : getT (putT t x v) h = getT t h := by
  unfold getT putT
  have : [(x, v)].find? (fun y => y.1 == h) = none := List.find?_eq_none.2 fun p hp => by
    rw [List.mem_singleton] at hp
    subst hp
    simpa using fun q => e q.symm
  simp only [List.find?_append, this, Option.or_none]
theorem has_drop (t : Tb) (x h : Int) : hasT (dropT t x) h = (hasT t h && decide (h ≠ x)) := by
  rw [Bool.eq_iff_iff, has_iff, drop_h, List.mem_filter, Bool.and_eq_true, has_iff, decide_eq_true_iff]
  simp
theorem get_drop_other {t : Tb} {x h : Int} (e : h ≠ x) : getT (dropT t x) h = getT t h := by
  unfold getT dropT
  rw [Maps.find_filter_keep (fun p hp => by
    have : p.1 = h := by simpa using hp
    simpa [this] using e)]
theorem len_drop {t : Tb} (k : t.Ok) {x : Int} (h : hasT t x = true) : (dropT t x).l.length + 1 = t.l.length := by
  obtain ⟨a, v, b, e, _, ed, _⟩ := cut_at k h
  rw [e, ed]
  simp [Nat.add_assoc]
abbrev kI (h : Int) : Lit := .int .i64 h
abbrev dU (v : Int) : DataW Unit := .lit (.int .u64 v)
theorem kI_ne {h x : Int} (e : h ≠ x) : kI h ≠ kI x := fun q => e (by injection q)
theorem kI_key (h : Int) : WideAt.IsKeyLit (kI h) := trivial
/-- A map that reads as a table. -/
structure MapIs (D : DataW Unit) (t : Tb) : Prop where
  tidy : Maps.Tidy D
  has : ∀ h, Maps.has D (kI h) = hasT t h
  get : ∀ h, hasT t h = true → D.atKey (kI h) (dU 0) = dU (getT t h)
  size : Maps.size D = t.l.length
theorem MapIs.new : MapIs (.map []) ⟨[], 0⟩ := ⟨Maps.tidy_empty, fun h => rfl, fun h e => (by cases e), rfl⟩
theorem MapIs.put {D : DataW Unit} {t : Tb} (m : MapIs D t) (k : t.Ok) {x : Int} (hx : t.n ≤ x) (v : Int) : MapIs (D.put (kI x) (dU v)) (putT t x v) := by
  have f := fresh k hx
  refine ⟨m.tidy.put (kI_key x) _, fun h => ?_, fun h e => ?_, ?_⟩
  · rw [has_put]
    by_cases e : h = x
    · subst e
      rw [Maps.has_put_same m.tidy.isMap (kI_key h)]; simp
    · rw [Maps.has_put_other (kI_ne e), m.has, decide_eq_false e, Bool.or_false]
  · by_cases q : h = x
    · subst q
      rw [Maps.atKey_put_same m.tidy.isMap (kI_key h), get_put_same f]
    · rw [Maps.atKey_put_other (kI_ne q), get_put_other q]
      rw [has_put, decide_eq_false q, Bool.or_false] at e
      exact m.get h e
  · rw [Maps.size_put m.tidy, m.has, f, m.size]
    simp [putT]
theorem MapIs.del {D : DataW Unit} {t : Tb} (m : MapIs D t) (k : t.Ok) {x : Int} (hx : hasT t x = true) : MapIs (D.del (kI x)) (dropT t x) := by
  refine ⟨m.tidy.del _, fun h => ?_, fun h e => ?_, ?_⟩
  · rw [has_drop]
    by_cases e : h = x
    · subst e
      rw [Maps.has_del_same]; simp
    · rw [Maps.has_del_other (kI_ne e), m.has, decide_eq_true e, Bool.and_true]
  · rw [has_drop, Bool.and_eq_true, decide_eq_true_iff] at e
    rw [Maps.atKey_del_other (kI_ne e.2), get_drop_other e.2]
    exact m.get h e.1
  · have h1 := Maps.size_del (k := kI x) m.tidy
    rw [m.has, hx, if_pos rfl, m.size] at h1
    have h2 := len_drop k hx
    omega
theorem MapIs.same {D : DataW Unit} {t t' : Tb} (m : MapIs D t) (e : t'.l = t.l) : MapIs D t' := by
  have h1 : ∀ h, hasT t' h = hasT t h := fun h => by unfold hasT Tb.h; rw [e]
  have h2 : ∀ h, getT t' h = getT t h := fun h => by unfold getT; rw [e]
  exact ⟨m.tidy, fun h => by rw [h1]; exact m.has h, fun h q => by rw [h2]; rw [h1] at q; exact m.get h q, by rw [e]; exact m.size⟩
/-- A map of handles that are gone: all below the next one. -/
structure GoneIs (E : DataW Unit) (t : Tb) : Prop where
  map : Maps.IsMap E
  lt : ∀ h, Maps.has E (kI h) = true → h < t.n
theorem GoneIs.new : GoneIs (.map []) ⟨[], 0⟩ := ⟨Maps.isMap_empty, fun h e => by cases e⟩
theorem GoneIs.mono {E : DataW Unit} {t t' : Tb} (g : GoneIs E t) (h : t.n ≤ t'.n) : GoneIs E t' := ⟨g.map, fun x e => Int.lt_of_lt_of_le (g.lt x e) h⟩
theorem GoneIs.put {E : DataW Unit} {t : Tb} (g : GoneIs E t) {x : Int} (h : x < t.n) (d : DataW Unit) : GoneIs (E.put (kI x) d) t := by
  refine ⟨g.map.put _ _, fun y e => ?_⟩
  by_cases q : y = x
  · subst q; exact h
  · rw [Maps.has_put_other (kI_ne q)] at e
    exact g.lt y e
/-- What an act does, told apart as the statement does. -/
theorem do_cases {t : Tb} (k : t.Ok) (a : Ac) :
    (a.d = 0 ∧ doE t a = 0 ∧ doN t a = t.n ∧ doT t a = putT t t.n a.v ∧ t.n < 2147483647) ∨ (a.d = 2 ∧ doE t a = 0 ∧ doT t a = putT t a.h a.v ∧ t.n ≤ a.h ∧ a.h < 2147483647) ∨
    (a.d = 1 ∧ doN t a = 1 ∧ hasT t a.h = true ∧ doT t a = dropT t a.h) ∨ ((a.d = 0 → doE t a ≠ 0) ∧ (a.d = 2 → doE t a ≠ 0) ∧ (a.d = 1 → doN t a ≠ 1) ∧ (doT t a).l = t.l ∧ t.n ≤ (doT t a).n) := by
  by_cases d0 : a.d = 0
  · have e1 : doE t a = addE t := by simp [doE, d0]
    have e2 : doN t a = addN t := by simp [doN, d0]
    have e3 : doT t a = addT t a.v := by simp [doT, d0]
    by_cases e : addE t = 0
    · refine .inl ⟨d0, by rw [e1, e], by rw [e2]; exact if_pos e, by rw [e3]; exact if_pos e, (addE_zero e).2⟩
    · have e4 : addT t a.v = t := if_neg e
      refine .inr (.inr (.inr ⟨fun _ => by rw [e1]; exact e, fun q => by omega, fun q => by omega, by rw [e3, e4], by rw [e3, e4]; exact Int.le_refl _⟩))
  · by_cases d1 : a.d = 1
    · have e2 : doN t a = (if hasT t a.h = true then 1 else 0) := by simp [doN, d1]
      have e3 : doT t a = dropT t a.h := by simp [doT, d1]
      cases hm : hasT t a.h with
      | true => exact .inr (.inr (.inl ⟨d1, by rw [e2, hm]; rfl, rfl, e3⟩))
      | false =>
        rw [drop_none hm] at e3
        refine .inr (.inr (.inr ⟨fun q => by omega, fun q => by omega, fun _ => by rw [e2, hm]; decide, by rw [e3], by rw [e3]; exact Int.le_refl _⟩))
    · by_cases d2 : a.d = 2
      · have e1 : doE t a = layE t a.h := by simp [doE, d2]
        have e3 : doT t a = layT t a.h a.v := by simp [doT, d2]
        by_cases e : layE t a.h = 0
        · exact .inr (.inl ⟨d2, by rw [e1, e], by rw [e3]; exact if_pos e, (layE_zero e).2.1, (layE_zero e).2.2⟩)
        · have e4 : layT t a.h a.v = t := if_neg e
          refine .inr (.inr (.inr ⟨fun q => by omega, fun _ => by rw [e1]; exact e, fun q => by omega, by rw [e3, e4], by rw [e3, e4]; exact Int.le_refl _⟩))
      · refine .inr (.inr (.inr ⟨fun q => by omega, fun q => by omega, fun q => by omega, ?_, ?_⟩))
        · by_cases d3 : a.d = 3
          · have e3 : doT t a = goesT t a.h := by simp [doT, d3]
            rw [e3]; unfold goesT; split <;> rfl
          · have e3 : doT t a = t := by simp [doT, d0, d1, d2, d3]
            rw [e3]
        · by_cases d3 : a.d = 3
          · have e3 : doT t a = goesT t a.h := by simp [doT, d3]
            rw [e3]; unfold goesT
            by_cases q : goesE t a.h = 0
            · rw [if_pos q]
              unfold goesE at q
              split at q
              · cases q
              · show t.n ≤ a.h; omega
            · rw [if_neg q]; exact Int.le_refl _
          · have e3 : doT t a = t := by simp [doT, d0, d1, d2, d3]
            rw [e3]; exact Int.le_refl _
/-- The maps and the table, and what lies beside them. -/
structure Mid (w V : World) (p mh mg k : Nat) (t : Tb) (D E : DataW Unit) (N : Nat → Prop) : Prop where
  one : OneN w V (fun b => b = mh ∨ b = mg ∨ N b) p t
  has : V.ownsMap Try.prog 3 (plainElem Try.prog 26) mh k D
  gone : V.ownsMap Try.prog 3 (plainElem Try.prog 3) mg k E
  ne : mh ≠ mg
  out : ¬ N mh ∧ ¬ N mg
  low : w.heap.size ≤ mh ∧ w.heap.size ≤ mg
section
variable {w V w' : World} {p mh mg k : Nat} {t t' : Tb} {D E D' : DataW Unit} {N M : Nat → Prop} {P : Program} {kt : TypeId} {R : Value → Option (DataW Unit × List MemPlace)} {b n : Nat}
theorem map_kept {F : Nat → Prop} (h : V.ownsMap P kt R b n D) (X : Kept F V w') (hn : ¬ F b) : w'.ownsMap P kt R b n D := by
  have hlt := h.lt
  obtain ⟨es, clock, hb, F', hs, hD⟩ := h
  exact ⟨es, clock, (X.block b hlt hn).trans hb, F', hs, hD⟩
theorem map_below (h : V.ownsMap P kt R b n D) (X : Below V.heap.size V w') : w'.ownsMap P kt R b n D := map_kept (F := fun _ => False) h (Kept.of_below X) id
theorem OneN.turn (h : OneN w V N p t) {m : Nat} (g : V.grownBy w' (some m)) (hm : N m) (low : w.heap.size ≤ m) : OneN w w' N p t := by
  obtain ⟨F, a, l, d⟩ := h.ex
  have X : Kept (fun b => b = m) V w' := ⟨g.os, g.tape, g.output, g.size, fun b hb hn => g.block b hb (fun e => hn (by simpa using e))⟩
  exact ⟨⟨F, a.kept X (fun b e f => d b e (f ▸ hm)), l, d⟩, fun b e => Nat.lt_of_lt_of_le (h.nlt b e) g.size, h.below.trans (X.below (fun b e => e ▸ low) h.below.size)⟩
theorem Mid.act (h : Mid w V p mh mg k t D E N) : ∃ F, At V p F t ∧ ∀ t' w', Post F V p t' w' → Mid w w' p mh mg k t' D E N ∧ Kept (fun b => ¬ N b) V w' := by
  obtain ⟨F, a, nx⟩ := h.one.act
  refine ⟨F, a, fun t' w' X => ?_⟩
  obtain ⟨o, kk⟩ := nx t' w' X
  exact ⟨⟨o, map_kept h.has kk (fun e => e (.inl rfl)), map_kept h.gone kk (fun e => e (.inr (.inl rfl))), h.ne, h.out, h.low⟩, kk.mono fun b _ e f => e (.inr (.inr f))⟩
theorem Mid.more (h : Mid w V p mh mg k t D E N) (hb : Below V.heap.size V w') (q : ∀ b, M b → N b ∨ (V.heap.size ≤ b ∧ b < w'.heap.size)) : Mid w w' p mh mg k t D E M := by
  have a1 := h.has.lt
  have a2 := h.gone.lt
  exact ⟨h.one.more hb (fun b e => by
    rcases e with e | e | e
    · exact .inl (.inl e)
    · exact .inl (.inr (.inl e))
    · exact (q b e).imp (fun e => .inr (.inr e)) id), map_below h.has hb, map_below h.gone hb, h.ne, ⟨fun e => (q _ e).elim h.out.1 (fun e => by omega), fun e => (q _ e).elim h.out.2 (fun e => by omega)⟩, h.low⟩
theorem Mid.still (h : Mid w V p mh mg k t D E N) (hb : Below V.heap.size V w') : Mid w w' p mh mg k t D E N := h.more hb fun _ => .inl
theorem Mid.less (h : Mid w V p mh mg k t D E N) : Mid w V p mh mg k t D E (fun _ => False) :=
  ⟨h.one.less fun b e => e.imp id fun e => e.imp id False.elim, h.has, h.gone, h.ne, ⟨id, id⟩, h.low⟩
theorem Mid.up (h : Mid w V p mh mg k t D E N) : Mid w V p mh mg (k + 1) t D E N := ⟨h.one, h.has.mono (Nat.le_succ _), h.gone.mono (Nat.le_succ _), h.ne, h.out, h.low⟩
/-- The map of those that are there is another one. -/
theorem Mid.setH (h : Mid w V p mh mg k t D E N) (o : w'.ownsMap Try.prog 3 (plainElem Try.prog 26) mh (k + 1) D') (g : V.grownBy w' (some mh)) : Mid w w' p mh mg (k + 1) t D' E N :=
  ⟨h.one.turn g (.inl rfl) h.low.1, o, (h.gone.kept g (fun e => h.ne (by simpa using e.symm))).mono (Nat.le_succ _), h.ne, h.out, h.low⟩
theorem Mid.setG (h : Mid w V p mh mg k t D E N) (o : w'.ownsMap Try.prog 3 (plainElem Try.prog 3) mg (k + 1) D') (g : V.grownBy w' (some mg)) : Mid w w' p mh mg (k + 1) t D D' N :=
  ⟨h.one.turn g (.inr (.inl rfl)) h.low.2, (h.has.kept g (fun e => h.ne (by simpa using e))).mono (Nat.le_succ _), o, h.ne, h.out, h.low⟩
theorem grown_kept {m : Nat} {a : Ac} {x : Nat} (h : KB V x a) (g : V.grownBy w' (some m)) (hn : x ≠ m) : KB w' x a := (g.block x h.lt (fun e => hn (by simpa using e))).trans h
end
end Go.Proofs.Ytlimfgmmbkgeeaa
