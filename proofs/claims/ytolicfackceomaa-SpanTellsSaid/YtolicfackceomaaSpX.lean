/-
  A map from spans to how often they stand in a list.
-/
import Derived.Test.YtolicfackceomaaSpX0
import Derived.WideKeyEntry
namespace Go.Proofs.Ytolicfackceomaa
open Go.RowKit Go.Maps Go.MapKept Go.ChangeMaps
set_option linter.unusedVariables false
set_option maxRecDepth 100000

def upd (m : Sp → Nat) (s : Sp) (c : Nat) (u : Sp) : Nat := if u = s then c else m u
/-- Block b is a map of the call's own: so often each span. -/
structure MP (w : World) (b n : Nat) (m : Sp → Nat) : Prop where
  own : ∃ D : DataW Unit, w.ownsMap Try.prog 26 (plainElem Try.prog 3) b n D ∧ ∀ (s : Sp) (kl : Lit), s.Ok → keyOf Try.prog 26 s.val = some kl → D.atKey kl (.lit (.int .i64 0)) = .lit (.int .i64 ((m s : Nat) : Int))
theorem MP.lt {w : World} {b n : Nat} {m : Sp → Nat} (h : MP w b n m) : b < w.heap.size := by
  obtain ⟨D, hD, _⟩ := h.own
  exact hD.lt
theorem MP.keep {w w' : World} {b n : Nat} {m : Sp → Nat} (h : MP w b n m) (hk : w'.heap[b]? = w.heap[b]?) : MP w' b n m := by
  obtain ⟨D, ⟨es, clock, hb, r⟩, hm⟩ := h.own
  exact ⟨D, ⟨es, clock, hk.trans hb, r⟩, hm⟩
theorem MP.below {w w' : World} {b n : Nat} {m : Sp → Nat} (h : MP w b n m) (hb : Below w.heap.size w w') : MP w' b n m := h.keep (hb.block b h.lt)
theorem MP.drew {w : World} {b n : Nat} {m : Sp → Nat} (h : MP w b n m) : MP w.drew b n m := h.keep rfl
theorem MP.made (w : World) : MP (w.alloc (.map #[] 0)) w.heap.size 0 (fun _ => 0) := ⟨_, World.ownsMap_made w _ _ _, fun s kl _ _ => rfl⟩
theorem keys_apart {s u : Sp} {k l : Lit} (hs : s.Ok) (hu : u.Ok) (h1 : keyOf Try.prog 26 s.val = some k) (h2 : keyOf Try.prog 26 u.val = some l) : k = l ↔ s = u := by
  constructor
  · rintro rfl
    have := keyedS.inj h1 h2
    have e := ws_same (ws_of hs) (ws_of hu)
    simp only [Sp.val, Value.agg.injEq] at this
    have t : decide (s = u) = true := by
      rw [← e]
      refine decide_eq_true ?_
      simp at this
      omega
    exact of_decide_eq_true t
  · rintro rfl
    rw [h1] at h2
    exact Option.some.inj h2
theorem zeroI (w : World) : (zeroValue 3).run Try.prog w = .ok (.int .i64 0) w := by kernel_rfl
theorem undI : Try.prog.underlying 75 = some (.map 26 3) := Try.underlying75
theorem MP.look {w : World} {b n : Nat} {m : Sp → Nat} (h : MP w b n m) {p q r t : Int} {s : Sp} (hs : Ws p q r t s) :
    (Instr.lookup 75 (.map (some b)) (.agg #[.int .u64 p, .int .u64 q, .int .u64 r, .int .u64 t]) false).run Try.prog w = .ok (.int .i64 ((m s : Nat) : Int)) w := by
  obtain ⟨D, hD, hm⟩ := h.own
  obtain ⟨kl, hk⟩ := keyS hs
  obtain ⟨c, hrun, hat, _⟩ := hD.lookup_int keyedS undI Try.underlying3 (zeroI w) hk
  rw [← hs.val] at hk
  rw [hm s kl hs.ok hk] at hat
  simp only [DataW.lit.injEq, Lit.int.injEq, true_and] at hat
  rw [hrun, ← hat]
theorem MP.put {w : World} {b n : Nat} {m : Sp → Nat} (h : MP w b n m) {p q r t : Int} {s : Sp} (hs : Ws p q r t s) (c : Nat) (hc : c ≤ 1000) (hn : n ≤ 1000) :
    ∃ (v0 : Value) (st : Nat) (W1 W2 : World), (Instr.mapEntry 75 (.map (some b)) (.agg #[.int .u64 p, .int .u64 q, .int .u64 r, .int .u64 t])).run Try.prog w = .ok (.tuple #[v0, .int .i64 ((st : Nat) : Int)]) W1 ∧
      (Instr.entryStore 75 (.map (some b)) (.int .i64 ((st : Nat) : Int)) (.int .i64 ((c : Nat) : Int))).run Try.prog W1 = .ok () W2 ∧ MP W2 b (n + 1) (upd m s c) ∧ w.grownBy W2 (some b) ∧ w.grownBy W1 (some b) := by
  obtain ⟨D, hD, hm⟩ := h.own
  obtain ⟨kl, hk⟩ := keyS hs
  have wf : (Lit.int .i64 ((c : Nat) : Int)).wf = true := WalkArith.wf_i64 (by omega)
  obtain ⟨w', hrun, hown, hg⟩ := hD.update keyedS undI (by unfold maxLen; omega) hk (plainElem_int Try.underlying3 wf)
  have hmap := hD.isMap
  obtain ⟨es, clock, hb, F, _, _⟩ := hD
  obtain ⟨v0, st, es1, clock1, he, _, hst⟩ := WideElems.entry_then_store klawS undI zeroI hb F hk
  have hb1 : (setBlock w b (.map es1 clock1)).heap[b]? = some (.map es1 clock1) := heap_setBlock_same hb _
  obtain ⟨es', clock', h1, h2⟩ := hst _ (.int .i64 ((c : Nat) : Int)) hb1
  rw [hrun] at h2
  have ew : w' = setBlock w b (.map es' clock') := by injection h2
  have e2 : setBlock (setBlock w b (.map es1 clock1)) b (.map es' clock') = w' := by rw [ew]; simp [setBlock]
  refine ⟨v0, st, _, w', he, by rw [← e2]; exact h1, ⟨_, hown, fun u ku hu hku => ?_⟩, hg, ⟨rfl, rfl, rfl, by simp [setBlock], fun i _ hi => heap_setBlock_other hb _ (fun e => hi (by rw [e]))⟩⟩
  rw [← hs.val] at hk
  unfold upd
  by_cases e : u = s
  · subst e
    have : ku = kl := (keys_apart hu hs.ok hku hk).2 rfl
    subst this
    rw [if_pos rfl]
    exact atKey_put_same hmap (keyedS.key hk) _ _
  · rw [if_neg e]
    rw [atKey_put_other (fun hh => e ((keys_apart hu hs.ok hku hk).1 hh))]
    exact hm u ku hu hku
theorem set_same_obj {a : Array Obj} {b : Nat} {o : Obj} (h : a[b]? = some o) : a.setIfInBounds b o = a := by
  apply Array.ext_getElem?
  intro i
  rw [Array.getElem?_setIfInBounds]
  by_cases e : b = i
  · subst e
    have := (Array.getElem?_eq_some_iff.1 h).1
    simp only [this, if_true]
    exact h.symm
  · simp [e]
/-- Behind the entry's laying the look-up tells the same. -/
theorem MP.entryLook {w : World} {b n : Nat} {m : Sp → Nat} (h : MP w b n m) {p q r t : Int} {s : Sp} (hs : Ws p q r t s) (hn : n ≤ 1000) {v : Value} {W1 : World}
    (he : (Instr.mapEntry 75 (.map (some b)) (.agg #[.int .u64 p, .int .u64 q, .int .u64 r, .int .u64 t])).run Try.prog w = .ok v W1) :
    (Instr.lookup 75 (.map (some b)) (.agg #[.int .u64 p, .int .u64 q, .int .u64 r, .int .u64 t]) false).run Try.prog W1 = .ok (.int .i64 ((m s : Nat) : Int)) W1 := by
  have L0 := h.look hs
  obtain ⟨D, hD, hm⟩ := h.own
  obtain ⟨kl, hk⟩ := keyS hs
  have hD0 := hD
  obtain ⟨es, clock, hb, F, _, _⟩ := hD
  have und := undI
  rcases klawS.find w hk es.toList F.keys with ⟨h1, h2⟩ | ⟨j, e0, h1, h2, h3⟩
  · have wf : (Lit.int .i64 ((0 : Nat) : Int)).wf = true := WalkArith.wf_i64 (by omega)
    obtain ⟨w', hrun, hown, hg⟩ := hD0.update keyedS undI (by unfold maxLen; omega) hk (plainElem_int Try.underlying3 wf)
    have e1 : W1 = setBlock w b (.map (es.push ⟨.agg #[.int .u64 p, .int .u64 q, .int .u64 r, .int .u64 t], .int .i64 0, clock⟩) (clock + 1)) := by
      simp [Instr.mapEntry, run_underlying und, MapKept.run_getObj_map hb, klawS.check w false hk, h1, MapKept.run_setObj_map _ hb, Result.andThen] at he
      rw [← he.2]; rfl
    have e2 : w' = setBlock w b (.map (es.push ⟨.agg #[.int .u64 p, .int .u64 q, .int .u64 r, .int .u64 t], .int .i64 0, clock⟩) (clock + 1)) := by
      simp [Instr.mapUpdate, run_underlying und, MapKept.run_getObj_map hb, klawS.check w false hk, h1, MapKept.run_setObj_map _ hb, Result.andThen] at hrun
      rw [← hrun]; rfl
    have z : ((m s : Nat) : Int) = 0 := by
      have L1 : (Instr.lookup 75 (.map (some b)) (.agg #[.int .u64 p, .int .u64 q, .int .u64 r, .int .u64 t]) false).run Try.prog w = .ok (.int .i64 0) w := by
        simp [Instr.lookup, run_underlying und, MapKept.run_getObj_map hb, klawS.check w _ hk, h1, Result.andThen]
      rw [L1] at L0
      injection L0 with q1 q2
      injection q1 with _ q3
      exact q3.symm
    have e3 : W1 = w' := e1.trans e2.symm
    rw [e3, z]
    obtain ⟨c, hl, hat, _⟩ := hown.lookup_int keyedS undI Try.underlying3 (zeroI _) hk
    rw [atKey_put_same hD0.isMap (keyedS.key hk)] at hat
    simp only [DataW.lit.injEq, Lit.int.injEq, true_and] at hat
    rw [hl, ← hat]; rfl
  · have hj : es[j]? = some e0 := by simpa using h2
    have hsame : es.modify j (fun e => { e with key := .agg #[.int .u64 p, .int .u64 q, .int .u64 r, .int .u64 t] }) = es := by
      apply Array.ext'
      rw [Array.toList_modify, ChangeMaps.modify_eq_set _ _ _ _ h2]
      have : ({ e0 with key := .agg #[.int .u64 p, .int .u64 q, .int .u64 r, .int .u64 t] } : MapEntry) = e0 := by rw [← h3]
      rw [this]
      exact WideElems.set_self _ _ _ h2
    have e1 : W1 = w := by
      simp [Instr.mapEntry, run_underlying und, MapKept.run_getObj_map hb, klawS.check w false hk, h1, hj, h3, klawS.stays w hk, hsame, MapKept.run_setObj_map _ hb, Result.andThen] at he
      rw [← he.2]
      show ({ w with heap := w.heap.setIfInBounds b (.map es clock) } : World) = w
      rw [set_same_obj hb]
    rw [e1]
    exact L0
end Go.Proofs.Ytolicfackceomaa
