/-
  The closures that Apart and ordered hand on, and Clone and DeleteFunc of package slices on a slice of spans.
-/
import Derived.Test.YtolicfackceomaaSpG
import Derived.Test.YtolicfackceomaaSpI
import Derived.Test.YtolicfackceomaaSpF
import Derived.Test.YtolicfackceomaaSpO
import Derived.Sort.Grow
import Derived.Laws.CopyRow
import Derived.Lib.SliceRun
import Derived.Shelf.SlSortCmp.NoneTotal
namespace Go.Proofs.Ytolicfackceomaa
open Go.RowKit
set_option linter.unusedVariables false
set_option maxRecDepth 100000

theorem pApart : Pred 41 (fun s => !decide (s.f ≤ s.t)) := ⟨enters_of Try.func41 (by kernel_rfl) rfl, fun a b c d s W h => by
  have R := Lib.hid (sRight h)
  go_enter Try.func41, Try.ntmps41
  go_wp2_with fail
  refine (R.out _).mono ?_
  rintro e V ⟨rfl, hb⟩
  have HB : Hid (Below W.heap.size W V) := Lib.hid (below_then (below_allocs _ _) hb)
  clear hb R
  go_wp2_with fail
  go_ret
  exact ⟨by simp, HB.out⟩⟩
theorem pNone : Pred 53 (fun s => decide (lenS s = 0)) := ⟨enters_of Try.func53 (by kernel_rfl) rfl, fun a b c d s W h => by
  have L := Lib.hid (sLen h)
  have eq := fun w => eqU ((hiW (lenS s) : Nat) : Int) ((loW (lenS s) : Nat) : Int) 0 0 w
  have e0 : decide ((((hiW (lenS s) : Nat) : Int) = 0) ∧ (((loW (lenS s) : Nat) : Int) = 0)) = decide (lenS s = 0) := wn_same (wn_of (lenS_lt h.ok)) ⟨by decide, by decide, by decide, by decide, rfl⟩
  rw [e0] at eq
  clear e0
  generalize ((hiW (lenS s) : Nat) : Int) = p at L eq
  generalize ((loW (lenS s) : Nat) : Int) = q at L eq
  generalize decide (lenS s = 0) = r at eq ⊢
  go_enter Try.func53, Try.ntmps53
  go_wp2_with fail
  refine (L.out _).mono ?_
  rintro e V ⟨rfl, hb⟩
  have HB : Hid (Below W.heap.size W V) := Lib.hid (below_then (below_allocs _ _) hb)
  clear hb L
  go_wp2_with fail
  go_ret
  exact ⟨rfl, HB.out⟩⟩
/-- What wide.Cmp does, to the block: it lays two. -/
theorem cCmpX {a b c d : Int} {M N : Nat} (i : Wn a b M) (j : Wn c d N) (w : World) :
    Calls Try.prog 30 #[.agg #[.int .u64 a, .int .u64 b], .agg #[.int .u64 c, .int .u64 d]] w (fun e w' => e = .returned (.int .i64 (cmpN M N)) ∧ ∃ q os, w' = Sort.grow (w.drewN q) os) := by
  obtain ⟨a1, a2, a3, a4, a5⟩ := i
  obtain ⟨b1, b2, b3, b4, b5⟩ := j
  have E : Hid (∀ r : Int, r = cmpN M N ↔ (a * 18446744073709551616 + b = c * 18446744073709551616 + d ∧ r = 0) ∨ (a * 18446744073709551616 + b < c * 18446744073709551616 + d ∧ r = -1) ∨ (c * 18446744073709551616 + d < a * 18446744073709551616 + b ∧ r = 1)) := by
    refine Lib.hid fun r => ?_
    unfold cmpN
    split
    · omega
    · split <;> omega
  clear a5 b5
  go_enter Try.func30, Try.ntmps30
  go_wp2
  all_goals
    go_returns
    refine ⟨congrArg (fun q => Ending.returned (.int .i64 q)) ((E.out _).2 (by omega)), 0, _, by rw [Sort.alloc_eq_grow, Sort.alloc_eq_grow, Sort.grow_grow]; rfl⟩
/-- The closure by which ordered sorts. -/
theorem cOrder {a b c d a' b' c' d' : Int} {s u : Sp} (h : Ws a b c d s) (i : Ws a' b' c' d' u) (w : World) :
    Calls Try.prog 57 #[.agg #[.int .u64 a, .int .u64 b, .int .u64 c, .int .u64 d], .agg #[.int .u64 a', .int .u64 b', .int .u64 c', .int .u64 d']] w (fun e w' => e = .returned (.int .i64 (cmpN s.f u.f)) ∧ ∃ q os, w' = Sort.grow (w.drewN q) os) := by
  have C := Lib.hid (fun w => cCmpX h.f i.f w)
  generalize cmpN s.f u.f = r at C ⊢
  go_enter Try.func57, Try.ntmps57
  go_wp2_with fail
  refine (C.out _).mono ?_
  rintro e V ⟨rfl, q, os, rfl⟩
  clear C
  go_wp2
  go_ret
  exact ⟨rfl, q, _, by rw [Sort.alloc_eq_grow, Sort.alloc_eq_grow, Sort.grow_grow]; show Sort.grow (Sort.grow (w.drewN q) _) os = _; rw [Sort.grow_grow]⟩
end Go.Proofs.Ytolicfackceomaa
/-
  A row of spans of the call's own that is written; Clone of package slices on a slice of spans.
-/
namespace Go.Proofs.Ytolicfackceomaa
open Go.RowKit
set_option linter.unusedVariables false
set_option maxRecDepth 100000

/-- Block g holds these spans, from its first cell on, and has cap places. -/
structure RB (w : World) (g cap : Nat) (d : List Sp) : Prop where
  ok : ∀ s ∈ d, s.Ok
  cur : ∃ cur, w.heap[g]? = some (.cells cur 26 (0, 0)) ∧ d.length ≤ cap ∧ cap ≤ maxLen ∧ cur.size = cap * 4 ∧ cur.toList.take (d.length * 4) = encs d
theorem RB.lt {w : World} {g cap : Nat} {d : List Sp} (h : RB w g cap d) : g < w.heap.size := by
  obtain ⟨cur, hh, _⟩ := h.cur
  exact (Array.getElem?_eq_some_iff.1 hh).1
theorem RB.below {w w' : World} {g cap : Nat} {d : List Sp} (h : RB w g cap d) (hb : Below w.heap.size w w') : RB w' g cap d := by
  have hl := h.lt
  obtain ⟨ok, cur, hh, r⟩ := h
  exact ⟨ok, cur, (hb.block g hl).trans hh, r⟩
theorem RB.sl {w : World} {g cap : Nat} {d : List Sp} (h : RB w g cap d) : SL w (some ⟨g, 0, none⟩) cap d := by
  have hl := h.lt
  obtain ⟨ok, cur, hh, hc, hm, hs, ht⟩ := h
  refine ⟨ok, hc, hm, fun i hi => ⟨g, 0, rfl, hl, fun c v hv => ?_⟩⟩
  have e := encs_get d i c v hi hv
  rw [← ht] at e
  have hc4 : c < 4 := (List.getElem?_eq_some_iff.1 hv).1
  rw [List.getElem?_take_of_lt (by omega)] at e
  simp only [World.cell?, hh, Option.isSome_none, Bool.false_eq_true, if_false, Nat.zero_add]
  rw [← e]; simp
theorem RB.free {w : World} {g cap : Nat} {d : List Sp} (h : RB w g cap d) (k : Nat) : w.frozen? ⟨g, k, none⟩ = false := by
  obtain ⟨ok, cur, hh, _⟩ := h
  simp [World.frozen?, hh]
theorem take_set_eq (L : List Value) (n k : Nat) (v : Value) : (L.set k v).take n = (L.take n).set k v := by rw [List.take_set]
theorem encs_set : ∀ (d : List Sp) (i : Nat) (s : Sp) (a b c e : Value), i < d.length → enc s = [a, b, c, e] → ((((encs d).set (i * 4) a).set (i * 4 + 1) b).set (i * 4 + 2) c).set (i * 4 + 3) e = encs (d.set i s)
  | [], i, _, _, _, _, _, h, _ => absurd h (Nat.not_lt_zero _)
  | x :: d, 0, s, a, b, c, e, _, h => by
    rw [List.set_cons_zero, encs, encs, h]
    show ((((enc x ++ encs d).set 0 a).set 1 b).set 2 c).set 3 e = _
    unfold enc
    rfl
  | x :: d, i + 1, s, a, b, c, e, hi, h => by
    have ih := encs_set d i s a b c e (by simpa using hi) h
    rw [List.set_cons_succ, encs, encs, ← ih]
    have l : (enc x).length = 4 := rfl
    rw [List.set_append_right _ _ (by omega), List.set_append_right _ _ (by omega), List.set_append_right _ _ (by omega), List.set_append_right _ _ (by omega)]
    rw [l, show (i + 1) * 4 - 4 = i * 4 from by omega, show (i + 1) * 4 + 1 - 4 = i * 4 + 1 from by omega, show (i + 1) * 4 + 2 - 4 = i * 4 + 2 from by omega, show (i + 1) * 4 + 3 - 4 = i * 4 + 3 from by omega]
theorem RB.put {w : World} {g cap : Nat} {d : List Sp} (h : RB w g cap d) {i : Nat} (hi : i < d.length) {a b c e : Int} {s : Sp} (hs : Ws a b c e s) :
    RB ((((w.setCell ⟨g, i * 4, none⟩ (.int .u64 a)).setCell ⟨g, i * 4 + 1, none⟩ (.int .u64 b)).setCell ⟨g, i * 4 + 2, none⟩ (.int .u64 c)).setCell ⟨g, i * 4 + 3, none⟩ (.int .u64 e)) g cap (d.set i s) := by
  obtain ⟨ok, cur, hh, hc, hm, hz, ht⟩ := h
  refine ⟨fun x hx => ?_, (((cur.setIfInBounds (i * 4) (.int .u64 a)).setIfInBounds (i * 4 + 1) (.int .u64 b)).setIfInBounds (i * 4 + 2) (.int .u64 c)).setIfInBounds (i * 4 + 3) (.int .u64 e), ?_, by rwa [List.length_set], hm, by simpa using hz, ?_⟩
  · rcases List.mem_or_eq_of_mem_set hx with q | rfl
    · exact ok x q
    · exact hs.ok
  · simp [World.setCell, Array.getElem?_modify, hh]
  · simp only [Array.toList_setIfInBounds, List.length_set, take_set_eq]
    rw [ht]
    exact encs_set d i s _ _ _ _ hi hs.enc
theorem RB.far {w : World} {g cap : Nat} {d : List Sp} (h : RB w g cap d) {a : Addr} (hne : g ≠ a.block) (u : Value) : RB (w.setCell a u) g cap d := by
  obtain ⟨ok, cur, hh, r⟩ := h
  exact ⟨ok, cur, (Below.heap_setCell w a u g hne).trans hh, r⟩
theorem Grow.rb {B : Nat} {w wr : World} {g n cap : Nat} {l : List Sp} (h : Grow 26 B w (.slice (some ⟨g, 0, none⟩) n cap) l wr) : n = l.length ∧ B ≤ g ∧ RB wr g cap l := by
  rcases h.own.2 with ⟨hv, _⟩ | ⟨g', cap', cur, hv, hg, hh, hc, hm, hs, ht⟩
  · cases hv
  · simp only [Value.slice.injEq, Option.some.injEq, Addr.mk.injEq, and_true] at hv
    obtain ⟨rfl, rfl, rfl⟩ := hv
    exact ⟨rfl, hg, h.ok, cur, hh, hc, hm, hs, ht⟩
theorem encs_ok_news {w : World} {A : Addr} {cap : Nat} {l : List Sp} (h : SL w (some A) cap l) : ∀ (j : Nat) (u : Value), (encs l)[j]? = some u → w.cell? (A.add j) = some u := by
  intro j u hu
  obtain ⟨h1, h2⟩ := encs_get' l j u hu
  obtain ⟨b', o', e, hl, hc⟩ := h.cell _ h1
  simp only [Option.some.injEq] at e
  subst e
  rw [Addr.add_lit]
  exact h.news j u hu
set_option maxHeartbeats 2000000 in
/-- A clone of a slice of spans. -/
theorem xClone (A : Option Addr) (cap : Nat) (l : List Sp) (w : World) (h : SL w A cap l) (hn : l.length ≤ 1000) :
    Calls Try.prog 55 #[.slice A l.length cap] w (fun e w' => ∃ v, e = .returned v ∧ Grow 26 w.heap.size w v l w') := by
  have q22 : ∀ (w : World) (a : Option Addr) (n c n' c' : Nat), (binOp .eql 27 (.slice a n c) (.slice none n' c')).run Try.prog w = .ok (.bool a.isNone) w := fun w a n c n' c' => Lib.run_eql_slice_nil w _ _ a n c n' c' Try.underlying27
  cases A with
  | none =>
    have e : l = [] := by
      cases l with
      | nil => rfl
      | cons s l =>
        obtain ⟨b, o, e, _⟩ := h.cell 0 (by simp)
        cases e
    subst e
    clear h
    go_enter Try.func55, Try.ntmps55
    go_wp2
    go_ret
    exact ⟨_, rfl, ⟨rfl, .inl ⟨rfl, rfl⟩⟩, fun x hx => (by cases hx), Below.refl _ _, Nat.le_refl _⟩
  | some a =>
    obtain ⟨i0, hi, hz0, hz1, hz2⟩ := info_parts infoS
    have HI := Lib.hid hi
    have HZ0 := Lib.hid hz0
    have HZ1 := Lib.hid hz1
    have HZ2 := Lib.hid hz2
    have H := Lib.hid h
    clear hi hz0 hz1 hz2 h
    go_enter Try.func55, Try.ntmps55
    go_wp2_with (at_builtin; refine wpList_append_own _ rfl _ _ 27 rfl w.heap.size 26 i0 (.agg #[.int .u64 0, .int .u64 0, .int .u64 0, .int .u64 0]) 4 32 Try.underlying27 HI.out HZ0.out HZ1.out HZ2.out rfl (by decide) _ _ _ rfl (grow_start 26 w).own a l.length cap (encs l) rfl ?c1 ?c2 ?c3 ?c4 ?c5 ?c6 ?_)
    case c1 => exact encs_length l
    case c2 => exact encs_ok_news (H.out.below (below_allocs _ _))
    case c3 => exact encs_one _
    case c4 => simp; unfold maxLen; omega
    case c5 => simp; omega
    case c6 => simp
    intro v' w1 hown hgrow _
    have G1 := Lib.hid ((grow_start 26 w).step (k := l) H.out.ok (v' := v') (by simpa [encs] using hown) hgrow)
    clear hown hgrow
    go_wp2
    go_ret
    exact ⟨_, rfl, G1.out⟩
end Go.Proofs.Ytolicfackceomaa
/-
  DeleteFunc of package slices on a slice of spans of the call's own.
-/
namespace Go.Proofs.Ytolicfackceomaa
open Go.RowKit
set_option linter.unusedVariables false
set_option maxRecDepth 100000

/-- What the first i places hold while DeleteFunc has come to place j. -/
structure Kept (p : Sp → Bool) (l : List Sp) (i j : Nat) (d : List Sp) : Prop where
  len : d.length = l.length
  lt : i < j
  head : d.take i = (l.take j).filter (fun s => !p s)
  tail : ∀ m, j ≤ m → d.getD m default = l.getD m default
theorem Kept.keep {p : Sp → Bool} {l d : List Sp} {i j : Nat} (h : Kept p l i j d) (hj : j < l.length) (hp : p (l.getD j default) = false) : Kept p l (i + 1) (j + 1) (d.set i (l.getD j default)) := by
  have hl := h.len
  have hij := h.lt
  refine ⟨by rw [List.length_set, h.len], by omega, ?_, fun m hm => ?_⟩
  · rw [take_succ_getD l j hj, List.filter_append, ← h.head]
    rw [take_succ_getD (d.set i (l.getD j default)) i (by rw [List.length_set]; omega)]
    have e1 : (d.set i (l.getD j default)).take i = d.take i := by rw [List.take_set, List.set_eq_of_length_le]; rw [List.length_take]; omega
    have e2 : (d.set i (l.getD j default)).getD i default = l.getD j default := by
      rw [List.getD_eq_getElem?_getD, List.getElem?_set_self (by omega)]; rfl
    rw [e1, e2]
    clear e1 e2
    generalize l.getD j default = x at hp ⊢
    simp [hp]
  · rw [← h.tail m (by omega), List.getD_eq_getElem?_getD, List.getElem?_set_ne (by omega), ← List.getD_eq_getElem?_getD]
theorem Kept.skip {p : Sp → Bool} {l d : List Sp} {i j : Nat} (h : Kept p l i j d) (hj : j < l.length) (hp : p (l.getD j default) = true) : Kept p l i (j + 1) d := by
  refine ⟨h.len, by have := h.lt; omega, ?_, fun m hm => h.tail m (by omega)⟩
  rw [take_succ_getD l j hj, List.filter_append, ← h.head]
  generalize l.getD j default = x at hp ⊢
  simp [hp]
theorem Kept.start {p : Sp → Bool} {l : List Sp} {k : Nat} (hk : k < l.length) (hp : p (l.getD k default) = true) (ha : ∀ j, j < k → p (l.getD j default) = false) : Kept p l k (k + 1) l := by
  refine ⟨rfl, by omega, ?_, fun m hm => rfl⟩
  rw [take_succ_getD l k hk, List.filter_append]
  have : (l.take k).filter (fun s => !p s) = l.take k := by
    rw [List.filter_eq_self]
    intro s hs
    obtain ⟨i, hi, rfl⟩ := List.getElem_of_mem hs
    rw [List.length_take] at hi
    have := ha i (by omega)
    rw [List.getElem_take]
    rw [List.getD_eq_getElem?_getD, List.getElem?_eq_getElem (by omega)] at this
    simpa using this
  rw [this]
  clear this ha
  generalize l.getD k default = x at hp ⊢
  simp [hp]
theorem filter_none {p : Sp → Bool} {l : List Sp} (h : ∀ j, j < l.length → p (l.getD j default) = false) : l.filter (fun s => !p s) = l := by
  rw [List.filter_eq_self]
  intro s hs
  obtain ⟨i, hi, rfl⟩ := List.getElem_of_mem hs
  have := h i hi
  rw [List.getD_eq_getElem?_getD, List.getElem?_eq_getElem hi] at this
  simpa using this
set_option maxHeartbeats 1000000 in
theorem xDelNone (g : Nat) (p : Sp → Bool) (F : Pred g p) (A : Option Addr) (cap : Nat) (l : List Sp) (w : World) (h : SL w A cap l) (hz : ∀ j, j < l.length → p (l.getD j default) = false) :
    Calls Try.prog 54 #[.slice A l.length cap, .func (.func g) #[] #[]] w (fun e w' => e = .returned (.slice A l.length cap) ∧ Below w.heap.size w w') := by
  have C := Lib.hid (xIndex g p F A cap l w h)
  have Z := Lib.hid hz
  clear h F hz
  go_enter Try.func54, Try.ntmps54
  go_wp2_with fail
  refine C.out.mono ?_
  rintro e V ⟨r, hr, rfl, hb⟩
  obtain rfl : r = -1 := by
    rcases hr with ⟨e, _⟩ | ⟨k, hk, _, hp, _⟩
    · exact e
    · rw [Z.out k hk] at hp; cases hp
  clear hr C Z
  go_wp2
  go_ret
  exact ⟨rfl, hb⟩
theorem run_clearS (w : World) (b cap : Nat) (d : List Sp) (h : RB w b cap d) (i : Nat) (hi : i < d.length) :
    ∃ W', (∀ ty, (Builtin.clear_ #[27] ty #[.slice (some ⟨b, i * 4, none⟩) (d.length - i) (cap - i)]).run Try.prog w = .ok (.tuple #[]) W') ∧ RB W' b cap (d.take i) ∧ ∀ B, B ≤ b → Below B w W' := by
  obtain ⟨ok, cur, hh, hc, hm, hz, ht⟩ := h
  have zv : ∀ w, (zeroValue 26).run Try.prog w = .ok (.agg #[.int .u64 0, .int .u64 0, .int .u64 0, .int .u64 0]) w := Try.zeroValue26
  obtain ⟨vs, hvs⟩ : ∃ vs, (Builtin.zeroCells (Value.agg #[.int .u64 0, .int .u64 0, .int .u64 0, .int .u64 0]).cells (d.length - i)).toList = vs := ⟨_, rfl⟩
  have vl : vs.length = (d.length - i) * 4 := by rw [← hvs]; simp [Builtin.zeroCells, Value.cells]
  have v1 : ∀ v ∈ vs, v.oneCell' = true := by
    intro v hv
    rw [← hvs] at hv
    simp only [Builtin.zeroCells, Value.cells, Array.toList_map, List.mem_map, Array.toList_range, List.mem_range] at hv
    obtain ⟨k, _, rfl⟩ := hv
    have : k % 4 = 0 ∨ k % 4 = 1 ∨ k % 4 = 2 ∨ k % 4 = 3 := by omega
    show (#[Value.int .u64 0, .int .u64 0, .int .u64 0, .int .u64 0][k % 4]!).oneCell' = true
    rcases this with e | e | e | e <;> rw [e] <;> rfl
  have st := run_storeCells_at (P := Try.prog) b (i * 4) _ vs 0 cur w hh (by rw [vl]; omega) v1
  obtain ⟨arr, harr⟩ : ∃ arr, (cur.toList.take (i * 4 + 0) ++ vs ++ cur.toList.drop (i * 4 + 0 + vs.length)).toArray = arr := ⟨_, rfl⟩
  have asz : arr.size = cap * 4 := by
    rw [← harr]
    have h2 : cur.toList.length = cap * 4 := by simpa using hz
    simp only [List.size_toArray, List.length_append, List.length_take, List.length_drop, h2, vl]
    omega
  have atk : arr.toList.take (i * 4) = encs (d.take i) := by
    have h2 : cur.toList.length = cap * 4 := by simpa using hz
    rw [← harr]
    show ((cur.toList.take (i * 4 + 0) ++ vs ++ cur.toList.drop (i * 4 + 0 + vs.length))).take (i * 4) = _
    rw [Nat.add_zero, List.append_assoc, List.take_append_of_le_length (by rw [List.length_take, h2]; omega), List.take_take, Nat.min_self]
    have : (cur.toList.take (d.length * 4)).take (i * 4) = cur.toList.take (i * 4) := by rw [List.take_take, Nat.min_eq_left (by omega)]
    rw [← this, ht]
    have e := encs_append (d.take i) (d.drop i)
    rw [List.take_append_drop] at e
    rw [e, List.take_append_of_le_length (by rw [encs_length, List.length_take]; omega), List.take_of_length_le (by rw [encs_length, List.length_take]; omega)]
  rw [harr] at st
  refine ⟨w.setRow b arr, fun ty => ?_, ⟨fun x hx => ok x (List.mem_of_mem_take hx), arr, setRow_heap w b cur _ _ _ hh, by rw [List.length_take]; omega, hm, asz, by rw [List.length_take, Nat.min_eq_left (by omega)]; exact atk⟩, fun B hB => ⟨rfl, rfl, rfl, by simp [World.setRow], fun k hk => setRow_other w b k arr (by omega)⟩⟩
  obtain ⟨m, hm'⟩ : ∃ m, d.length - i = m + 1 := ⟨d.length - i - 1, by omega⟩
  rw [hm'] at hvs ⊢
  simp [Builtin.clear_, run_underlying Try.underlying27, zv, hvs, st]
set_option maxHeartbeats 8000000 in
theorem xDelSome (g : Nat) (p : Sp → Bool) (F : Pred g p) (b cap B : Nat) (l : List Sp) (w : World) (h : RB w b cap l) (hB : B ≤ b) (hz : ∃ j, j < l.length ∧ p (l.getD j default) = true) :
    Calls Try.prog 54 #[.slice (some ⟨b, 0, none⟩) l.length cap, .func (.func g) #[] #[]] w
      (fun e w' => e = .returned (.slice (some ⟨b, 0, none⟩) (l.filter (fun s => !p s)).length cap) ∧ RB w' b cap (l.filter (fun s => !p s)) ∧ Below B w w') := by
  have C := Lib.hid (xIndex g p F _ cap l w h.sl)
  have Z := Lib.hid hz
  have FH := Lib.hid F
  have eg := F.enters
  have H := Lib.hid h
  have hc1 := h.sl.cap1
  have hc2 := h.sl.cap2
  clear h F hz
  go_enter Try.func54, Try.ntmps54
  go_wp2_with fail
  refine C.out.mono ?_
  rintro e V ⟨r, hr, rfl, hb⟩
  obtain ⟨k, hk, rfl, S⟩ : ∃ k : Nat, k < l.length ∧ r = (k : Int) ∧ Hid (Kept p l k (k + 1) l) := by
    rcases hr with ⟨e, ha⟩ | ⟨k, hk, e, hp, ha⟩
    · obtain ⟨j, hj, hp⟩ := Z.out
      rw [ha j hj] at hp; cases hp
    · exact ⟨k, hk, e, Lib.hid (Kept.start hk hp ha)⟩
  have hneg : ¬ ((k : Nat) : Int) = -1 := by omega
  have K0 := Lib.hid (And.intro (H.out.below hb) (show Below B w V from hb.mono (by have := H.out.lt; omega)))
  have hg := H.out.lt
  clear hr C Z hb H
  go_wp2_with fail
  go_loopg [5, 6] l.length (fun gk s5 s6 wr => ∃ (i j : Nat) (d : List Sp), s5 = .int .i64 i ∧ s6 = .int .i64 j ∧ j ≤ l.length ∧ l.length - j ≤ gk ∧ Hid (Kept p l i j d) ∧ Hid (RB wr b cap d ∧ Below B w wr))
  case atStart => exact ⟨k, k + 1, l, rfl, by go_num, by omega, by omega, S, K0⟩
  case round =>
    obtain ⟨i, j, d, rfl, rfl, hj, hgk, KP, K⟩ := hrel
    clear S K0
    have hij := KP.out.lt
    have hdl := KP.out.len
    by_cases hlt : j < l.length
    · have hlt' : (j : Int) < l.length := by omega
      obtain ⟨b', o', p0, q0, r0, t0, e', hl, HS, c0, c1, c2, c3⟩ := K.out.1.sl.at4 (i := j) (by omega)
      obtain ⟨rfl, rfl⟩ : b = b' ∧ 0 = o' := by simpa using e'
      rw [KP.out.tail j (Nat.le_refl _)] at HS
      simp only [Nat.zero_add] at c0 c1 c2 c3
      have HC := Lib.hid (fun W => FH.out.tells p0 q0 r0 t0 (l.getD j default) W HS.out)
      have VB := Lib.hid (SB.new wr p0 q0 r0 t0 26)
      have RBA := Lib.hid (And.intro (K.out.1.below (below_allocs wr (.cells #[.int .u64 p0, .int .u64 q0, .int .u64 r0, .int .u64 t0] 26))) (K.out.2.alloc (o := .cells #[.int .u64 p0, .int .u64 q0, .int .u64 r0, .int .u64 t0] 26) (by have := K.out.1.lt; omega)))
      have hbw := K.out.1.lt
      clear K
      cases hp : p (l.getD j default) with
      | true =>
        rw [hp] at HC
        have KP2 := Lib.hid (KP.out.skip hlt hp)
        clear hp HS KP
        go_wp2_with (go_at_fn g; refine (HC.out _).mono ?_; rintro e V2 ⟨rfl, hb⟩)
        go_roundg (l.length - (j + 1))
        case measure => omega
        case rel => exact ⟨i, j + 1, d, rfl, by go_num, by omega, by omega, KP2, Lib.hid ⟨RBA.out.1.below hb, RBA.out.2.trans (hb.mono (by have := RBA.out.1.lt; omega))⟩⟩
      | false =>
        rw [hp] at HC
        have KP2 := Lib.hid (KP.out.keep hlt hp)
        have PUT := Lib.hid (fun (W : World) (hR : RB W b cap d) => hR.put (i := i) (by omega) HS.out)
        clear hp HS KP
        go_wp2_with (go_at_fn g; refine (HC.out _).mono ?_; rintro e V2 ⟨rfl, hb⟩; have R2 := Lib.hid (And.intro (RBA.out.1.below hb) (RBA.out.2.trans (hb.mono (by have := RBA.out.1.lt; omega)))); obtain ⟨x0, x1, x2, x3⟩ := (VB.out.below hb).cells; obtain ⟨_, _, _, _, _, _, ey, _, _, y0, y1, y2, y3⟩ := R2.out.1.sl.at4 (i := i) (by omega); obtain ⟨rfl, rfl⟩ := (by simpa using ey); clear ey; simp only [Nat.zero_add] at y0 y1 y2 y3; have f0 := R2.out.1.free (i * 4); have f1 := R2.out.1.free (i * 4 + 1); have f2 := R2.out.1.free (i * 4 + 2); have f3 := R2.out.1.free (i * 4 + 3); clear hb RBA VB)
        go_roundg (l.length - (j + 1))
        case measure => omega
        case rel => exact ⟨i + 1, j + 1, d.set i (l.getD j default), by go_num, by go_num, by omega, by omega, KP2, Lib.hid ⟨PUT.out _ R2.out.1, (((R2.out.2.setCell hB _).setCell hB _).setCell hB _).setCell hB _⟩⟩
    · obtain rfl : j = l.length := by omega
      obtain ⟨W', hcl, R1, R2⟩ := run_clearS wr b cap d K.out.1 i (by omega)
      have E := Lib.hid (And.intro R1 (K.out.2.trans (R2 B hB)))
      rw [KP.out.head, List.take_length] at E
      have hlen : Hid (i = (l.filter (fun s => !p s)).length) := Lib.hid (by
        have := congrArg List.length KP.out.head
        rw [List.take_length, List.length_take] at this
        omega)
      rw [hdl] at hcl
      clear R1 R2 K KP
      go_wp2
      go_ret
      exact ⟨congrArg (fun q : Nat => Ending.returned (.slice (some ⟨b, 0, none⟩) q cap)) hlen.out, E.out.1, E.out.2⟩
end Go.Proofs.Ytolicfackceomaa
/-
  SortFunc of package slices on a row of spans of the call's own; ordered of package span.
-/
namespace Go.Proofs.Ytolicfackceomaa
open Go.RowKit
set_option linter.unusedVariables false
set_option maxRecDepth 100000

/-- A span whose numbers lie in reach, whatever it was. -/
def nm (s : Sp) : Sp := ⟨s.f % Q, s.t % Q⟩
theorem nm_ok (s : Sp) : (nm s).Ok := ⟨Nat.mod_lt _ (by decide), Nat.mod_lt _ (by decide)⟩
theorem nm_of {s : Sp} (h : s.Ok) : nm s = s := by
  obtain ⟨a, b⟩ := s
  unfold nm
  rw [Nat.mod_eq_of_lt h.1, Nat.mod_eq_of_lt h.2]
def encN (s : Sp) : List Value := enc (nm s)
def cfN (s u : Sp) : Int := cmpN (nm s).f (nm u).f
theorem ltN (s u : Sp) : ltOf cfN s u = decide ((nm s).f < (nm u).f) := by
  unfold ltOf cfN
  exact cmpN_lt _ _
theorem swoN : Sort.SWO (ltOf cfN) where
  irrefl x := by rw [ltN]; simp
  trans x y z h1 h2 := by rw [ltN] at *; simp at *; omega
  ntrans x y z h1 h2 := by rw [ltN] at *; simp at *; omega
/-- A slice of the call's own that holds these spans: nil, or a row from block B on. -/
def OwnL (B : Nat) (w : World) (v : Value) (l : List Sp) : Prop := (v = .slice none 0 0 ∧ l = []) ∨ ∃ g cap, v = .slice (some ⟨g, 0, none⟩) l.length cap ∧ B ≤ g ∧ RB w g cap l
theorem OwnL.sl {B : Nat} {w : World} {v : Value} {l : List Sp} (h : OwnL B w v l) : ∃ A cap, v = .slice A l.length cap ∧ SL w A cap l := by
  rcases h with ⟨rfl, rfl⟩ | ⟨g, cap, rfl, _, r⟩
  · exact ⟨none, 0, rfl, SL.nil _ _ _ (by omega)⟩
  · exact ⟨_, cap, rfl, r.sl⟩
theorem Grow.ownL {B : Nat} {w wr : World} {v : Value} {l : List Sp} (h : Grow 26 B w v l wr) : OwnL B wr v l := by
  rcases h.own.2 with ⟨rfl, hn⟩ | ⟨g, cap, cur, rfl, _⟩
  · exact .inl ⟨rfl, List.eq_nil_of_length_eq_zero hn⟩
  · obtain ⟨_, h2, h3⟩ := h.rb
    exact .inr ⟨g, cap, rfl, h2, h3⟩
theorem xDelete (g : Nat) (p : Sp → Bool) (F : Pred g p) (B : Nat) (v : Value) (l : List Sp) (w : World) (hB : B ≤ w.heap.size) (h : OwnL B w v l) :
    Calls Try.prog 54 #[v, .func (.func g) #[] #[]] w (fun e w' => ∃ v', e = .returned v' ∧ OwnL B w' v' (l.filter (fun s => !p s)) ∧ Below B w w') := by
  by_cases hz : ∃ j, j < l.length ∧ p (l.getD j default) = true
  · rcases h with ⟨rfl, rfl⟩ | ⟨b, cap, rfl, hb, r⟩
    · obtain ⟨j, hj, _⟩ := hz
      cases hj
    · refine (xDelSome g p F b cap B l w r hb hz).mono ?_
      rintro e w' ⟨rfl, r', hB'⟩
      exact ⟨_, rfl, .inr ⟨b, cap, rfl, hb, r'⟩, hB'⟩
  · have hz' : ∀ j, j < l.length → p (l.getD j default) = false := fun j hj => by
      cases hp : p (l.getD j default) with
      | false => rfl
      | true => exact absurd ⟨j, hj, hp⟩ hz
    obtain ⟨A, cap, rfl, hs⟩ := h.sl
    refine (xDelNone g p F A cap l w hs hz').mono ?_
    rintro e w' ⟨rfl, hb⟩
    rw [filter_none hz']
    refine ⟨_, rfl, ?_, hb.mono hB⟩
    rcases h with ⟨hv, hl⟩ | ⟨b, cap', hv, hb', r⟩
    · exact .inl ⟨hv, hl⟩
    · exact .inr ⟨b, cap', hv, hb', r.below hb⟩
theorem holds_sl {w : World} {g cap : Nat} {d : Array Sp} (h : Sort.HoldsK encN 4 w g 0 d) (hok : ∀ s ∈ d.toList, s.Ok) (hc : d.size ≤ cap) (hm : cap ≤ 9223372036854775807) : SL w (some ⟨g, 0, none⟩) cap d.toList := by
  have at' : ∀ i, i < d.size → d[i]! = d.toList.getD i default := fun i hi => by
    rw [getElem!_pos d i hi, List.getD_eq_getElem?_getD, List.getElem?_eq_getElem (by simpa using hi)]; simp
  refine ⟨hok, by simpa using hc, hm, fun i hi => ⟨g, 0, rfl, ?_, fun c v hv => ?_⟩⟩
  · have := (h.cell (i := i) (c := 0) (by simpa using hi) (by omega)).1
    exact World.block_lt_of_cell? w _ this
  · have hc4 : c < 4 := (List.getElem?_eq_some_iff.1 hv).1
    have hi' : i < d.size := by simpa using hi
    have := (h.cell (i := i) (c := c) hi' hc4).1
    rw [this, at' i hi']
    have hok' : (d.toList.getD i default).Ok := by
      rw [List.getD_eq_getElem?_getD, List.getElem?_eq_getElem hi]
      exact hok _ (List.getElem_mem hi)
    unfold encN
    rw [nm_of hok']
    rw [List.getElem!_eq_getElem?_getD, hv]; rfl
theorem sl_holds {w : World} {g cap : Nat} {l : List Sp} (r : RB w g cap l) : Sort.HoldsK encN 4 w g 0 l.toArray := by
  intro t ht
  rw [Sort.size_flatK] at ht
  rw [Sort.get_flatK _ _ _ _ ht]
  have h4 : t / 4 < l.length := by
    have : t < l.length * 4 := by simpa using ht
    omega
  have e1 : l.toArray[t / 4]! = l.getD (t / 4) default := by
    rw [getElem!_pos l.toArray (t / 4) (by simpa using h4), List.getD_eq_getElem?_getD, List.getElem?_eq_getElem h4]; simp
  have ok : (l.getD (t / 4) default).Ok := r.sl.get h4
  obtain ⟨b, o, e, _, hc⟩ := r.sl.cell _ h4
  obtain ⟨rfl, rfl⟩ : g = b ∧ 0 = o := by simpa using e
  have hlt : t % 4 < (enc (l.getD (t / 4) default)).length := by show _ < 4; omega
  have := hc (t % 4) _ (List.getElem?_eq_getElem hlt)
  refine ⟨?_, r.free _⟩
  rw [e1]
  unfold encN
  rw [nm_of ok, List.getElem!_eq_getElem?_getD, List.getElem?_eq_getElem hlt]
  rw [show 0 + t = 0 + t / 4 * 4 + t % 4 from by omega]
  exact this
theorem below_sort {B : Nat} {w : World} {g m : Nat} {dk : Array Sp} {os : Array Obj} (hB : B ≤ g) (hg : g < w.heap.size) : Below B w (sortWorldK encN 4 w g 0 m dk os) := by
  refine ⟨rfl, rfl, rfl, ?_, fun k hk => ?_⟩
  · simp [sortWorldK, Sort.grow, Sort.putRowK, Sort.putRow, Sort.mapBlock, Sort.ahead]
  · simp only [sortWorldK, Sort.grow, Sort.putRowK, Sort.putRow, Sort.mapBlock, Sort.ahead]
    rw [Array.getElem?_append_left (by simp; omega)]
    rw [Array.getElem?_modify, if_neg (by omega)]
set_option maxHeartbeats 1000000 in
/-- What ordered's sort does. -/
theorem xSort (B : Nat) (v : Value) (l : List Sp) (w : World) (hB : B ≤ w.heap.size) (h : OwnL B w v l) (hn : l.length ≤ 1000) :
    Calls Try.prog 56 #[v, .func (.func 57) #[] #[]] w
      (fun e w' => e = .returned (.tuple #[]) ∧ ∃ A cap o, v = .slice A o.length cap ∧ (∀ a, A = some a → B ≤ a.block) ∧ SL w' A cap o ∧ o.Perm l ∧ o.Pairwise (fun s u => s.f ≤ u.f) ∧ Below B w w') := by
  rcases h with ⟨rfl, rfl⟩ | ⟨g, cap, rfl, hb, r⟩
  · have hcon := AnyF.slices_SortFunc_none srtL none 0 (.func (.func 57) #[] #[]) w
    change Calls Try.prog 56 _ _ _ at hcon
    refine hcon.mono ?_
    rintro e w' ⟨rfl, rfl⟩
    exact ⟨rfl, none, 0, [], rfl, fun a e => (by cases e), SL.nil _ _ _ (by omega), List.Perm.nil, List.Pairwise.nil, Below.refl _ _⟩
  · have eg : ∀ args w, (callFunc 57 args).run Try.prog w = .ok (.enter 57 args) w := enters_of Try.func57 (by kernel_rfl) rfl
    have hcon := AnyQ.slices_SortFunc srtL 4 Try.isAgg26 Try.sizeOf26 encN (fun _ => rfl) (fun x v hv => by simp [encN, enc] at hv; rcases hv with rfl | rfl | rfl | rfl <;> rfl) cfN swoN 57 #[] g 0 cap l.toArray w eg
      (fun m os dk hs x y => cOrder (ws_of (nm_ok x)) (ws_of (nm_ok y)) _) (sl_holds r) r.lt (by simp; omega)
    change Calls Try.prog 56 _ _ _ at hcon
    have e : l.toArray.size = l.length := by simp
    rw [e] at hcon
    refine hcon.mono ?_
    rintro e w' ⟨rfl, d', n, os, hp, hs, rfl⟩
    obtain ⟨hsz, _, hperm⟩ := hp
    have hperm' : d'.toList.Perm l := by
      have h1 : (d'.extract 0 l.length) = d' := by rw [← List.size_toArray, ← hsz]; exact Array.extract_size
      have h2 : (l.toArray.extract 0 l.length).toList = l := by simp
      rw [h1, h2] at hperm
      exact hperm
    have hok : ∀ s ∈ d'.toList, s.Ok := fun s hs => r.ok s (hperm'.mem_iff.1 hs)
    have hlen : d'.toList.length = l.length := hperm'.length_eq
    have H := holdsK_sortWorldK_c encN 4 w g 0 l.toArray d' n os (sl_holds r) r.lt hsz
    refine ⟨rfl, some ⟨g, 0, none⟩, cap, d'.toList, by rw [hlen], fun a e => by (obtain rfl := Option.some.inj e); exact hb, holds_sl H hok (by have := r.sl.cap1; simp at hlen; omega) r.sl.cap2, hperm', ?_, below_sort hb r.lt⟩
    rw [List.pairwise_iff_getElem]
    intro i j hi hj hij
    have := hs i j (Nat.zero_le _) hij (by rw [← hlen]; exact hj)
    rw [ltN] at this
    have i' : i < d'.size := by simpa using hi
    have j' : j < d'.size := by simpa using hj
    rw [getElem!_pos d' i i', getElem!_pos d' j j', nm_of (hok _ (by simp)), nm_of (hok _ (by simp))] at this
    simpa using this
end Go.Proofs.Ytolicfackceomaa
/-
  What ordered and parts of package span answer; the closure that parts hands on.
-/
namespace Go.Proofs.Ytolicfackceomaa
open Go.RowKit
set_option linter.unusedVariables false
set_option maxRecDepth 100000

/-- The spans of l that have places, by their first ones. -/
structure Srt (l o : List Sp) : Prop where
  perm : o.Perm (l.filter (fun s => !decide (lenS s = 0)))
  up : o.Pairwise (fun s u => s.f ≤ u.f)
set_option maxHeartbeats 2000000 in
theorem cOrdered (A : Option Addr) (cap : Nat) (l : List Sp) (w : World) (h : SL w A cap l) (hn : l.length ≤ 1000) :
    Calls Try.prog 43 #[.slice A l.length cap] w (fun e w' => ∃ A' cap' o, e = .returned (.slice A' o.length cap') ∧ (∀ a, A' = some a → w.heap.size ≤ a.block) ∧ SL w' A' cap' o ∧ Srt l o ∧ Below w.heap.size w w') := by
  have C := Lib.hid (xClone A cap l w h hn)
  clear h
  go_enter Try.func43, Try.ntmps43
  go_wp2_with fail
  refine C.out.mono ?_
  rintro e V ⟨v, rfl, G⟩
  have B1 := Lib.hid G.below
  have D := Lib.hid (xDelete _ _ pNone w.heap.size v l V B1.out.size G.ownL)
  clear G C
  go_wp2_with fail
  refine D.out.mono ?_
  rintro e V2 ⟨v2, rfl, O, hb⟩
  have B2 := Lib.hid (B1.out.trans hb)
  have S := Lib.hid (xSort w.heap.size v2 _ V2 B2.out.size O (Nat.le_trans (List.length_filter_le _ _) hn))
  clear O hb D B1
  go_wp2_with fail
  refine S.out.mono ?_
  rintro e V3 ⟨rfl, A', cap', o, rfl, hfar, hs, hp, hu, hb⟩
  have R := Lib.hid (And.intro hfar (And.intro hs (And.intro (Srt.mk hp hu) (B2.out.trans hb))))
  clear hfar hs hp hu hb S B2
  go_wp2
  go_ret
  exact ⟨A', cap', o, rfl, R.out⟩
/-- The function value that parts hands on, and where its end lies. -/
structure PF (w : World) (b n : Nat) : Prop where
  lt : n < Q
  box : UB 24 w b ((hiW n : Nat) : Int) ((loW n : Nat) : Int)
abbrev pfV (b : Nat) : Value := .func (.func 52) #[] #[.pointer (some ⟨b, 0, none⟩)]
theorem PF.below {w w' : World} {b n : Nat} (h : PF w b n) (hb : Below w.heap.size w w') : PF w' b n := ⟨h.lt, h.box.below hb⟩
set_option maxHeartbeats 1000000 in
theorem cParts (w : World) : Calls Try.prog 42 #[] w (fun e w' => ∃ b, e = .returned (pfV b) ∧ w.heap.size ≤ b ∧ PF w' b 0 ∧ Below w.heap.size w w') := by
  have hmf : ∀ (fn : Fn) (first cap : Array Value) (w : World), (Instr.makeFunc fn first cap).run Try.prog w = .ok (.func fn first cap) w := fun _ _ _ _ => rfl
  go_enter Try.func42, Try.ntmps42
  go_wp2
  go_ret
  exact ⟨w.heap.size, rfl, Nat.le_refl _, ⟨by decide, UB.new w 0 0 _⟩, below_allocs _ _⟩
set_option maxHeartbeats 4000000 in
theorem cPart {a b c d : Int} {s : Sp} (h : Ws a b c d s) (x n : Nat) (w : World) (F : PF w x n) :
    Calls Try.prog 52 #[.agg #[.int .u64 a, .int .u64 b, .int .u64 c, .int .u64 d], .pointer (some ⟨x, 0, none⟩)] w
      (fun e w' => e = .returned (Sp.val ⟨max n s.f, s.t⟩) ∧ PF w' x (max n s.t) ∧ (∀ B, B ≤ x → Below B w w') ∧ ∀ j, j < w.heap.size → j ≠ x → w'.heap[j]? = w.heap[j]?) := by
  have G1 := Lib.hid (sGreater (wn_of F.lt) h.f)
  have G2 := Lib.hid (sGreater (wn_of F.lt) h.t)
  have m1 : max n s.f < Q := Nat.max_lt.2 ⟨F.lt, h.f.lt⟩
  have m2 : max n s.t < Q := Nat.max_lt.2 ⟨F.lt, h.t.lt⟩
  obtain ⟨e1, e2⟩ := h.t.of
  have HV : Hid (Sp.val ⟨max n s.f, s.t⟩ = .agg #[.int .u64 ((hiW (max n s.f) : Nat) : Int), .int .u64 ((loW (max n s.f) : Nat) : Int), .int .u64 c, .int .u64 d]) := Lib.hid (by rw [e1, e2])
  have M2 := Lib.hid m2
  have BX := Lib.hid F.box
  clear m1 m2 e1 e2 F h
  rw [HV.out]
  clear HV
  generalize ((hiW (max n s.f) : Nat) : Int) = p at G1 ⊢
  generalize ((loW (max n s.f) : Nat) : Int) = q at G1 ⊢
  have HE : Hid (∀ (w' : World), UB 24 w' x ((hiW (max n s.t) : Nat) : Int) ((loW (max n s.t) : Nat) : Int) → PF w' x (max n s.t)) := Lib.hid fun w' hu => ⟨M2.out, hu⟩
  generalize ((hiW (max n s.t) : Nat) : Int) = p2 at G2 HE
  generalize ((loW (max n s.t) : Nat) : Int) = q2 at G2 HE
  generalize ((hiW n : Nat) : Int) = n0 at G1 G2 BX
  generalize ((loW n : Nat) : Int) = n1 at G1 G2 BX
  have hxw := BX.out.lt
  have K0 := SB.new w a b c d 26
  have B0 := below_allocs w (.cells #[.int .u64 a, .int .u64 b, .int .u64 c, .int .u64 d] 26)
  have K1 := SB.new (w.alloc (.cells #[.int .u64 a, .int .u64 b, .int .u64 c, .int .u64 d] 26)) 0 0 0 0 26
  have B1 := below_allocs (w.alloc (.cells #[.int .u64 a, .int .u64 b, .int .u64 c, .int .u64 d] 26)) (.cells #[.int .u64 0, .int .u64 0, .int .u64 0, .int .u64 0] 26)
  have K := Lib.hid (And.intro (K0.below B1) (And.intro K1 (And.intro ((BX.out.below B0).below B1) (below_then B0 B1))))
  simp only [World.size_alloc] at K
  clear K0 B0 K1 B1
  obtain ⟨x0, x1⟩ := BX.out.cells
  go_enter Try.func52, Try.ntmps52
  go_wp2_with fail
  refine (G1.out _).mono ?_
  rintro er V ⟨rfl, hb⟩
  have L6 := below_allocs V (.cells #[.int .u64 p, .int .u64 q] 24)
  have K2 := Lib.hid (And.intro ((K.out.1.below hb).below L6) (And.intro ((K.out.2.1.below hb).below L6) (And.intro ((K.out.2.2.1.below hb).below L6) (And.intro (UB.new V p q 24) (below_then (below_then K.out.2.2.2 hb) L6)))))
  obtain ⟨y1, y2, y3, y4⟩ := (K.out.1.below hb).cells
  obtain ⟨z0, z1⟩ := (K.out.2.2.1.below hb).cells
  have l1 : w.heap.size + 1 < V.heap.size := (K.out.2.1.below hb).lt
  have l2 : x < V.heap.size := (K.out.2.2.1.below hb).lt
  have l0 : w.heap.size < V.heap.size := (K.out.1.below hb).lt
  clear hb K L6 G1 x0 x1
  go_wp2_with fail
  refine (G2.out _).mono ?_
  rintro er V2 ⟨rfl, hb⟩
  have hX := K2.out.2.2.1.below hb
  have nx : w.heap.size + 1 ≠ x := by omega
  have ny : V.heap.size ≠ x := by omega
  have ns : w.heap.size ≠ x := by omega
  have HX := Lib.hid (UB.put (p' := p2) (q' := q2) hX)
  have KS := Lib.hid (SB.far2 (K2.out.1.below hb) ns (.int .u64 p2) (.int .u64 q2))
  have KR := Lib.hid (SB.far2 (K2.out.2.1.below hb) nx (.int .u64 p2) (.int .u64 q2))
  have KU := Lib.hid (UB.far2 (K2.out.2.2.2.1.below hb) ny (.int .u64 p2) (.int .u64 q2))
  have KB := Lib.hid (below_then K2.out.2.2.2.2 hb)
  obtain ⟨v1, v2⟩ := hX.cells
  obtain ⟨f1, f2⟩ := hX.free
  have lV := K2.out.2.2.2.1.lt
  clear hb K2 G2 hX y1 y2 y3 y4 z0 z1
  go_upto_region 3 with fail
  have KB2 := Lib.hid (And.intro (fun B (hB : B ≤ x) (h2 : B ≤ w.heap.size) => below_put2 (KB.out.mono h2) hB (.int .u64 p2) (.int .u64 q2)) (fun j (hj : j < w.heap.size) (hne : j ≠ x) => ((Below.heap_setCell (V2.setCell ⟨x, 0, none⟩ (.int .u64 p2)) ⟨x, 1, none⟩ (.int .u64 q2) j hne).trans ((Below.heap_setCell V2 ⟨x, 0, none⟩ (.int .u64 p2) j hne).trans (KB.out.block j hj)))))
  clear KB v1 v2 f1 f2
  generalize World.setCell (World.setCell V2 _ _) _ _ = V3 at HX KS KR KU KB2 ⊢
  obtain ⟨y1, y2, y3, y4⟩ := KS.out.cells
  obtain ⟨z1, z2⟩ := KU.out.cells
  obtain ⟨u1, u2, u3, u4⟩ := KR.out.cells
  obtain ⟨g1, g2, g3, g4⟩ := KR.out.free
  have HR := Lib.hid (SB.put (p' := p) (q' := q) (r' := c) (s' := d) KR.out)
  have HX2 := Lib.hid (UB.far4 HX.out nx.symm (.int .u64 p) (.int .u64 q) (.int .u64 c) (.int .u64 d))
  have HB := Lib.hid (And.intro (fun B (hB : B ≤ x) (h2 : B ≤ w.heap.size) => below_put4 (KB2.out.1 B hB h2) (Nat.le_trans h2 (Nat.le_succ w.heap.size)) (.int .u64 p) (.int .u64 q) (.int .u64 c) (.int .u64 d)) (fun j (hj : j < w.heap.size) (hne : j ≠ x) => (show j ≠ w.heap.size + 1 by omega) |> fun hk => (Below.heap_setCell _ ⟨w.heap.size + 1, 3, none⟩ (.int .u64 d) j hk).trans ((Below.heap_setCell _ ⟨w.heap.size + 1, 2, none⟩ (.int .u64 c) j hk).trans ((Below.heap_setCell _ ⟨w.heap.size + 1, 1, none⟩ (.int .u64 q) j hk).trans ((Below.heap_setCell V3 ⟨w.heap.size + 1, 0, none⟩ (.int .u64 p) j hk).trans (KB2.out.2 j hj hne))))))
  clear KB2 KS KU KR HX
  go_wp2_with fail
  generalize World.setCell (World.setCell (World.setCell (World.setCell V3 _ _) _ _) _ _) _ _ = V5 at HR HX2 HB ⊢
  obtain ⟨r1, r2, r3, r4⟩ := HR.out.cells
  try simp only [Exit.inBlock, Exit.then, Exit.noGoto]
  refine bodyPost_ret (by simp [results, Try.results52, go_sem, r1, r2, r3, r4]; try rfl) rfl ?_
  exact ⟨rfl, HE.out _ HX2.out, fun B hB => HB.out.1 B hB (by omega), HB.out.2⟩
end Go.Proofs.Ytolicfackceomaa
