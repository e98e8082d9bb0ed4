/-
  What the call Pow of package gfpow answers: the rest of a power.
-/
import Derived.Test.YtmhglbnoddimhaaGfwB
import Derived.Stop.RegionWithIn
import Derived.Deep.DeepCutAuto
import Derived.Deep.CutRange
import Derived.Deep.RegionWith
namespace Go.Proofs.Ytmhglbnoddimhaa
open Go.RowKit G Go.Shelf
set_option linter.unusedVariables false
attribute [local go_sem] Oper.semAt_some

/-- A variable that is caught, with a polynomial in its own form. -/
def BoxP (w : World) (b N : Nat) : Prop := ∃ (A : Option Addr) (c : Nat), Box w b 23 (.slice A (wordsOf N).length c) ∧ Pol w A c (wordsOf N)
theorem BoxP.below {w w' : World} {b N : Nat} (h : BoxP w b N) (hb : Below w.heap.size w w') : BoxP w' b N := by
  obtain ⟨A, c, x, y⟩ := h
  exact ⟨A, c, x.below hb, y.below hb⟩
theorem Box.own_ {w w' : World} {b : Nat} {t : TypeId} {v : Value} {row : Option Nat} (h : Box w b t v) (hg : w.grownBy w' row) (hr : ∀ r, row = some r → ∃ o : Obj, w.heap[r]? = some o ∧ o.isCells = false) : Box w' b t v := by
  refine (hg.block b h.lt ?_).trans h
  intro e
  obtain ⟨o, ho, hc⟩ := hr b e.symm
  unfold Box at h
  rw [h] at ho
  cases ho
  cases hc
theorem Pol.own_ {w w' : World} {A : Option Addr} {c : Nat} {xs : List Nat} {row : Option Nat} (h : Pol w A c xs) (hg : w.grownBy w' row) (hr : ∀ r, row = some r → ∃ o : Obj, w.heap[r]? = some o ∧ o.isCells = false) : Pol w' A c xs :=
  ⟨h.word, h.cap1, h.cap2, fun i hi => by
    obtain ⟨g, o, e, hc⟩ := h.cell i hi
    exact ⟨g, o, e, cell_kept hc hg hr⟩⟩
theorem BoxP.own_ {w w' : World} {b N : Nat} {row : Option Nat} (h : BoxP w b N) (hg : w.grownBy w' row) (hr : ∀ r, row = some r → ∃ o : Obj, w.heap[r]? = some o ∧ o.isCells = false) : BoxP w' b N := by
  obtain ⟨A, c, x, y⟩ := h
  exact ⟨A, c, x.own_ hg hr, y.own_ hg hr⟩
theorem Pol.off_box {w : World} {A : Option Addr} {c q : Nat} {xs : List Nat} {t : TypeId} {A' : Option Addr} {n c' : Nat} (h : Pol w A c xs) (hb : Box w q t (.slice A' n c')) (u : Value) : Pol (w.setCell ⟨q, 0, none⟩ u) A c xs :=
  ⟨h.word, h.cap1, h.cap2, fun i hi => by
    obtain ⟨g, o, e, hc⟩ := h.cell i hi
    refine ⟨g, o, e, ?_⟩
    have ne : g ≠ q := by
      rintro rfl
      unfold Box at hb
      simp only [World.cell?, hb] at hc
      cases z : o + i with
      | zero => rw [z] at hc; simp at hc
      | succ k => rw [z] at hc; simp at hc
    exact (World.cell?_of_block (w := w) (Below.heap_setCell w ⟨q, 0, none⟩ u g (fun e => ne e))).trans hc⟩
theorem BoxP.far {w : World} {b q N M : Nat} (h : BoxP w b N) (k : BoxP w q M) (ne : b ≠ q) (u : Value) : BoxP (w.setCell ⟨q, 0, none⟩ u) b N := by
  obtain ⟨A, c, x, y⟩ := h
  obtain ⟨A', c', x', y'⟩ := k
  exact ⟨A, c, x.far (p := ⟨q, 0, none⟩) ne u, y.off_box x' u⟩
theorem BoxP.set {w : World} {q M N : Nat} {A : Option Addr} {c : Nat} (k : BoxP w q M) (P : Pol w A c (wordsOf N)) : BoxP (w.setCell ⟨q, 0, none⟩ (.slice A (wordsOf N).length c)) q N := by
  obtain ⟨A', c', x', y'⟩ := k
  exact ⟨A, c, Boxed.set _ x', P.off_box x' _⟩
theorem BoxP.new {w : World} {N : Nat} {A : Option Addr} {c : Nat} (P : Pol w A c (wordsOf N)) : BoxP (w.alloc (.cells #[.slice A (wordsOf N).length c] 23)) w.heap.size N := ⟨A, c, Boxed.new _ _ _, P.alloc _⟩
theorem BoxP.drew {w : World} {b N : Nat} (h : BoxP w b N) : BoxP w.drew b N := by
  obtain ⟨A, c, x, y⟩ := h
  exact ⟨A, c, x.drew, y.drew⟩

theorem bcell {W w1 : World} (hb : Below W.heap.size W w1) : (∀ b o, b < W.heap.size → w1.cell? ⟨b, o, none⟩ = W.cell? ⟨b, o, none⟩) ∧ (∀ b o, b < W.heap.size → w1.frozen? ⟨b, o, none⟩ = W.frozen? ⟨b, o, none⟩) :=
  ⟨fun b o h => hb.cell (p := ⟨b, o, none⟩) h, fun b o h => hb.frozen (p := ⟨b, o, none⟩) h⟩
theorem two_new (w : World) (x y : Obj) : ((w.alloc x).alloc y).heap[w.heap.size]? = some x ∧ ((w.alloc x).alloc y).heap[w.heap.size + 1]? = some y := by
  constructor
  · exact (Below.heap_alloc _ _ _ (by simp)).trans (World.alloc_heap_new w x)
  · have := World.alloc_heap_new (w.alloc x) y
    rwa [World.size_alloc] at this
theorem BoxP.off {w : World} {b q N : Nat} {A' : Option Addr} {n c' : Nat} (h : BoxP w b N) (k : Box w q 23 (.slice A' n c')) (ne : b ≠ q) (u : Value) : BoxP (w.setCell ⟨q, 0, none⟩ u) b N := by
  obtain ⟨A, c, x, y⟩ := h
  exact ⟨A, c, x.far (p := ⟨q, 0, none⟩) ne u, y.off_box k u⟩
theorem BoxP.put {w : World} {q N n c' : Nat} {A A' : Option Addr} {c : Nat} (k : Box w q 23 (.slice A' n c')) (P : Pol w A c (wordsOf N)) : BoxP (w.setCell ⟨q, 0, none⟩ (.slice A (wordsOf N).length c)) q N := ⟨A, c, Boxed.set _ k, P.off_box k _⟩
theorem BoxP.cell {w : World} {b N : Nat} (h : BoxP w b N) : ∃ (A : Option Addr) (c : Nat), w.cell? ⟨b, 0, none⟩ = some (.slice A (wordsOf N).length c) ∧ w.frozen? ⟨b, 0, none⟩ = false ∧ Pol w A c (wordsOf N) := by
  obtain ⟨A, c, x, y⟩ := h
  exact ⟨A, c, x.cell, x.free, y⟩
theorem BoxP.lt {w : World} {b N : Nat} (h : BoxP w b N) : b < w.heap.size := by
  obtain ⟨A, c, x, y⟩ := h
  exact x.lt
/-- The state of Pow: the number, p, a's rest and the power, as variables that are caught. -/
structure PwSt (w0 : World) (Ub Pb Bb Qb p b r : Nat) (h l : Int) (wr : World) : Prop where
  u : wr.heap[Ub]? = some (.cells #[.int .u64 h, .int .u64 l] 26 (0, 0))
  bp : BoxP wr Pb p
  bb : BoxP wr Bb b
  bq : BoxP wr Qb r
  below : Below w0.heap.size w0 wr
  up : w0.heap.size ≤ Qb
  n1 : Ub ≠ Qb
  n2 : Pb ≠ Qb
  n3 : Bb ≠ Qb
def CutPow (w0 : World) (Ub Pb Bb p b r : Nat) (h l : Int) (v : Value) (wr : World) : Prop := ∃ q, v = .pointer (some ⟨q, 0, none⟩) ∧ PwSt w0 Ub Pb Bb q p b r h l wr
theorem PwSt.late {w0 w W : World} {Ub Pb Bb p b r : Nat} {h l : Int} {A : Option Addr} {c : Nat} (u : w.heap[Ub]? = some (.cells #[.int .u64 h, .int .u64 l] 26 (0, 0))) (bp : BoxP w Pb p) (bb : BoxP w Bb b) (hb : Below w0.heap.size w0 w)
    (hx : Below w.heap.size w W) (P : Pol W A c (wordsOf r)) : CutPow w0 Ub Pb Bb p b r h l (.pointer (some ⟨W.heap.size, 0, none⟩)) (W.alloc (.cells #[.slice A (wordsOf r).length c] 23)) := by
  have s0 := hb.size
  have s1 := hx.size
  have s2 := (Array.getElem?_eq_some_iff.1 u).1
  have s3 := bp.lt
  have s4 := bb.lt
  have hx2 := below_then hx (below_allocs W (.cells #[.slice A (wordsOf r).length c] 23))
  exact ⟨_, rfl, (hx2.block _ s2).trans u, bp.below hx2, bb.below hx2, BoxP.new P, below_then hb hx2, by omega, by omega, by omega, by omega⟩
theorem PwSt.early {w0 w W V : World} {Ub Pb Bb p b r q : Nat} {h l : Int} {A : Option Addr} {c : Nat} (u : w.heap[Ub]? = some (.cells #[.int .u64 h, .int .u64 l] 26 (0, 0))) (bp : BoxP w Pb p) (bb : BoxP w Bb b) (hb : Below w0.heap.size w0 w)
    (hx : Below w.heap.size w V) (hq : q = V.heap.size) (hy : Below (V.alloc (.cells #[.slice none 0 0] 23)).heap.size (V.alloc (.cells #[.slice none 0 0] 23)) W) (P : Pol W A c (wordsOf r)) : CutPow w0 Ub Pb Bb p b r h l (.pointer (some ⟨q, 0, none⟩)) (W.setCell ⟨q, 0, none⟩ (.slice A (wordsOf r).length c)) := by
  subst hq
  have s0 := hb.size
  have s1 := hx.size
  have s2 := (Array.getElem?_eq_some_iff.1 u).1
  have s3 := bp.lt
  have s4 := bb.lt
  have bn : Box W V.heap.size 23 (.slice none 0 0) := Box.below (Boxed.new V 23 (.slice none 0 0)) hy
  have hx2 := below_then (below_then hx (below_allocs V (.cells #[.slice none 0 0] 23))) hy
  exact ⟨_, rfl, (Below.heap_setCell W ⟨V.heap.size, 0, none⟩ _ _ (by show Ub ≠ V.heap.size; omega)).trans ((hx2.block _ s2).trans u), (bp.below hx2).off bn (by omega) _, (bb.below hx2).off bn (by omega) _, BoxP.put bn P,
    (below_then hb hx2).setCell (by show w0.heap.size ≤ V.heap.size; omega) _, by omega, by omega, by omega, by omega⟩

theorem PwSt.far {w0 W W' : World} {Ub Pb Bb Qb p b r : Nat} {h l : Int} (S : PwSt w0 Ub Pb Bb Qb p b r h l W) (hb : Below W.heap.size W W') : PwSt w0 Ub Pb Bb Qb p b r h l W' :=
  ⟨(hb.block _ (Array.getElem?_eq_some_iff.1 S.u).1).trans S.u, S.bp.below hb, S.bb.below hb, S.bq.below hb, below_then S.below hb, S.up, S.n1, S.n2, S.n3⟩
theorem PwSt.put {w0 W : World} {Ub Pb Bb Qb p b r r' : Nat} {h l : Int} {A : Option Addr} {c : Nat} (S : PwSt w0 Ub Pb Bb Qb p b r h l W) (P : Pol W A c (wordsOf r')) : PwSt w0 Ub Pb Bb Qb p b r' h l (W.setCell ⟨Qb, 0, none⟩ (.slice A (wordsOf r').length c)) :=
  ⟨(Below.heap_setCell W ⟨Qb, 0, none⟩ _ Ub S.n1).trans S.u, S.bp.far S.bq S.n2 _, S.bb.far S.bq S.n3 _, S.bq.set P, S.below.setCell S.up _, S.up, S.n1, S.n2, S.n3⟩
theorem PwSt.drew {w0 W : World} {Ub Pb Bb Qb p b r : Nat} {h l : Int} (S : PwSt w0 Ub Pb Bb Qb p b r h l W) : PwSt w0 Ub Pb Bb Qb p b r h l W.drew := ⟨S.u, S.bp.drew, S.bb.drew, S.bq.drew, S.below.drew, S.up, S.n1, S.n2, S.n3⟩
theorem keeps_of_below {W W' : World} (hb : Below W.heap.size W W') : KeepsOthers W W' := ⟨hb.size, fun k o hk _ => (hb.block k (Array.getElem?_eq_some_iff.1 hk).1).trans hk⟩
theorem kpU_below {b : Nat} {o : Obj} {W W' : World} (hb : Below W.heap.size W W') : KpU b o W W' := fun e => (hb.block b (Array.getElem?_eq_some_iff.1 e).1).trans e
theorem kpU_set {b q : Nat} {o : Obj} {W : World} (ne : b ≠ q) (u : Value) : KpU b o W (W.setCell ⟨q, 0, none⟩ u) := fun e => (Below.heap_setCell W ⟨q, 0, none⟩ u b ne).trans e
theorem pwSt_own {β : Type} (B : Nat) (w0 : World) (Ub Pb Bb Qb p b : Nat) (r : β → Nat) (h l : Int) (hB : w0.heap.size ≤ B) : OwnFrom B (fun s W => PwSt w0 Ub Pb Bb Qb p b (r s) h l W) :=
  fun s W W' row S hg hr => by
    have hr2 : ∀ k, row = some k → ∃ o : Obj, W.heap[k]? = some o ∧ o.isCells = false := fun k e => (hr k e).2
    exact ⟨(grownBy_keeps_cells hg hr2 S.u rfl).trans S.u, S.bp.own_ hg hr2, S.bb.own_ hg hr2, S.bq.own_ hg hr2, S.below.grown hg S.below.size (fun k e => Nat.le_trans hB (hr k e).1), S.up, S.n1, S.n2, S.n3⟩

set_option maxHeartbeats 1000000 in
theorem gPowZero {A B : Option Addr} {L K ca cb : Nat} {ys : List Nat} {w : World} (h l : Int) (Q : Pol w B cb ys) (hK : ys.length = K) (bK : K ≤ 50000) (h0 : leN ys = 0) :
    Calls Try.prog 10 #[.slice A L ca, .agg #[.int .u64 h, .int .u64 l], .slice B K cb] w (NilE 8 w) := by
  have HQ := Lib.hid Q
  have h1 := Lib.hid hK
  have h2 := Lib.hid h0
  clear Q hK h0
  go_enter Try.func10, Try.ntmps10
  go_wp2_with fail
  refine (gModZero (((HQ.out).alloc _).alloc _) h1.out bK h2.out).mono ?_
  rintro e w1 ⟨rfl, hb⟩
  have HB := Lib.hid (below_then (below_alloc (below_alloc (Below.refl _ _) _) _) hb)
  clear hb
  go_wp2_with fail
  go_ret2
  exact ⟨rfl, below_alloc HB.out _⟩

set_option maxRecDepth 100000 in
set_option maxHeartbeats 1000000 in
theorem powWalk {A B : Option Addr} {L K ca cb : Nat} {xs ys : List Nat} {w : World} (h l : Int) (N a p E R : Nat) (i : Hid (Wn h l N)) (hE : Hid (len N = E)) (P : Hid (Pol w A ca xs)) (Q : Hid (Pol w B cb ys)) (hL : Hid (xs.length = L)) (hK : Hid (ys.length = K)) (ha : Hid (leN xs = a)) (hp : Hid (leN ys = p)) (bL : L ≤ 20000) (bK : K ≤ 20000) (h0 : Hid (p ≠ 0)) (hR : Hid (pr a N p = R)) :
    Calls Try.prog 10 #[.slice A L ca, .agg #[.int .u64 h, .int .u64 l], .slice B K cb] w (AnsE R 0 w) := by
  have l3 := Lib.hid (show len p ≤ 64 * K from by rw [← hp.out]; exact len_pol Q.out hK.out)
  have lP := Lib.hid (wl_len l3.out)
  have lR := Lib.hid (show ∀ z, (wordsOf (rt z p)).length ≤ K from fun z => wl_rt h0.out l3.out)
  refine (callsIn_wide (n := 3)).1 ?_
  refine callsIn_of_wp_marks Try.func10 rfl trivial ?_ rfl
  simp only [Try.ntmps10, List.size_toArray, List.length_cons, List.length_nil, Nat.reduceAdd, Nat.reduceSub, Array.replicate_succ, Array.replicate_zero, List.push_toArray, List.append_toArray, List.nil_append, List.cons_append]
  have hB0 : Below w.heap.size w w := Below.refl _ _
  refine wpIn_wide.2 ?_
  go_wp2_with fail
  have B0 := Lib.hid (below_alloc (below_alloc hB0 (.cells #[.int .u64 h, .int .u64 l] 26)) (.cells #[.slice B K cb] 23))
  refine (gMod (rt a p) ((P.out.alloc _).alloc _) ((Q.out.alloc _).alloc _) hL.out hK.out (by rw [ha.out, hp.out]) (by omega) (by omega) (by rw [hp.out]; exact h0.out)).mono ?_
  rintro e w1 ⟨A1, c1, rfl, P1, hb⟩
  have HB1 := Lib.hid (below_then B0.out hb)
  have P1 := Lib.hid P1
  have Q1 := Lib.hid (((Q.out.alloc (.cells #[.int .u64 h, .int .u64 l] 26)).alloc (.cells #[.slice B K cb] 23)).below hb)
  have U1 := Lib.hid ((hb.block w.heap.size (by simp; omega)).trans (two_new w _ _).1)
  have V1 := Lib.hid (show Box w1 (w.heap.size + 1) 23 (.slice B K cb) from (hb.block (w.heap.size + 1) (by simp)).trans (two_new w _ _).2)
  clear hb hB0 B0
  have c3 := V1.out.cell
  have c4 := V1.out.free
  have s1 := V1.out.lt
  go_wp2_with fail
  have bB := Lib.hid (BoxP.new P1.out)
  have Q2 := Lib.hid (Q1.out.alloc (.cells #[.slice A1 (wordsOf (rt a p)).length c1] 23))
  have hb := below_allocs w1 (.cells #[.slice A1 (wordsOf (rt a p)).length c1] 23)
  have U2 := Lib.hid ((hb.block _ (Array.getElem?_eq_some_iff.1 U1.out).1).trans U1.out)
  have V2 := Lib.hid (V1.out.below hb)
  have HB2 := Lib.hid (below_then HB1.out hb)
  clear hb c3 c4 HB1 P1 Q1 U1 V1
  have neb := Lib.hid (show w1.heap.size ≠ w.heap.size + 1 from by omega)
  have neu := Lib.hid (show w.heap.size ≠ w.heap.size + 1 from by omega)
  have z1 : w1.heap.size < (World.alloc w1 (.cells #[.slice A1 (wordsOf (rt a p)).length c1] 23)).heap.size := by simp
  generalize hV : World.alloc w1 _ = V at bB Q2 U2 V2 HB2 z1 ⊢
  clear hV
  refine (gOwn p Q2.out hK.out hp.out (by omega)).mono ?_
  rintro e w2 ⟨A2, c2, rfl, P2, hb⟩
  have c3 := (V2.out.below hb).cell
  have c4 := (V2.out.below hb).free
  have HP2 := Lib.hid P2
  have bB2 := Lib.hid (bB.out.below hb)
  have U3 := Lib.hid ((hb.block _ (Array.getElem?_eq_some_iff.1 U2.out).1).trans U2.out)
  have V3 := Lib.hid (V2.out.below hb)
  have HB3 := Lib.hid (below_then HB2.out hb)
  have z2 := hb.size
  clear hb P2 bB U2 V2 HB2 Q2
  go_upto_region 5 with fail
  have bP4 := Lib.hid (BoxP.put V3.out HP2.out)
  have bB4 := Lib.hid (bB2.out.off V3.out neb.out (.slice A2 (wordsOf p).length c2))
  have U4 := Lib.hid ((Below.heap_setCell w2 ⟨w.heap.size + 1, 0, none⟩ (.slice A2 (wordsOf p).length c2) w.heap.size neu.out).trans U3.out)
  have HB4 := Lib.hid (HB3.out.setCell (p := ⟨w.heap.size + 1, 0, none⟩) (by show w.heap.size ≤ w.heap.size + 1; omega) (.slice A2 (wordsOf p).length c2))
  have z4 : w2.heap.size = (w2.setCell ⟨w.heap.size + 1, 0, none⟩ (.slice A2 (wordsOf p).length c2)).heap.size := by simp [World.setCell]
  have z5 := Nat.lt_of_lt_of_le z1 z2
  rw [z4] at z5
  generalize hV : World.setCell w2 _ _ = W4 at bP4 bB4 U4 HB4 z5 ⊢
  clear hV bB2 V3 HP2 U3 HB3 z1 z2 z4 c3 c4 neu
  go_cut [10] from 23 to 25 (CutPow w w.heap.size (w.heap.size + 1) w1.heap.size p (rt a p) (rt 1 p) h l)
  case first =>
    obtain ⟨A4, c4, X4, P4⟩ := bP4.out
    have e4 := X4.cell
    have s4 := X4.lt
    have HP4 := Lib.hid P4
    have HX4 := Lib.hid X4
    clear P4 X4
    have hX : Below W4.heap.size W4 W4 := Below.refl _ _
    have lw1 := Lib.hid (show (wordsOf 1).length ≤ 50000 from Nat.le_trans (wl 1 (by decide)) (by decide))
    have lw2 := Lib.hid (show (wordsOf p).length ≤ 50000 from by have := lP.out; omega)
    have ew := Lib.hid (show rt (leN (wordsOf 1)) (leN (wordsOf p)) = rt 1 p from by rw [leN_wordsOf, leN_wordsOf])
    have ez := Lib.hid (show leN (wordsOf p) ≠ 0 from by rw [leN_wordsOf]; exact h0.out)
    go_region_with
      (first
      | (go_at_call 30; ((with_reducible refine (gX 0 1 0 rfl rfl (by decide) _).mono ?_); rintro e x1 ⟨A5, c5, rfl, P5, hb⟩; (first | have hq := below_then (Below.refl _ ((World.drew W4).alloc (.cells #[.slice none 0 0] 23))) hb | skip); have HP5 := Lib.hid P5; replace hX := below_then (by first | exact hX.drew | exact hX.drew.alloc (Nat.le_refl _) _) hb; have hX1 := hX; clear hb P5; have e5 := (HX4.out.below hX).cell; have s5 := hX.size; have s6 := (HX4.out.below hX).lt))
      | (go_at_call 35; ((with_reducible refine (gRest (rt 1 p) (HP5.out.below (by first | exact Below.refl _ _ | exact below_allocs _ _)) (HP4.out.below (by first | exact hX | exact hX.alloc hX.size _)) rfl rfl ew.out lw1.out lw2.out ez.out).mono ?_); rintro e x2 ⟨A6, c6, rfl, P6, hb⟩; (first | have hq2 : Below ((World.drew W4).alloc (.cells #[.slice none 0 0] 23)).heap.size ((World.drew W4).alloc (.cells #[.slice none 0 0] 23)) x2 := below_then hq hb | skip); (first | have hq3 := below_then (Below.refl _ (x1.alloc (.cells #[.slice none 0 0] 23))) hb | skip); have HP6 := Lib.hid P6; replace hX := below_then (by first | exact hX | exact hX.alloc hX.size _) hb; clear hb P6; (first | (have e6 : x2.cell? ⟨W4.heap.size, 0, none⟩ = some (.slice none 0 0) := (Box.below (Boxed.new _ _ _) hq2).cell; have f6 : x2.frozen? ⟨W4.heap.size, 0, none⟩ = false := (Box.below (Boxed.new _ _ _) hq2).free) | (have e6 : x2.cell? ⟨x1.heap.size, 0, none⟩ = some (.slice none 0 0) := (Box.below (Boxed.new _ _ _) hq3).cell; have f6 : x2.frozen? ⟨x1.heap.size, 0, none⟩ = false := (Box.below (Boxed.new _ _ _) hq3).free) | skip))))
    all_goals
      go_wp2_with fail
      go_meet
      first
      | exact PwSt.late U4.out bP4.out bB4.out HB4.out hX HP6.out
      | exact PwSt.early U4.out bP4.out bB4.out HB4.out (Below.refl _ _).drew rfl hq2 HP6.out
      | exact PwSt.early U4.out bP4.out bB4.out HB4.out hX1 rfl hq3 HP6.out
  obtain ⟨q, rfl, S⟩ := hcut
  have HS := Lib.hid S
  obtain ⟨c0, c1'⟩ := cell0_of_block S.u
  clear S
  go_wp2_with fail
  refine (gFromHighest h l _).mono ?_
  rintro e w5 ⟨rfl, rfl⟩
  go_wp2_with fail
  have BN := Lib.hid (show (World.alloc wc (.cells #[.int .u64 h, .int .u64 l] 26)).heap[wc.heap.size]? = some (.cells #[.int .u64 h, .int .u64 l] 26 (0, 0)) from World.alloc_heap_new _ _)
  have HS2 := Lib.hid (HS.out.far (below_allocs wc (.cells #[.int .u64 h, .int .u64 l] 26)))
  have nq := Lib.hid (show wc.heap.size ≠ q from by have := HS.out.bq.lt; omega)
  have zw := HS.out.below.size
  have zx : (World.alloc wc (.cells #[.int .u64 h, .int .u64 l] 26)).heap.size = wc.heap.size + 1 := by simp
  clear c0 c1'
  generalize hW5 : World.alloc wc _ = W5 at BN HS2 zx ⊢
  clear hW5
  refine wpIn_wide.1 (wpIn_rangeFunc_ownG (n := 3) rfl (by decide) (gf := 55) (lb := #[.pointer (some ⟨wc.heap.size, 0, none⟩)]) rfl trivial (enters_of Try.func55 (by kernel_rfl) rfl)
    (highest_stops 2 (by decide) wc.heap.size h l N E i.out hE.out (by have := i.out.lt; have := hE.out; rw [← this]; exact Nat.le_trans (len_le (k := 128) ‹_›) (by decide)) W5 BN.out) kpU_t (kpU_b (by omega)) (Below.refl _ _) (fun _ => rfl)
    (fun pre W => PwSt w w.heap.size (w.heap.size + 1) w1.heap.size q p (rt a p) (pr a (val pre) p) h l W)
    (fun _ _ _ => False)
    (pwSt_own _ w _ _ _ q p (rt a p) (fun pre => pr a (val pre) p) h l (by omega))
    (fun _ _ _ _ _ hs _ _ => hs)
    HS2.out
    ?a1 ?assign ?body ?done ?stop)
  case assign =>
    intro l x W K hK
    gi_wp2
    exact hK
  case body =>
    rintro l' pre x W S _
    obtain ⟨r, hr⟩ : ∃ r, pr a (val pre) p = r := ⟨_, rfl⟩
    have lr := Lib.hid (show (wordsOf r).length ≤ K from by rw [← hr]; exact lR.out _)
    have e0 := Lib.hid (show pr a (2 * val pre) p = rt (clm r r) p from by rw [pr_even h0.out, hr])
    have e1 := Lib.hid (show pr a (2 * val pre + 1) p = rt (clm (rt (clm r r) p) (rt a p)) p from by rw [pr_odd h0.out, hr])
    rw [hr] at S
    clear hr
    have HS3 := Lib.hid S
    obtain ⟨Aq, cq, eq, fq, Pq⟩ := S.bq.cell
    obtain ⟨Ap, cp, ep, fp, Pp⟩ := S.bp.cell
    have HPq := Lib.hid Pq
    have HPp := Lib.hid Pp
    have ez := Lib.hid (show leN (wordsOf p) ≠ 0 from by rw [leN_wordsOf]; exact h0.out)
    have lw2 := Lib.hid (show (wordsOf p).length ≤ 50000 from by have := lP.out; omega)
    obtain ⟨r2, hr2⟩ : ∃ r2, rt (clm r r) p = r2 := ⟨_, rfl⟩
    have lr2 := Lib.hid (show (wordsOf r2).length ≤ K from by rw [← hr2]; exact lR.out _)
    have lm := Lib.hid (show (wordsOf (clm r2 (rt a p))).length ≤ 50000 from Nat.le_trans (wl_len (k := 2 * K) (by
      have q1 := len_le (clm_lt (len_lt r2) (len_lt (rt a p)))
      have q2 : len r2 < len p := by rw [← hr2]; exact rt_lt h0.out
      have q3 := rt_lt (a := a) h0.out
      have := l3.out
      omega)) (by omega))
    have es := Lib.hid (show rt (clm (leN (wordsOf r)) (leN (wordsOf r))) (leN (wordsOf p)) = r2 from by rw [leN_wordsOf, leN_wordsOf]; exact hr2)
    rw [hr2] at e0 e1
    clear S Pq Pp hr2
    gi_wp2_with fail
    refine ⟨trivial, ?_⟩
    refine (CallsIn.inRound l' (callsIn_wide.2 (gSq r2 HPq.out HPp.out rfl rfl es.out (by have := lr.out; omega) lw2.out ez.out))).mono ?_
    rintro e W1 ⟨A6, c6, rfl, P6, hb⟩
    have S1 := Lib.hid (HS3.out.far hb)
    have K1 := Lib.hid ((keeps_of_below hb).from W5.heap.size)
    have U1 := Lib.hid (kpU_below (b := wc.heap.size) (o := (.cells #[.int .u64 h, .int .u64 l] 26 (0, 0))) hb)
    obtain ⟨A7, c7, e7, f7, _⟩ := S1.out.bq.cell
    have HP6 := Lib.hid P6
    clear hb P6 eq fq ep fp
    cases x with
    | false =>
      gi_wp2
      refine ⟨K1.out.trans ((KeepsOthers.setCell _ _ _).from _), kpU_t U1.out (kpU_set nq.out _), ?_⟩
      have := S1.out.put HP6.out
      show PwSt _ _ _ _ _ _ _ (pr a (val (pre ++ [false])) p) _ _ _
      rw [val_snoc]
      simp only [Bool.toNat_false, Nat.add_zero]
      rw [e0.out]
      exact this
    | true =>
      have S2 := Lib.hid (S1.out.put HP6.out)
      have K2 := Lib.hid (K1.out.trans ((KeepsOthers.setCell W1 ⟨q, 0, none⟩ (.slice A6 (wordsOf r2).length c6)).from _))
      have U2 := Lib.hid (kpU_t U1.out (kpU_set nq.out (W := W1) (.slice A6 (wordsOf r2).length c6)))
      gi_wp2
      generalize hV : World.setCell W1 _ _ = W2 at S2 K2 U2 ⊢
      clear hV S1 K1 U1 HP6 e7 f7
      obtain ⟨A8, c8, e8, f8, P8⟩ := S2.out.bq.cell
      obtain ⟨A9, c9, e9, f9, P9⟩ := S2.out.bb.cell
      obtain ⟨Ai, ci, Xi, Pi⟩ := S2.out.bp
      have ei := Xi.cell
      have HP8 := Lib.hid P8
      have HP9 := Lib.hid P9
      have HPi := Lib.hid Pi
      have HXi := Lib.hid Xi
      have lr3 := Lib.hid (show (wordsOf r2).length ≤ 50000 from by have := lr2.out; omega)
      have lb3 := Lib.hid (show (wordsOf (rt a p)).length ≤ 50000 from by have := lR.out a; omega)
      have em := Lib.hid (show clm (leN (wordsOf r2)) (leN (wordsOf (rt a p))) = clm r2 (rt a p) from by rw [leN_wordsOf, leN_wordsOf])
      have en := Lib.hid (show rt (leN (wordsOf (clm r2 (rt a p)))) (leN (wordsOf p)) = rt (clm r2 (rt a p)) p from by rw [leN_wordsOf, leN_wordsOf])
      have fX : Below W2.heap.size W2 W2 := Below.refl _ _
      clear P8 P9 Pi Xi f9
      gi_region_with
        (first
        | (refine ⟨trivial, ?_⟩; gi_at_call 27; ((with_reducible refine (CallsIn.inRound l' (callsIn_wide.2 (gMul (clm r2 (rt a p)) (HP8.out.below fX.drew) (HP9.out.below fX.drew) rfl rfl em.out lr3.out lb3.out))).mono ?_); rintro e x1 ⟨Aj, cj, rfl, Pj, hb⟩; have HPj := Lib.hid Pj; replace fX := below_then fX.drew hb; clear hb Pj; have e10 := (HXi.out.below fX).cell))
        | (refine ⟨trivial, ?_⟩; gi_at_call 35; ((with_reducible refine (CallsIn.inRound l' (callsIn_wide.2 (gRest (rt (clm r2 (rt a p)) p) HPj.out (HPi.out.below fX) rfl rfl en.out lm.out lw2.out ez.out))).mono ?_); rintro e x2 ⟨Ak, ck, rfl, Pk, hb⟩; have HPk := Lib.hid Pk; replace fX := below_then fX hb; clear hb Pk; obtain ⟨_, _, e11, f11, _⟩ := (S2.out.far fX).bq.cell)))
      all_goals
        refine ⟨(K2.out.trans ((keeps_of_below fX).from _)).trans ((KeepsOthers.setCell _ _ _).from _), kpU_t (kpU_t U2.out (kpU_below fX)) (kpU_set nq.out _), ?_⟩
        have := (S2.out.far fX).put HPk.out
        show PwSt _ _ _ _ _ _ _ (pr a (val (pre ++ [true])) p) _ _ _
        rw [val_snoc]
        simp only [Bool.toNat_true]
        rw [e1.out]
        exact this
  case done =>
    rintro D ys' W hD rfl S hKd
    obtain ⟨A6, c6, e6, f6, P6⟩ := S.bq.cell
    have EV := Lib.hid (show pr a (val (hbits N E E)) p = R from by
      rw [val_hbits N E (by rw [← hE.out]; exact len_lt N) E (Nat.le_refl _), Nat.sub_self, Nat.pow_zero, Nat.div_one]; exact hR.out)
    have HP6 := Lib.hid P6
    have HB6 := Lib.hid S.below
    clear P6 S
    go_wp2
    refine ⟨by simp, .inl ⟨_, _, rfl, run_takeDeferred hKd, ?_⟩⟩
    have PP := HP6.out.own_ (grownBy_putObj' W D (.deferred none)) (fun r e => by cases e; exact ⟨_, hKd, rfl⟩)
    have BB := HB6.out.trans (belowK_b (w := w) (Nat.le_refl _) W D _ (.deferred none) (by omega) hKd rfl rfl)
    refine ⟨_, results_tmp2 rfl _ _ _, A6, c6, ?_, ?_, BB⟩
    · rw [← EV.out]; rfl
    · rw [← EV.out]; exact PP
  case stop =>
    rintro D c pre W _ _ h _
    exact h.elim
theorem gPow {A B : Option Addr} {L K ca cb : Nat} {xs ys : List Nat} {w : World} {h l : Int} {N : Nat} (R : Nat) (i : Wn h l N) (P : Pol w A ca xs) (Q : Pol w B cb ys) (hL : xs.length = L) (hK : ys.length = K) (hR : pr (leN xs) N (leN ys) = R) (bL : L ≤ 20000) (bK : K ≤ 20000) (h0 : leN ys ≠ 0) :
    Calls Try.prog 10 #[.slice A L ca, .agg #[.int .u64 h, .int .u64 l], .slice B K cb] w (AnsE R 0 w) :=
  powWalk h l N _ _ _ R (Lib.hid i) (Lib.hid rfl) (Lib.hid P) (Lib.hid Q) (Lib.hid hL) (Lib.hid hK) (Lib.hid rfl) (Lib.hid rfl) bL bK (Lib.hid h0) (Lib.hid hR)
end Go.Proofs.Ytmhglbnoddimhaa
