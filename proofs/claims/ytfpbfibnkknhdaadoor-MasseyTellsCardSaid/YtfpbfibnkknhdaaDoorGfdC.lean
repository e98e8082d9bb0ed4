/-
  What the calls Div and Mod of package gfdiv answer, for all lists of words (of up to 50000).
-/
import Derived.Test.YtfpbfibnkknhdaaDoorGfdB
import Derived.Test.YtfpbfibnkknhdaaDoorGfpK
import Derived.Deep.RegionHeld3
namespace Go.Proofs.YtfpbfibnkknhdaaDoor
open Go.RowKit G
set_option linter.unusedVariables false

/-- An answer that is a quotient and a rest, each in its own form, in a list of its own. -/
def Ans2 (M N : Nat) (w : World) (e : Ending) (w' : World) : Prop :=
  ∃ (A B : Option Addr) (ca cb : Nat), e = .returned (.tuple #[.slice A (wordsOf M).length ca, .slice B (wordsOf N).length cb, .int .i64 0]) ∧ Pol w' A ca (wordsOf M) ∧ Pol w' B cb (wordsOf N) ∧ Below w.heap.size w w'

theorem len_word_ge (xs : List Nat) (hw : Wds xs) (i t : Nat) (h : xs.getD i 0 / 2 ^ t ≠ 0) : 64 * i + t + 1 ≤ len (leN xs) := by
  have l : t < len (xs.getD i 0) := by
    rcases Nat.lt_or_ge t (len (xs.getD i 0)) with q | q
    · exact q
    · exact absurd (Nat.div_eq_of_lt (Nat.lt_of_lt_of_le (len_lt _) (Nat.pow_le_pow_right (by decide) q))) h
  have l2 := len_word (hw.get i)
  have n0 : xs.getD i 0 ≠ 0 := by intro e; rw [e] at h; simp at h
  have b := len_bit n0
  rcases Nat.lt_or_ge (64 * i + t) (len (leN xs)) with q | q
  · exact q
  · exfalso
    have := bit_leN xs (64 * i + (len (xs.getD i 0) - 1)) hw
    rw [show (64 * i + (len (xs.getD i 0) - 1)) / 64 = i from by omega, show (64 * i + (len (xs.getD i 0) - 1)) % 64 = len (xs.getD i 0) - 1 from by omega, b, len_bit_out (by omega)] at this
    cases this
theorem words_over {N : Nat} (h : N ≠ 0) : 64 * (wordsOf N).length < len N + 64 := by
  obtain ⟨m, hm⟩ : ∃ m, sz N = m + 1 := ⟨sz N - 1, by have : 0 < sz N := by unfold sz; rw [wordsOf_pos h]; simp
                                                      omega⟩
  obtain ⟨d1, d2, _⟩ := deg_top (wordsOf N) N m (wds_wordsOf N) (leN_wordsOf N) hm
  have := len_pos d1
  have : (wordsOf N).length = m + 1 := hm
  omega
theorem len_words {xs : List Nat} (h : Wds xs) : len (leN xs) ≤ 64 * xs.length := len_le (leN_lt xs h)
theorem div_round {Q R a b m k : Nat} (hb : len b = m + 1) (h : clm Q b ^^^ R = a) (hl : len R ≤ m + 1 + k) (low : ∀ j, j ≤ k → Q.testBit j = false) :
    (R / 2 ^ (m + k) % 2 = 0 → len R ≤ m + k) ∧ (R / 2 ^ (m + k) % 2 = 1 → len R = m + k + 1 ∧ len (R ^^^ b * 2 ^ k) ≤ m + k ∧ clm (Q ^^^ 2 ^ k) b ^^^ (R ^^^ b * 2 ^ k) = a ∧ ∀ j, j < k → (Q ^^^ 2 ^ k).testBit j = false) := by
  have h0 : b ≠ 0 := by intro e; rw [e, len_zero] at hb; omega
  have lb := len_mul_pow h0 k
  constructor
  · intro z
    rcases Nat.lt_or_ge (m + k) (len R) with q | q
    · have := top_bit (N := R) (k := m + k) (by omega)
      omega
    · exact q
  · intro z
    have lR : len R = m + k + 1 := by
      rcases Nat.lt_or_ge (m + k) (len R) with q | q
      · omega
      · have := len_bit_out (a := R) (i := m + k) q
        rw [Nat.testBit_eq_decide_div_mod_eq] at this
        simp at this
        omega
    have R0 : R ≠ 0 := by intro e; rw [e, len_zero] at lR; omega
    have := len_xor_top (a := R) (b := b * 2 ^ k) (by omega) R0
    refine ⟨lR, by omega, ?_, fun j hj => low_xor low hj⟩
    rw [clm_xor_left, clm_comm (2 ^ k), clm_pow, xor4, Nat.xor_self, Nat.xor_zero]
    exact h
theorem div_fit {ps ys : List Nat} {q s k m M N : Nat} (hk : k = 64 * q + s) (hs : s < 64) (hp : Wds ps) (hy : Wds ys) (lp : ps.length = M) (hN : ys.length = N) (sN : 64 * N < len (leN ys) + 64) (hb : len (leN ys) = m + 1) (hR : len (leN ps) = m + k + 1) :
    N + q ≤ M ∧ q < M ∧ ∀ i, i < N → ys.getD i 0 / 2 ^ (64 - s) ≠ 0 → q + i + 1 < M := by
  have b := len_words hp
  rw [lp] at b
  refine ⟨by omega, by omega, fun i hi hz => ?_⟩
  have := len_word_ge ys hy i (64 - s) hz
  omega
/-- Own's answers, their lengths by name. -/
def OwnR (N M : Nat) (w : World) (e : Ending) (w' : World) : Prop :=
  ∃ (A : Option Addr) (cap : Nat), e = .returned (.slice A M cap) ∧ w'.ownsRow w.heap.size 50 1 (.slice A M cap) M (words (wordsOf N)) ∧ Below w.heap.size w w'
def OwnL (N M : Nat) (w : World) (e : Ending) (w' : World) : Prop :=
  ∃ (A : Option Addr) (cap : Nat), e = .returned (.slice A M cap) ∧ Pol w' A cap (wordsOf N) ∧ Below w.heap.size w w'
theorem ownR {N M : Nat} (h : (wordsOf N).length = M) {w : World} {e : Ending} {w' : World} (k : AnsR N w e w') : OwnR N M w e w' := by subst h; exact k
theorem ownL {N M : Nat} (h : (wordsOf N).length = M) {w : World} {e : Ending} {w' : World} (k : Ans N w e w') : OwnL N M w e w' := by subst h; exact k
set_option maxHeartbeats 1000000 in
theorem divZero (A B : Option Addr) (ca cb L K : Nat) (ys : List Nat) (bK : K ≤ 50000) (w : World) (Q : Pol w B cb ys) (hK : ys.length = K) (hy : leN ys = 0) :
    Calls Tryd.prog 30 #[.slice A L ca, .slice B K cb] w (fun e w' => e = .returned (.tuple #[.slice none 0 0, .slice none 0 0, .int .i64 8]) ∧ w = w') := by
  have D := Lib.hid (gDeg (-1) Q hK (by rw [hy]; rfl) bK)
  clear Q hK hy
  go_enter Tryd.func30, Tryd.ntmps30
  go_wp2_with (go_at_call 20; ((with_reducible refine (D.out).mono ?_); rintro e w' ⟨rfl, rfl⟩))
  go_ret3
  exact ⟨rfl, rfl⟩

/-- The state of a division, the rest nil or not. -/
structure DivG (base Rb Yb Qb : Nat) (G : Option Addr) (cg M h : Nat) (B : Option Addr) (cb K : Nat) (ps qs ys : List Nat) (w : World) : Prop where
  bR : Box w Rb 23 (.slice G M cg)
  bQ : Box w Qb 23 (.slice (some ⟨h, 0, none⟩) M M)
  rest : Pol w G cg ps
  quo : Pol w (some ⟨h, 0, none⟩) M qs
  lp : ps.length = M
  lq : qs.length = M
  st : 0 < M → ∃ g, G = some ⟨g, 0, none⟩ ∧ DivSt base Rb Yb Qb g cg M h B cb K ps qs ys w
theorem DivSt.gen {base Rb Yb Qb g cap L h : Nat} {B : Option Addr} {cb K : Nat} {ps qs ys : List Nat} {w : World} (S : DivSt base Rb Yb Qb g cap L h B cb K ps qs ys w) : DivG base Rb Yb Qb (some ⟨g, 0, none⟩) cap L h B cb K ps qs ys w :=
  ⟨S.bR, S.bQ, S.row.pol, S.quo.pol, S.lp, S.lq, fun _ => ⟨g, rfl, S⟩⟩
theorem heap_new2 (w : World) (o p : Obj) : ((w.alloc o).alloc p).heap[w.heap.size]? = some o := by
  rw [Below.heap_alloc _ _ _ (by simp)]; exact heap_alloc_new w o
theorem below_allocs (w : World) (o : Obj) : Below w.heap.size w (w.alloc o) := below_alloc (Below.refl _ _) o
theorem box_new (w : World) (t : TypeId) (v : Value) : Box (w.alloc (.cells #[v] t)) w.heap.size t v := heap_alloc_new w _
theorem quo_new (w : World) (base M : Nat) (hb : base ≤ w.heap.size) (hM : M ≤ 9223372036854775807) : Row base w.heap.size M (List.replicate M 0) (w.alloc (.cells (madeCells #[.int .u64 0] M) 50)) := by
  have F := Fill.start w M
  have P := F.pol hM
  refine ⟨⟨by simp [words], .inr ⟨w.heap.size, M, madeCells #[.int .u64 0] M, by rw [List.length_replicate], hb, heap_alloc_new w _, by simp, hM, ?_, ?_⟩⟩, F.wds⟩
  · rw [size_madeCells, Nat.mul_one]
  · rw [toList_madeCells_one, List.length_replicate, Nat.mul_one, words, List.map_replicate, List.take_replicate, Nat.min_self]
    rfl

theorem divStart (base M N cg cy : Nat) (G Y : Option Addr) (ps ys : List Nat) (w0 w : World) (hb : base ≤ w.heap.size) (own0 : w0.ownsRow base 50 1 (.slice G M cg) M (words ps)) (h0w : Below w0.heap.size w0 w) (wp : Wds ps) (wy : Wds ys) (ownY : w.ownsRow w0.heap.size 50 1 (.slice Y N cy) N (words ys)) (lp : ps.length = M) (ly : ys.length = N) (hM : M ≤ 9223372036854775807) :
    DivG base w.heap.size (w.heap.size + 1) (w.heap.size + 1 + 1 + 1) G cg M (w.heap.size + 1 + 1) Y cy N ps (List.replicate M 0) ys
      ((((w.alloc (.cells #[.slice G M cg] 23)).alloc (.cells #[.slice Y N cy] 23)).alloc (.cells (madeCells #[.int .u64 0] M) 50)).alloc (.cells #[.slice (some ⟨w.heap.size + 1 + 1, 0, none⟩) M M] 23)) := by
  have own := ownsRow_below own0 h0w
  have P : Pol w Y cy ys := by
    obtain ⟨A', c', e, RP⟩ := Pol.of_owns wy (show w.ownsRow w0.heap.size 50 1 (.slice Y N cy) ys.length (words ys) by rw [ly]; exact ownY)
    simp only [Value.slice.injEq] at e
    obtain ⟨rfl, _, rfl⟩ := e
    exact RP
  have hbR : Box (w.alloc (.cells #[.slice G M cg] 23)) w.heap.size 23 (.slice G M cg) := box_new _ _ _
  generalize hw1 : w.alloc (.cells #[.slice G M cg] 23) = w1 at hbR ⊢
  have s1 : w1.heap.size = w.heap.size + 1 := by rw [← hw1]; simp
  have B1 : Below w.heap.size w w1 := by rw [← hw1]; exact below_allocs w _
  have hbY : Box (w1.alloc (.cells #[.slice Y N cy] 23)) w1.heap.size 23 (.slice Y N cy) := box_new _ _ _
  generalize hw2 : w1.alloc (.cells #[.slice Y N cy] 23) = w2 at hbY ⊢
  have s2 : w2.heap.size = w.heap.size + 1 + 1 := by rw [← hw2]; simp [s1]
  have B2 : Below w1.heap.size w1 w2 := by rw [← hw2]; exact below_allocs w1 _
  have hq := quo_new w2 base M (by omega) hM
  generalize hw3 : w2.alloc (.cells (madeCells #[.int .u64 0] M) 50) = w3 at hq ⊢
  have s3 : w3.heap.size = w.heap.size + 1 + 1 + 1 := by rw [← hw3]; simp [s2]
  have B3 : Below w2.heap.size w2 w3 := by rw [← hw3]; exact below_allocs w2 _
  have hbQ : Box (w3.alloc (.cells #[.slice (some ⟨w.heap.size + 1 + 1, 0, none⟩) M M] 23)) w3.heap.size 23 (.slice (some ⟨w.heap.size + 1 + 1, 0, none⟩) M M) := box_new _ _ _
  generalize hw4 : w3.alloc (.cells #[.slice (some ⟨w.heap.size + 1 + 1, 0, none⟩) M M] 23) = w4 at hbQ ⊢
  have B4 : Below w3.heap.size w3 w4 := by rw [← hw4]; exact below_allocs w3 _
  have B34 := below_then B3 B4
  have B24 := below_then B2 B34
  have B14 := below_then B1 B24
  rw [s3] at hbQ
  rw [s2] at hq
  rw [s1] at hbY
  have own4 := ownsRow_below own B14
  have hY := hbY.below B34
  have hR := hbR.below B24
  have hQ := hq.below B4
  obtain ⟨A', c', e, RP⟩ := Pol.of_owns wp (show w4.ownsRow base 50 1 (.slice G M cg) ps.length (words ps) by rw [lp]; exact own4)
  simp only [Value.slice.injEq] at e
  obtain ⟨rfl, _, rfl⟩ := e
  refine ⟨hR, hbQ, RP, hQ.pol, lp, List.length_replicate, fun h0 => ?_⟩
  rcases own0.2 with ⟨_, hn⟩ | ⟨g, cap, cur, ev, _, hh, _⟩
  · omega
  have hG : G = some ⟨g, 0, none⟩ := by injection ev
  subst hG
  have lg : g < w0.heap.size := (Array.getElem?_eq_some_iff.1 hh).1
  have := h0w.size
  refine ⟨g, rfl, hR, hY, hbQ, ⟨by rw [lp]; exact own4, wp⟩, hQ, P.below B14, lp, List.length_replicate, ly, by omega, fun ad e => ?_⟩
  subst e
  rcases ownY.2 with ⟨ev2, _⟩ | ⟨g', cap', cur', ev2, hg', hh', _⟩
  · cases ev2
  · have lg' : g' < w.heap.size := (Array.getElem?_eq_some_iff.1 hh').1
    have e2 : ad = ⟨g', 0, none⟩ := by
      injection ev2 with e2
      injection e2
    subst e2
    exact ⟨by show g' ≠ g; omega, by show g' ≠ w.heap.size + 1 + 1; omega⟩
theorem divBelow (w0 w : World) (M : Nat) (h : Below w0.heap.size w0 w) (x y z : Value) :
    Below w0.heap.size w0 ((((w.alloc (.cells #[x] 23)).alloc (.cells #[y] 23)).alloc (.cells (madeCells #[.int .u64 0] M) 50)).alloc (.cells #[z] 23)) :=
  below_alloc (below_alloc (below_alloc (below_alloc h _) _) _) _

set_option maxRecDepth 100000 in
set_option maxHeartbeats 4000000 in
theorem divWalk (A B : Option Addr) (ca cb L K m M N : Nat) (xs ys : List Nat) (hL : Hid (xs.length = L)) (hK : Hid (ys.length = K)) (bL : L ≤ 50000) (bK : K ≤ 50000) (w : World) (P : Hid (Pol w A ca xs)) (Q : Hid (Pol w B cb ys)) (a b : Nat) (ha : Hid (leN xs = a)) (hb : Hid (leN ys = b)) (hm : Hid (len b = m + 1)) (hM : Hid ((wordsOf a).length = M)) (hN : Hid ((wordsOf b).length = N)) (bM : M ≤ 50000) (bN : N ≤ 50000) :
    Calls Tryd.prog 30 #[.slice A L ca, .slice B K cb] w (Ans2 (qt a b) (rt a b) w) := by
  have D := Lib.hid (gDeg (m : Int) Q.out hK.out (by rw [hb.out, hm.out]; omega) bK)
  have O1 := Lib.hid ((gOwnR a P.out hL.out ha.out bL).mono fun _ _ h => ownR hM.out h)
  have hmk := run_make_row' (P := Tryd.prog) 23 50 (.int .u64 0) 8 Tryd.underlying23 infoW rfl .i64 .i64 M (by omega) (by omega)
  go_enter Tryd.func30, Tryd.ntmps30
  go_wp2_with fail
  refine (D.out).mono ?_
  rintro e w' ⟨rfl, rfl⟩
  go_wp2_with fail
  refine (O1.out).mono ?_
  rintro e w1 ⟨G, cg, rfl, OW, hb1⟩
  have HOW := Lib.hid OW
  have HB1 := Lib.hid hb1
  clear OW hb1
  have O2 := Lib.hid ((gOwnR b (Q.out.below HB1.out) hK.out hb.out bK).mono fun _ _ h => ownR hN.out h)
  go_wp2_with fail
  refine (O2.out).mono ?_
  rintro e w2 ⟨Y, cy, rfl, PY, hb2⟩
  have HPY := Lib.hid PY
  have HB2 := Lib.hid hb2
  clear PY hb2
  go_wp2_with fail
  have hlb : w.heap.size ≤ w2.heap.size := Nat.le_trans HB1.out.size HB2.out.size
  have ST := Lib.hid (divStart w.heap.size M N cg cy G Y (wordsOf a) (wordsOf b) w1 w2 hlb HOW.out HB2.out (wds_wordsOf a) (wds_wordsOf b) HPY.out hM.out hN.out (by omega))
  have BW := Lib.hid (show Below w.heap.size w _ from divBelow w w2 M (below_then HB1.out HB2.out) (.slice G M cg) (.slice Y N cy) (.slice (some ⟨w2.heap.size + 1 + 1, 0, none⟩) M M))
  have V0 := Lib.hid (show clm (leN (List.replicate M 0)) b ^^^ leN (wordsOf a) = a ∧ (∀ j, (leN (List.replicate M 0)).testBit j = false) from by
    rw [leN_zero (fun i => getD_zero M i), clm_zero_left, Nat.zero_xor, leN_wordsOf]; exact ⟨rfl, fun j => Nat.zero_testBit j⟩)
  generalize List.replicate M 0 = qs0 at ST V0
  generalize hV : World.alloc _ _ = V at ST BW ⊢
  clear hV
  have la : len a ≤ 3200000 := by
    have := len_words (wds_wordsOf a)
    rw [leN_wordsOf, hM.out] at this
    omega
  have lm : m ≤ 3200000 := by
    have := len_words (wds_wordsOf b)
    rw [leN_wordsOf, hN.out, hm.out] at this
    omega
  obtain ⟨d, hd⟩ : ∃ d : Int, d = (len a : Int) - 1 := ⟨_, rfl⟩
  have d1 : -1 ≤ d := by omega
  have d2 : d ≤ 3200000 := by omega
  have HD := Lib.hid hd
  have DG := Lib.hid (gDeg d ST.out.rest ST.out.lp (by rw [leN_wordsOf, hd]) bM)
  clear hd la
  have m0 : (0 : Int) ≤ (m : Int) := by omega
  go_wp2_with fail
  refine (DG.out).mono ?_
  rintro e w' ⟨rfl, rfl⟩
  clear DG
  go_wp2_with fail
  go_loopw [12] (fun n wr => ∃ (i : Int) (ps qs : List Nat), n = .int .i64 i ∧ -4000000 ≤ i ∧ i ≤ 3200000 ∧ Hid (DivG w.heap.size w2.heap.size (w2.heap.size + 1) (w2.heap.size + 1 + 1 + 1) G cg M (w2.heap.size + 1 + 1) Y cy N ps qs (wordsOf b) wr) ∧
      Hid (clm (leN qs) b ^^^ leN ps = a ∧ (len (leN ps) : Int) ≤ (m : Int) + 1 + i ∧ ∀ j : Nat, (j : Int) ≤ i → (leN qs).testBit j = false) ∧ Hid (Below w.heap.size w wr)) (fun n _ => (intOf n + 4000000).toNat)
  case atStart => exact ⟨d - (m : Int), wordsOf a, qs0, rfl, by omega, by omega, ST, Lib.hid ⟨V0.out.1, by rw [leN_wordsOf]; have := HD.out; omega, fun j _ => V0.out.2 j⟩, BW⟩
  case round =>
    obtain ⟨i, ps, qs, rfl, i1, i2, S, HV, HB⟩ := hrel
    clear ST BW V0
    by_cases hi : 0 ≤ i
    · obtain ⟨k, rfl⟩ : ∃ k : Nat, i = (k : Int) := ⟨i.toNat, by omega⟩
      have DR := Lib.hid (div_round (k := k) hm.out HV.out.1 (by have := HV.out.2.1; omega) (fun j hj => HV.out.2.2 j (by omega)))
      obtain ⟨t, ht⟩ : ∃ t, m + k = t := ⟨_, rfl⟩
      have k1 : (m : Int) + (k : Int) = (t : Int) := by omega
      rw [ht] at DR
      have HT := Lib.hid ht
      have bt : t ≤ 6400000 := by omega
      clear ht
      rcases Nat.mod_two_eq_zero_or_one (leN ps / 2 ^ t) with hy | hy
      · have BT := Lib.hid (gBit t 0 S.out.rest S.out.lp (by rw [hy]; rfl) (by omega))
        have L0 := Lib.hid (DR.out.1 hy)
        clear hy DR
        have bR := S.out.bR.cell
        go_wp2_with fail
        refine (BT.out).mono ?_
        rintro e w' ⟨rfl, rfl⟩
        clear BT
        go_wp2_with fail
        go_roundw
        case rel => exact ⟨(k : Int) - 1, ps, qs, rfl, by omega, by omega, S, Lib.hid ⟨HV.out.1, by have := L0.out; have := HT.out; omega, fun j hj => HV.out.2.2 j (by omega)⟩, HB⟩
        case measure => simp [intOf]; omega
      · have BT := Lib.hid (gBit t 1 S.out.rest S.out.lp (by rw [hy]; rfl) (by omega))
        obtain ⟨lR, L1, V1, T1⟩ := DR.out.2 hy
        have HL1 := Lib.hid L1
        have HV1 := Lib.hid V1
        have HT1 := Lib.hid T1
        have M0 : 0 < M := by
          rcases Nat.eq_zero_or_pos M with z | z
          · exfalso
            have := len_words S.out.rest.word
            rw [S.out.lp, z] at this
            omega
          · exact z
        obtain ⟨g, rfl, S'⟩ := S.out.st M0
        have sN := words_over (N := b) (by intro e; have := hm.out; rw [e, len_zero] at this; omega)
        rw [hN.out] at sN
        obtain ⟨f1, f2, f3⟩ := div_fit (q := k / 64) (s := k % 64) (k := k) (M := M) (N := N) (m := m) (by omega) (by omega) S'.row.wds (wds_wordsOf b) S'.lp hN.out (by rw [leN_wordsOf]; exact sN) (by rw [leN_wordsOf]; exact hm.out) (by rw [HT.out]; exact lR)
        have T := Lib.hid (takeWalk w.heap.size w2.heap.size (w2.heap.size + 1) (w2.heap.size + 1 + 1 + 1) g cg M (w2.heap.size + 1 + 1) cy N k (k / 64) (k % 64) Y ps qs (wordsOf b) (Lib.hid (by omega)) (by omega) (by omega) (by omega) (by omega) f1 (Lib.hid f3) f2 (Lib.hid (HV.out.2.2 k (by omega))) wr HB.out.size (Lib.hid S'))
        clear hy DR lR L1 V1 T1 sN f1 f2 f3 S' M0
        have bR := S.out.bR.cell
        go_wp2_with fail
        refine (BT.out).mono ?_
        rintro e w' ⟨rfl, rfl⟩
        clear BT
        go_wp2_with fail
        refine (T.out).mono ?_
        rintro e w' ⟨rfl, ps', qs', S2, v1, v2, hb2⟩
        have HS2 := Lib.hid S2.gen
        have HV2 := Lib.hid (show clm (leN qs') b ^^^ leN ps' = a ∧ (len (leN ps') : Int) ≤ (m : Int) + 1 + ((k : Int) - 1) ∧ ∀ j : Nat, (j : Int) ≤ (k : Int) - 1 → (leN qs').testBit j = false from by
          rw [v1, v2, leN_wordsOf]
          exact ⟨HV1.out, by have := HL1.out; have := HT.out; omega, fun j hj => HT1.out j (by omega)⟩)
        have HB2 := Lib.hid (HB.out.trans hb2)
        clear S2 v1 v2 hb2 T
        go_wp2_with fail
        go_roundw
        case rel => exact ⟨(k : Int) - 1, ps', qs', rfl, by omega, by omega, HS2, HV2, HB2⟩
        case measure => simp [intOf]; omega
    · have bR := S.out.bR.cell
      have bQ := S.out.bQ.cell
      have QR := Lib.hid (qr_of (a := a) (b := b) (by intro e; have := hm.out; rw [e, len_zero] at this; omega) HV.out.1 (by have := HV.out.2.1; have := hm.out; omega))
      have eq1 := Lib.hid QR.out.1.symm
      have eq2 := Lib.hid QR.out.2.symm
      clear QR
      have hX : Below wr.heap.size wr wr := Below.refl _ _
      go_wp2_with fail
      go_region_held3 (fun w' => w'.cell? ⟨w2.heap.size + 1 + 1 + 1, 0, none⟩ = some (.slice (some ⟨w2.heap.size + 1 + 1, 0, none⟩) M M) ∧ w'.cell? ⟨w2.heap.size, 0, none⟩ = some (.slice G M cg)) (first | go_keep | exact ⟨(S.out.bQ.below hX).cell, (S.out.bR.below hX).cell⟩)
        (first
        | (go_at_call 33; ((with_reducible refine (gOwn (qt a b) (S.out.quo.below hX.drew) S.out.lq eq1.out bM).mono ?_); rintro e x ⟨A1, c1, rfl, PA1, hb⟩; (try replace PA2 := PA2.below hb); replace hX := below_then hX.drew hb; clear hb))
        | (go_at_call 33; ((with_reducible refine (gOwn (qt a b) (S.out.quo.below hX) S.out.lq eq1.out bM).mono ?_); rintro e x ⟨A1, c1, rfl, PA1, hb⟩; (try replace PA2 := PA2.below hb); replace hX := below_then hX hb; clear hb))
        | (go_at_call 33; ((with_reducible refine (gOwn (rt a b) (S.out.rest.below hX.drew) S.out.lp eq2.out bM).mono ?_); rintro e x ⟨A2, c2, rfl, PA2, hb⟩; (try replace PA1 := PA1.below hb); replace hX := below_then hX.drew hb; clear hb))
        | (go_at_call 33; ((with_reducible refine (gOwn (rt a b) (S.out.rest.below hX) S.out.lp eq2.out bM).mono ?_); rintro e x ⟨A2, c2, rfl, PA2, hb⟩; (try replace PA1 := PA1.below hb); replace hX := below_then hX hb; clear hb)))
      all_goals
        go_wp2_with fail
        go_ret3
        exact ⟨_, _, _, _, rfl, PA1, PA2, below_then HB.out hX⟩
theorem cDiv {A B : Option Addr} {L K ca cb : Nat} {xs ys : List Nat} {w : World} (a b : Nat) (P : Pol w A ca xs) (Q : Pol w B cb ys) (hL : xs.length = L) (hK : ys.length = K) (ha : leN xs = a) (hb : leN ys = b) (bL : L ≤ 50000) (bK : K ≤ 50000) (h0 : b ≠ 0) :
    Calls Tryd.prog 30 #[.slice A L ca, .slice B K cb] w (Ans2 (qt a b) (rt a b) w) := by
  have l := len_pos h0
  have l1 := own_take xs a P.word ha
  have l2 := own_take ys b Q.word hb
  have e1 : (wordsOf a).length = sz a := rfl
  have e2 : (wordsOf b).length = sz b := rfl
  exact divWalk A B ca cb L K (len b - 1) _ _ xs ys (Lib.hid hL) (Lib.hid hK) bL bK w (Lib.hid P) (Lib.hid Q) a b (Lib.hid ha) (Lib.hid hb) (Lib.hid (by omega)) (Lib.hid rfl) (Lib.hid rfl) (by omega) (by omega)
end Go.Proofs.YtfpbfibnkknhdaaDoor
