/-
  What the calls X, Squares and Irreducible of package gfpow answer.
-/
import Derived.Test.YtmhglbnoddimhaaGfwC
import Derived.Deep.RegionHeld3
namespace Go.Proofs.Ytmhglbnoddimhaa
open Go.RowKit G
set_option linter.unusedVariables false

theorem cells_new (w : World) (x y : Value) (t : TypeId) : (w.alloc (.cells #[x, y] t)).cell? ⟨w.heap.size, 0, none⟩ = some x ∧ (w.alloc (.cells #[x, y] t)).cell? ⟨w.heap.size, 1, none⟩ = some y := cell0_of_block (World.alloc_heap_new w _)
theorem two_below {w w' : World} {b : Nat} {x y : Value} (h : w.cell? ⟨b, 0, none⟩ = some x ∧ w.cell? ⟨b, 1, none⟩ = some y) (hb : Below w.heap.size w w') : w'.cell? ⟨b, 0, none⟩ = some x ∧ w'.cell? ⟨b, 1, none⟩ = some y :=
  ⟨(hb.cell (p := ⟨b, 0, none⟩) (World.block_lt_of_cell? w _ h.1)).trans h.1, (hb.cell (p := ⟨b, 1, none⟩) (World.block_lt_of_cell? w _ h.2)).trans h.2⟩

set_option maxRecDepth 100000 in
set_option maxHeartbeats 1000000 in
theorem gXp {B : Option Addr} {K cb : Nat} {ys : List Nat} {w : World} {h l : Int} {N : Nat} (R : Nat) (i : Wn h l N) (Q : Pol w B cb ys) (hK : ys.length = K) (hR : pr 2 N (leN ys) = R) (bK : K ≤ 20000) (h0 : leN ys ≠ 0) :
    Calls Try.prog 11 #[.agg #[.int .u64 h, .int .u64 l], .slice B K cb] w (AnsE R 0 w) := by
  have HI := Lib.hid i
  have HQ := Lib.hid Q
  have HK := Lib.hid hK
  have HR := Lib.hid (show pr (leN (wordsOf 2)) N (leN ys) = R from by rw [leN_wordsOf]; exact hR)
  have H0 := Lib.hid h0
  have l2 := Lib.hid (show (wordsOf 2).length ≤ 20000 from Nat.le_trans (wl 1 (by decide)) (by decide))
  clear i Q hK hR h0
  go_enter Try.func11, Try.ntmps11
  go_wp2_with fail
  have K0 := Lib.hid (cells_new w (.int .u64 h) (.int .u64 l) 26)
  have hB := below_alloc (Below.refl _ _) (w := w) (W := w) (.cells #[.int .u64 h, .int .u64 l] 26)
  have HQ1 := Lib.hid (HQ.out.below hB)
  generalize hW0 : World.alloc w _ = W0 at K0 hB HQ1 ⊢
  clear hW0
  have hX : Below W0.heap.size W0 W0 := Below.refl _ _
  obtain ⟨c0, c1⟩ := K0.out
  go_region_held3 (fun w' => w'.cell? ⟨w.heap.size, 0, none⟩ = some (.int .u64 h) ∧ w'.cell? ⟨w.heap.size, 1, none⟩ = some (.int .u64 l)) (go_keep)
    (first
      | (go_at_call 30; ((with_reducible refine (gX 1 2 1 rfl rfl (by decide) _).mono ?_); rintro e x ⟨A1, d1, rfl, P1, hb⟩; clear c0 c1; replace hX := below_then (by first | exact hX | exact hX.drew) hb; obtain ⟨c0, c1⟩ := two_below K0.out hX; have HP := Lib.hid P1; clear hb P1))
      | (go_at_call 10; ((with_reducible refine (gPow R HI.out HP.out (HQ1.out.below hX) rfl HK.out HR.out l2.out bK H0.out).mono ?_); rintro e y ⟨A2, d2, rfl, P2, hb⟩; clear c0 c1; replace hX := below_then (by first | exact hX | exact hX.drew) hb; obtain ⟨c0, c1⟩ := two_below K0.out hX; have HP2 := Lib.hid P2; clear hb P2)))
  go_wp2
  go_ret2
  exact ⟨A2, d2, rfl, HP2.out, below_then hB hX⟩
set_option maxRecDepth 100000 in
set_option maxHeartbeats 1000000 in
theorem gXpZero {B : Option Addr} {K cb : Nat} {ys : List Nat} {w : World} (h l : Int) (Q : Pol w B cb ys) (hK : ys.length = K) (bK : K ≤ 20000) (h0 : leN ys = 0) :
    Calls Try.prog 11 #[.agg #[.int .u64 h, .int .u64 l], .slice B K cb] w (NilE 8 w) := by
  have HQ := Lib.hid Q
  have HK := Lib.hid hK
  have H0 := Lib.hid h0
  clear Q hK h0
  go_enter Try.func11, Try.ntmps11
  go_wp2_with fail
  have K0 := Lib.hid (cells_new w (.int .u64 h) (.int .u64 l) 26)
  have hB := below_alloc (Below.refl _ _) (w := w) (W := w) (.cells #[.int .u64 h, .int .u64 l] 26)
  have HQ1 := Lib.hid (HQ.out.below hB)
  generalize hW0 : World.alloc w _ = W0 at K0 hB HQ1 ⊢
  clear hW0
  have hX : Below W0.heap.size W0 W0 := Below.refl _ _
  obtain ⟨c0, c1⟩ := K0.out
  go_region_held3 (fun w' => w'.cell? ⟨w.heap.size, 0, none⟩ = some (.int .u64 h) ∧ w'.cell? ⟨w.heap.size, 1, none⟩ = some (.int .u64 l)) (go_keep)
    (first
      | (go_at_call 30; ((with_reducible refine (gX 1 2 1 rfl rfl (by decide) _).mono ?_); rintro e x ⟨A1, d1, rfl, P1, hb⟩; clear c0 c1; replace hX := below_then (by first | exact hX | exact hX.drew) hb; obtain ⟨c0, c1⟩ := two_below K0.out hX; clear hb P1))
      | (go_at_call 10; ((with_reducible refine (gPowZero h l (HQ1.out.below hX) HK.out (by omega) H0.out).mono ?_); rintro e y ⟨rfl, hb⟩; clear c0 c1; replace hX := below_then (by first | exact hX | exact hX.drew) hb; obtain ⟨c0, c1⟩ := two_below K0.out hX; clear hb)))
  go_wp2
  go_ret2
  exact ⟨rfl, below_then hB hX⟩

set_option maxHeartbeats 1000000 in
theorem gSquaresZero {A B : Option Addr} {L K ca cb : Nat} {ys : List Nat} {w : World} (m : Int) (Q : Pol w B cb ys) (hK : ys.length = K) (bK : K ≤ 20000) (h0 : leN ys = 0) :
    Calls Try.prog 12 #[.slice A L ca, .int .i64 m, .slice B K cb] w (NilE 8 w) := by
  have D := Lib.hid (gModZero (A := A) (L := L) (ca := ca) Q hK (by omega) h0)
  clear Q hK h0
  go_enter Try.func12, Try.ntmps12
  go_wp2_with fail
  refine (D.out).mono ?_
  rintro e w1 ⟨rfl, hb⟩
  have HB := Lib.hid hb
  clear hb
  go_wp2_with fail
  go_ret2
  exact ⟨rfl, HB.out⟩
set_option maxHeartbeats 1000000 in
theorem gSquaresArg {A B : Option Addr} {L K ca cb : Nat} {xs ys : List Nat} {w : World} (m : Int) (P : Pol w A ca xs) (Q : Pol w B cb ys) (hL : xs.length = L) (hK : ys.length = K) (bL : L ≤ 20000) (bK : K ≤ 20000) (h0 : leN ys ≠ 0) (hm : m < 0 ∨ 2048 < m) :
    Calls Try.prog 12 #[.slice A L ca, .int .i64 m, .slice B K cb] w (NilE 1 w) := by
  have D := Lib.hid (gMod _ P Q hL hK rfl (by omega) (by omega) h0)
  clear P Q hL hK h0
  generalize rt (leN xs) (leN ys) = R at D
  by_cases h1 : m < 0
  · clear hm
    go_enter Try.func12, Try.ntmps12
    go_wp2_with fail
    refine (D.out).mono ?_
    rintro e w1 ⟨A1, c1, rfl, P1, hb⟩
    have HB := Lib.hid hb
    clear hb P1
    go_wp2_with fail
    go_ret2
    exact ⟨rfl, HB.out⟩
  · have h2 : 2048 < m := by omega
    have h3 : ¬ (m < 0) := h1
    have h4 : decide (m < 0) = false := by simp; omega
    clear hm h1
    go_enter Try.func12, Try.ntmps12
    go_wp2_with fail
    refine (D.out).mono ?_
    rintro e w1 ⟨A1, c1, rfl, P1, hb⟩
    have HB := Lib.hid hb
    clear hb P1
    go_wp2_with fail
    go_ret2
    exact ⟨rfl, HB.out⟩

set_option maxRecDepth 100000 in
set_option maxHeartbeats 1000000 in
theorem squaresWalk {A B : Option Addr} {L K ca cb : Nat} {xs ys : List Nat} {w : World} (m a p R : Nat) (P : Hid (Pol w A ca xs)) (Q : Hid (Pol w B cb ys)) (hL : Hid (xs.length = L)) (hK : Hid (ys.length = K)) (ha : Hid (leN xs = a)) (hp : Hid (leN ys = p)) (bL : L ≤ 20000) (bK : K ≤ 20000) (h0 : Hid (p ≠ 0)) (bm : m ≤ 2048) (hR : Hid (pr a (2 ^ m) p = R)) :
    Calls Try.prog 12 #[.slice A L ca, .int .i64 (m : Int), .slice B K cb] w (AnsE R 0 w) := by
  have l3 := Lib.hid (show len p ≤ 64 * K from by rw [← hp.out]; exact len_pol Q.out hK.out)
  have lP := Lib.hid (show (wordsOf p).length ≤ 50000 from Nat.le_trans (wl_len l3.out) (by omega))
  have lR := Lib.hid (show ∀ z, (wordsOf (rt z p)).length ≤ 20000 from fun z => Nat.le_trans (wl_rt h0.out l3.out) bK)
  have ez := Lib.hid (show leN (wordsOf p) ≠ 0 from by rw [leN_wordsOf]; exact h0.out)
  have m0 : ¬ ((m : Int) < 0) := by omega
  have m1 : ¬ (2048 < (m : Int)) := by omega
  go_enter Try.func12, Try.ntmps12
  go_wp2_with fail
  refine (gMod (pr a (2 ^ 0) p) P.out Q.out hL.out hK.out (by rw [ha.out, hp.out, Nat.pow_zero, pr_1]) (by omega) (by omega) (by rw [hp.out]; exact h0.out)).mono ?_
  rintro e w1 ⟨A1, c1, rfl, P1, hb⟩
  have HB1 := Lib.hid hb
  have HP1 := Lib.hid P1
  have HQ1 := Lib.hid (Q.out.below hb)
  clear hb P1
  go_wp2_with fail
  refine (gOwn p HQ1.out hK.out hp.out (by omega)).mono ?_
  rintro e w2 ⟨A2, c2, rfl, P2, hb⟩
  have HB2 := Lib.hid (below_then HB1.out hb)
  have HP2 := Lib.hid P2
  have HS2 := Lib.hid (HP1.out.below hb)
  clear hb P2 HP1 HQ1
  go_wp2_with fail
  go_loopg [8, 28] m (fun g v i wr => ∃ (k : Nat) (A' : Option Addr) (c' r : Nat), k + g = m ∧ i = .int .i64 k ∧ v = .slice A' (wordsOf r).length c' ∧ Hid (pr a (2 ^ k) p = r) ∧ Hid (Pol wr A' c' (wordsOf r)) ∧ Hid (Pol wr A2 c2 (wordsOf p)) ∧ Hid (Below w.heap.size w wr))
  case atStart => exact ⟨0, A1, c1, _, by omega, rfl, rfl, Lib.hid rfl, HS2, HP2, HB2⟩
  case round =>
    obtain ⟨k, A', c', r, hk, rfl, rfl, hr, hS, hP, hB⟩ := hrel
    by_cases hlt : k < m
    · have kl : (k : Int) < (m : Int) := by omega
      have lr := Lib.hid (show (wordsOf r).length ≤ 20000 from by rw [← hr.out]; exact lR.out _)
      have es := Lib.hid (show rt (clm (leN (wordsOf r)) (leN (wordsOf r))) (leN (wordsOf p)) = pr a (2 ^ (k + 1)) p from by rw [leN_wordsOf, leN_wordsOf, ← hr.out, pr_frob h0.out])
      generalize hr2 : pr a (2 ^ (k + 1)) p = r2 at es
      have HR2 := Lib.hid hr2
      clear hr2
      go_wp2_with fail
      refine (gSq r2 hS.out hP.out rfl rfl es.out lr.out lP.out ez.out).mono ?_
      rintro e w3 ⟨A3, c3, rfl, P3, hb⟩
      have HP3 := Lib.hid P3
      have HPp := Lib.hid (hP.out.below hb)
      have HB3 := Lib.hid (below_then hB.out hb)
      clear hb P3
      go_wp2_with fail
      go_roundg (gk - 1)
      case measure => omega
      case rel => exact ⟨k + 1, A3, c3, r2, by omega, by go_num, rfl, HR2, HP3, HPp, HB3⟩
    · obtain rfl : k = m := by omega
      have kl : ¬ ((k : Int) < (k : Int)) := by omega
      obtain rfl : r = R := hr.out.symm.trans hR.out
      go_wp2_with fail
      go_ret2
      exact ⟨A', c', rfl, hS.out, hB.out⟩
theorem gSquares {A B : Option Addr} {L K ca cb : Nat} {xs ys : List Nat} {w : World} (m R : Nat) (x : Int) (e : (m : Int) = x) (P : Pol w A ca xs) (Q : Pol w B cb ys) (hL : xs.length = L) (hK : ys.length = K) (bL : L ≤ 20000) (bK : K ≤ 20000) (h0 : leN ys ≠ 0) (bm : m ≤ 2048) (hR : pr (leN xs) (2 ^ m) (leN ys) = R) :
    Calls Try.prog 12 #[.slice A L ca, .int .i64 x, .slice B K cb] w (AnsE R 0 w) := by
  subst e
  exact squaresWalk m _ _ R (Lib.hid P) (Lib.hid Q) (Lib.hid hL) (Lib.hid hK) (Lib.hid rfl) (Lib.hid rfl) bL bK (Lib.hid h0) bm (Lib.hid hR)
end Go.Proofs.Ytmhglbnoddimhaa
