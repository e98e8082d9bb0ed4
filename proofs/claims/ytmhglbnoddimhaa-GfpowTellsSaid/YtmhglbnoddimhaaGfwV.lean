/-
  What the calls Plain and Irreducible of the reference of layer 4, and large of its statements, answer.
-/
import Derived.Test.YtmhglbnoddimhaaGfwU
namespace Go.Proofs.Ytmhglbnoddimhaa
open Go.RowKit G
set_option linter.unusedVariables false

set_option maxRecDepth 100000 in
set_option maxHeartbeats 2000000 in
theorem rPlainWalk {A B : Option Addr} {L K ca cb : Nat} {xs : List Nat} {w : World} (n X Y R : Nat) (P : Hid (Lst w A ca xs)) (Q : Hid (Lst w B cb (bitsOf Y))) (hL : Hid (xs.length = L)) (hK : Hid ((bitsOf Y).length = K)) (hX : Hid (leB xs = X)) (bL : L ≤ 20000) (bK : K ≤ 20000) (bn : n ≤ 100000) (h0 : Hid (Y ≠ 0)) (hR : Hid (pr X n Y = R)) :
    Calls Try.prog 23 #[.slice A L ca, .int .i64 (n : Int), .slice B K cb] w (AnsB (bitsOf R) w) := by
  have lR := Lib.hid (show ∀ z, (bitsOf (rt z Y)).length ≤ 20000 from fun z => Nat.le_trans (len_bits h0.out hK.out) bK)
  have lX := Lib.hid (show len X ≤ L from by
    have := leB_lt xs P.out.bit
    rw [hX.out, hL.out] at this
    exact len_le this)
  have lM := Lib.hid (show ∀ y, (bitsOf (clm (rt y Y) X)).length ≤ 100000 from fun y => by
    have e := hK.out
    rw [bitsOf_len] at e
    have a := rt_lt (a := y) h0.out
    have b := lX.out
    have := len_prod (Y := Y) (K := 20000) (show len (rt y Y) ≤ 20000 by omega) (show len X ≤ 20000 by omega)
    omega)
  go_enter Try.func23, Try.ntmps23
  go_wp2_with fail
  have HB0 := Lib.hid (below_allocs w (.cells #[.int .i64 1] 3))
  have P1 := Lib.hid (P.out.below HB0.out)
  have Q1 := Lib.hid (Q.out.below HB0.out)
  have ONE := Lib.hid (lst_one w)
  generalize hW0 : World.alloc w _ = W0 at HB0 P1 Q1 ONE ⊢
  clear hW0
  refine (rMod 1 Y (pr X 0 Y) ONE.out Q1.out bits_one hK.out (leB_bitsOf 1) rfl rfl (by omega) (by omega) h0.out).mono ?_
  rintro e w1 ⟨A1, c1, rfl, l1, hb⟩
  have HB1 := Lib.hid (below_then HB0.out hb)
  have P2 := Lib.hid (P1.out.below hb)
  have Q2 := Lib.hid (Q1.out.below hb)
  have L1 := Lib.hid l1
  clear hb l1 P1 Q1 ONE HB0
  go_wp2_with fail
  go_loopg [7, 8] n (fun g o i wr => ∃ (k : Nat) (A1 : Option Addr) (c1 r : Nat), k + g = n ∧ i = .int .i64 k ∧ o = .slice A1 (bitsOf r).length c1 ∧ Hid (pr X k Y = r) ∧ Hid (Lst wr A1 c1 (bitsOf r)) ∧ Hid (Lst wr A ca xs) ∧ Hid (Lst wr B cb (bitsOf Y)) ∧ Hid (Below w.heap.size w wr))
  case atStart => exact ⟨0, A1, c1, _, by omega, rfl, rfl, Lib.hid rfl, L1, P2, Q2, HB1⟩
  case round =>
    obtain ⟨k, A1, c1, r, hk, rfl, rfl, hr, hS, hP, hQ, hB⟩ := hrel
    by_cases hlt : k < n
    · have kl : (k : Int) < (n : Int) := by omega
      have k0 : (0 : Int) ≤ (k : Int) := by omega
      have lr := Lib.hid (show (bitsOf r).length ≤ 20000 from by rw [← hr.out]; exact lR.out _)
      have lrq := Lib.hid (show (bitsOf (clm r X)).length ≤ 100000 from by rw [← hr.out]; exact lM.out _)
      have nr := Lib.hid (show rt (clm r X) Y = pr X (k + 1) Y from by rw [pr_succ h0.out, hr.out])
      go_wp2_with fail
      refine (rMul (clm r X) hS.out hP.out rfl hL.out (by rw [leB_bitsOf, hX.out]) (by have := lr.out; omega) (by omega)).mono ?_
      rintro e w5 ⟨A5, c5, rfl, l5, hb⟩
      have L5 := Lib.hid l5
      replace hP := Lib.hid (hP.out.below hb)
      replace hQ := Lib.hid (hQ.out.below hb)
      replace hB := Lib.hid (below_then hB.out hb)
      clear hb l5 hS
      go_wp2_with fail
      refine (rMod (clm r X) Y (pr X (k + 1) Y) L5.out hQ.out rfl hK.out (leB_bitsOf _) rfl nr.out lrq.out (by omega) h0.out).mono ?_
      rintro e w6 ⟨A6, c6, rfl, l6, hb⟩
      have L6 := Lib.hid l6
      replace hP := Lib.hid (hP.out.below hb)
      replace hQ := Lib.hid (hQ.out.below hb)
      replace hB := Lib.hid (below_then hB.out hb)
      clear hb l6 L5
      go_wp2_with fail
      go_roundg (gk - 1)
      case measure => omega
      case rel => exact ⟨k + 1, A6, c6, _, by omega, by go_num, rfl, Lib.hid rfl, L6, hP, hQ, hB⟩
    · obtain rfl : k = n := by omega
      have kl : ¬ ((k : Int) < (k : Int)) := by omega
      have er := Lib.hid (show r = R from hr.out.symm.trans hR.out)
      go_wp2_with fail
      go_ret
      exact ⟨A1, c1, by rw [← er.out]; rfl, by rw [← er.out]; exact hS.out, hB.out⟩
theorem rPlain {A B : Option Addr} {L K ca cb : Nat} {xs ys : List Nat} {w : World} (n X Y R : Nat) (x : Int) (e : (n : Int) = x) (P : Lst w A ca xs) (Q : Lst w B cb ys) (hL : xs.length = L) (hK : ys.length = K) (hX : leB xs = X) (hY : ys = bitsOf Y) (hR : pr X n Y = R) (bL : L ≤ 20000) (bK : K ≤ 20000) (bn : n ≤ 100000) (h0 : Y ≠ 0) :
    Calls Try.prog 23 #[.slice A L ca, .int .i64 x, .slice B K cb] w (AnsB (bitsOf R) w) := by
  subst hY e
  exact rPlainWalk n X Y R (Lib.hid P) (Lib.hid Q) (Lib.hid hL) (Lib.hid hK) (Lib.hid hX) bL bK bn (Lib.hid h0) (Lib.hid hR)

set_option maxHeartbeats 1000000 in
theorem rIrrShort {A : Option Addr} {L ca : Nat} {w : World} (h : L < 2) : Calls Try.prog 29 #[.slice A L ca] w (Bl false w) := by
  have h1 : (L : Int) < 2 := by omega
  go_enter Try.func29, Try.ntmps29
  go_wp2_with fail
  go_ret
  exact ⟨rfl, Below.refl _ _⟩
set_option maxRecDepth 100000 in
set_option maxHeartbeats 2000000 in
theorem rIrrWalk {A : Option Addr} {L ca : Nat} {w : World} (Y : Nat) (b : Bool) (P : Hid (Lst w A ca (bitsOf Y))) (hL : Hid ((bitsOf Y).length = L)) (h2 : 2 ≤ L) (bL : L ≤ 20000) (hb : Hid ((b = true ∧ Tried Y) ∨ (b = false ∧ ¬ Tried Y))) :
    Calls Try.prog 29 #[.slice A L ca] w (Bl b w) := by
  have h1 : ¬ ((L : Int) < 2) := by omega
  have eL := Lib.hid (show len Y = L from by rw [← bitsOf_len]; exact hL.out)
  go_enter Try.func29, Try.ntmps29
  go_wp2_with fail
  go_loopg [3] 510 (fun g i wr => ∃ (n : Nat), n + g = 512 ∧ 2 ≤ n ∧ i = .int .u64 (n : Int) ∧ Hid (Lst wr A ca (bitsOf Y)) ∧ Hid (Below w.heap.size w wr) ∧ Hid (∀ j, 2 ≤ j → j < n → 2 * (len j - 1) ≤ len Y - 1 → rt Y j ≠ 0))
  case atStart => exact ⟨2, by omega, by omega, rfl, P, Lib.hid (Below.refl _ _), Lib.hid (fun j a b => by omega)⟩
  case round =>
    obtain ⟨n, hn, n2, rfl, hP, hB, hall⟩ := hrel
    by_cases hlt : n < 512
    · have nl : (n : Int) < 512 := by omega
      have n0 : (0 : Int) ≤ (n : Int) := by omega
      have HN := Lib.hid hn
      have HLT := Lib.hid hlt
      have lb := Lib.hid (show leB (bitsK 64 n) = n from leB_bitsK 64 n (Nat.lt_of_lt_of_le hlt (by decide)))
      have bb := Lib.hid (show b = true → 2 * (len n - 1) ≤ len Y - 1 → rt Y n ≠ 0 from fun e => by
        rcases hb.out with ⟨_, h⟩ | ⟨h, _⟩
        · exact h n n2 hlt
        · rw [h] at e; cases e)
      have nn := Lib.hid (show n ≠ 0 from by omega)
      have l1 := len_pos nn.out
      have l9 := len_le (n := n) (k := 9) (by omega)
      obtain ⟨m, hm⟩ : ∃ m, len n = m + 1 := ⟨len n - 1, by omega⟩
      have HM := Lib.hid hm
      have m8 : m ≤ 8 := by omega
      have lm := Lib.hid (show (bitsOf n).length = m + 1 from by rw [bitsOf_len]; exact hm)
      clear hn hlt l1 l9 hm
      go_wp2_with fail
      refine (rBits n (by have := HLT.out; omega) _).mono ?_
      rintro e w1 ⟨A1, c1, rfl, l1, hb1⟩
      have L1 := Lib.hid l1
      replace hP := Lib.hid (hP.out.below hb1)
      replace hB := Lib.hid (below_then hB.out hb1)
      clear l1 hb1
      go_wp2_with fail
      refine (rTrim n L1.out rfl lb.out (by rw [bitsK_length]; omega)).mono ?_
      rintro e w2 ⟨A2, c2, rfl, l2, hb2⟩
      rw [lm.out]
      have L2 := Lib.hid l2
      replace hP := Lib.hid (hP.out.below hb2)
      replace hB := Lib.hid (below_then hB.out hb2)
      clear l2 hb2 L1
      have m1 : ((m + 1 : Nat) : Int) - 1 = (m : Int) := by omega
      by_cases hc : 2 * m ≤ L - 1
      · have c1' : 2 * (m : Int) ≤ (L : Int) - 1 := by omega
        have HC := Lib.hid (show 2 * (len n - 1) ≤ len Y - 1 from by rw [HM.out, eL.out]; exact hc)
        clear hc
        by_cases hz : rt Y n = 0
        · have HZ := Lib.hid (show (bitsOf (rt Y n)).length = 0 from by rw [hz, bitsOf_zero]; rfl)
          have hf := Lib.hid (show b = false from by
            cases hbb : b with
            | false => rfl
            | true => exact absurd hz (bb.out hbb HC.out))
          clear hz
          go_wp2_with fail
          refine (rMod Y n (rt Y n) hP.out L2.out hL.out lm.out (leB_bitsOf Y) rfl rfl (by omega) (by omega) nn.out).mono ?_
          rintro e w3 ⟨A3, c3, rfl, l3, hb3⟩
          rw [HZ.out]
          replace hB := Lib.hid (below_then hB.out hb3)
          clear l3 hb3
          go_wp2_with fail
          go_ret
          exact ⟨by rw [hf.out]; rfl, hB.out⟩
        · obtain ⟨t, ht⟩ : ∃ t, (bitsOf (rt Y n)).length = t + 1 := ⟨(bitsOf (rt Y n)).length - 1, by rw [bitsOf_len]; have := len_pos hz; omega⟩
          have HT := Lib.hid ht
          have tz : ((t : Int) + 1 == 0) = false := by simp; omega
          have tz2 : (((t + 1 : Nat) : Int) == 0) = false := by simp; omega
          have al := Lib.hid (show ∀ j, 2 ≤ j → j < n + 1 → 2 * (len j - 1) ≤ len Y - 1 → rt Y j ≠ 0 from fun j a c d => by
            by_cases e : j = n
            · rw [e]; exact hz
            · exact hall.out j a (by omega) d)
          clear hz ht
          go_wp2_with fail
          refine (rMod Y n (rt Y n) hP.out L2.out hL.out lm.out (leB_bitsOf Y) rfl rfl (by omega) (by omega) nn.out).mono ?_
          rintro e w3 ⟨A3, c3, rfl, l3, hb3⟩
          rw [HT.out]
          replace hP := Lib.hid (hP.out.below hb3)
          replace hB := Lib.hid (below_then hB.out hb3)
          clear l3 hb3
          go_wp2_with fail
          go_roundg (gk - 1)
          case measure => have := HN.out; have := HLT.out; omega
          case rel => exact ⟨n + 1, by have := HN.out; have := HLT.out; omega, by omega, by go_num, hP, hB, al⟩
      · have c1' : ¬ (2 * (m : Int) ≤ (L : Int) - 1) := by omega
        have c2' : decide (2 * (m : Int) ≤ (L : Int) - 1) = false := by simp; omega
        have al := Lib.hid (show ∀ j, 2 ≤ j → j < n + 1 → 2 * (len j - 1) ≤ len Y - 1 → rt Y j ≠ 0 from fun j a c d => by
          by_cases e : j = n
          · exfalso; rw [e, HM.out, eL.out] at d; exact hc d
          · exact hall.out j a (by omega) d)
        clear hc
        go_wp2_with fail
        go_roundg (gk - 1)
        case measure => have := HN.out; have := HLT.out; omega
        case rel => exact ⟨n + 1, by have := HN.out; have := HLT.out; omega, by omega, by go_num, hP, hB, al⟩
    · obtain rfl : n = 512 := by omega
      have hf := Lib.hid (show b = true from by
        rcases hb.out with ⟨h, _⟩ | ⟨_, h⟩
        · exact h
        · exact absurd hall.out h)
      go_wp2_with fail
      go_ret
      exact ⟨by rw [hf.out]; rfl, hB.out⟩
end Go.Proofs.Ytmhglbnoddimhaa
