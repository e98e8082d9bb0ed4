/-
  GfpowTells of layer 4 answers true for every two polynomials, every number of 128 bits and every int. Made by wip/gen/gfwtells.py.
-/
import Derived.Test.YtmhglbnoddimhaaGfwP
namespace Go.Proofs.Ytmhglbnoddimhaa
open Go.RowKit G
set_option linter.unusedVariables false

set_option maxRecDepth 100000 in
set_option maxHeartbeats 4000000 in
theorem tells_in (A B : Option Addr) (ca cb La Lb : Nat) (xs ys : List Nat) (h l : Int) (m : Nat) (N E X Y K R1 R2 : Nat) (R3 : Nat) (w : World) (Pa : Pol w A ca xs) (Pb : Pol w B cb ys) (ha : Hid (xs.length = La)) (hb' : Hid (ys.length = Lb)) (sa : La ≤ 4) (sb : Lb ≤ 4) (ka : La ≤ 20000) (kb : Lb ≤ 20000) (wn : Wn h l N) (eE : Hid (len N = E)) (h0 : Hid (leN ys ≠ 0)) (y0 : Hid (Y ≠ 0)) (eX : Hid (leN xs = X)) (eY : Hid (leN ys = Y)) (eK : Hid ((bitsOf Y).length = K)) (kz : (K == 0) = false) (kz2 : ((K : Int) == 0) = false) (bK : K ≤ 20000) (bE : E ≤ 128) (lX : Hid ((bitsOf X).length ≤ 20000)) (lXX : Hid ((bitsOf X).length ≤ 100000))
    (e1 : Hid (pr (leN xs) N (leN ys) = R1)) (e1b : Hid (pr X N Y = R1)) (e2 : Hid (pr 2 N (leN ys) = R2)) (e2b : Hid (pr 2 N Y = R2)) (lR1 : Hid ((bitsOf R1).length ≤ 900000)) (kR1 : Hid ((wordsOf R1).length ≤ 50000)) (lR2 : Hid ((bitsOf R2).length ≤ 900000)) (kR2 : Hid ((wordsOf R2).length ≤ 50000)) (m40 : m ≤ 40) (m1 : ¬ ((40 : Int) < (m : Int))) (m1d : decide ((40 : Int) < (m : Int)) = false) (m3 : ¬ ((m : Int) < 0)) (m3d : decide ((m : Int) < 0) = false) (m4 : ¬ ((2048 : Int) < (m : Int))) (e3 : Hid (pr (leN xs) (2 ^ m) (leN ys) = R3)) (e3b : Hid (pr X (2 ^ m) Y = R3)) (lR3 : Hid ((bitsOf R3).length ≤ 900000)) (kR3 : Hid ((wordsOf R3).length ≤ 50000)) (lA : Hid (∀ z, (bitsOf (rt z Y)).length ≤ 20000)) (lM : Hid (∀ z, (bitsOf (clm (rt z Y) (rt z Y))).length ≤ 100000)) :
    Calls Try.prog 3 #[.slice A La ca, .slice B Lb cb, .agg #[.int .u64 h, .int .u64 l], .int .i64 (m : Int)] w (Bl true w) := by
  go_enter Try.func3, Try.ntmps3
  have hB : Below w.heap.size w w := Below.refl _ _
  go_wp2_with fail
  have KU := CU.new w h l 26
  replace Pa := Pa.alloc (.cells #[.int .u64 h, .int .u64 l] 26)
  replace Pb := Pb.alloc (.cells #[.int .u64 h, .int .u64 l] 26)
  replace hB := below_alloc hB (.cells #[.int .u64 h, .int .u64 l] 26)
  generalize hV0 : World.alloc _ _ = V0 at Pa Pb KU hB ⊢
  clear hV0
  refine (awake4 _).mono ?_
  rintro e w1 ⟨rfl, hb⟩
  replace Pa := Pa.below hb
  replace Pb := Pb.below hb
  replace KU := KU.below hb
  replace hB := below_then hB hb
  clear hb
  go_wp2_with fail
  refine (large2No A B La ca Lb cb sa sb _).mono ?_
  rintro e wL ⟨rfl, rfl⟩
  replace Pa := Pa.alloc (.cells #[.slice A La ca, .slice B Lb cb] 23)
  replace Pb := Pb.alloc (.cells #[.slice A La ca, .slice B Lb cb] 23)
  replace KU := KU.alloc (.cells #[.slice A La ca, .slice B Lb cb] 23)
  replace hB := below_alloc hB (.cells #[.slice A La ca, .slice B Lb cb] 23)
  generalize hVL : World.alloc _ _ = VL at Pa Pb KU hB ⊢
  clear hVL
  obtain ⟨c0, c1⟩ := KU.c
  go_wp2_with fail
  clear c0 c1
  refine (gPow R1 wn Pa Pb ha.out hb'.out e1.out ka kb h0.out).mono ?_
  rintro e w2 ⟨A2, c2, rfl, Px, hb⟩
  replace Pa := Pa.below hb
  replace Pb := Pb.below hb
  replace KU := KU.below hb
  replace hB := below_then hB hb
  clear hb
  obtain ⟨c0, c1⟩ := KU.c
  go_wp2_with fail
  clear c0 c1
  refine (gXp R2 wn Pb hb'.out e2.out kb h0.out).mono ?_
  rintro e w3 ⟨A3, c3, rfl, Py, hb⟩
  replace Pa := Pa.below hb
  replace Pb := Pb.below hb
  replace KU := KU.below hb
  replace Px := Px.below hb
  replace hB := below_then hB hb
  clear hb
  go_wp2_with fail
  refine (gSquares m R3 (m : Int) rfl Pa Pb ha.out hb'.out ka kb h0.out (by omega) e3.out).mono ?_
  rintro e w4 ⟨A4, c4, rfl, Ps, hb⟩
  replace Pa := Pa.below hb
  replace Pb := Pb.below hb
  replace KU := KU.below hb
  replace Px := Px.below hb
  replace Py := Py.below hb
  replace hB := below_then hB hb
  clear hb
  go_wp2_with fail
  refine (rParts X Pa ha.out eX.out (by omega)).mono ?_
  rintro e w5 ⟨A5, c5, rfl, Lx, hb⟩
  replace Pa := Pa.below hb
  replace Pb := Pb.below hb
  replace KU := KU.below hb
  replace Px := Px.below hb
  replace Py := Py.below hb
  replace Ps := Ps.below hb
  replace hB := below_then hB hb
  clear hb
  clear Pa
  go_wp2_with fail
  refine (rParts Y Pb hb'.out eY.out (by omega)).mono ?_
  rintro e w6 ⟨A6, c6, rfl, Ly, hb⟩
  replace Pb := Pb.below hb
  replace KU := KU.below hb
  replace Px := Px.below hb
  replace Py := Py.below hb
  replace Ps := Ps.below hb
  replace Lx := Lx.below hb
  replace hB := below_then hB hb
  clear hb
  clear Pb
  rw [eK.out]
  have HKU := Lib.hid KU
  have HPx := Lib.hid Px
  have HPy := Lib.hid Py
  have HPs := Lib.hid Ps
  have HLx := Lib.hid Lx
  have HLy := Lib.hid Ly
  have HB := Lib.hid hB
  clear KU Px Py Ps Lx Ly hB
  go_upto_region 11 with fail
  go_cut [114] (CutT w A4 c4 (wordsOf R3) A5 c5 X A6 c6 Y)
  case first =>
    have fX : Below w6.heap.size w6 w6 := Below.refl _ _
    obtain ⟨c0, c1⟩ := HKU.out.c
    have su := HKU.out.lt
    go_region_held3 (fun w' => w'.cell? ⟨w.heap.size, 0, none⟩ = some (.int .u64 h) ∧ w'.cell? ⟨w.heap.size, 1, none⟩ = some (.int .u64 l)) (go_keep)
      (first
        | (go_at_call 16; ((with_reducible refine (rPowR X Y R1 wn (HLx.out.below (by first | exact fX | exact fX.drew)) (HLy.out.below (by first | exact fX | exact fX.drew)) rfl eK.out (leB_bitsOf X) rfl e1b.out lX.out bK y0.out).mono ?_); rintro e x1 ⟨B1, d1, rfl, Q1, hb⟩; clear c0 c1 su; replace fX := below_then (by first | exact fX | exact fX.drew) hb; clear hb; have HQ1 := Lib.hid Q1; clear Q1; obtain ⟨c0, c1⟩ := (HKU.out.below fX).c; have su := (HKU.out.below fX).lt))
        | (go_at_call 15; ((with_reducible refine (rOf R1 HQ1.out rfl (leB_bitsOf R1) lR1.out).mono ?_); rintro e x2 ⟨B2, d2, rfl, Q2, hb⟩; clear c0 c1 su; replace fX := below_then fX hb; clear hb; have HQ2 := Lib.hid Q2; clear Q2; obtain ⟨c0, c1⟩ := (HKU.out.below fX).c; have su := (HKU.out.below fX).lt))
        | (go_at_call 14; ((with_reducible refine (gWords true (HPx.out.below fX) HQ2.out rfl rfl (sameL_self _) kR1.out).mono ?_); rintro e x3 ⟨rfl, hb⟩; clear c0 c1 su; replace fX := below_then fX hb; clear hb; obtain ⟨c0, c1⟩ := (HKU.out.below fX).c; have su := (HKU.out.below fX).lt))
        | (go_at_call 16; ((with_reducible refine (rPowR 2 Y R2 wn (lst01 _) (HLy.out.below (fX.alloc fX.size _)) lst01f.1 eK.out lst01f.2 rfl e2b.out (by decide) bK y0.out).mono ?_); rintro e x4 ⟨B4, d4, rfl, Q4, hb⟩; clear c0 c1 su; replace fX := below_then (fX.alloc fX.size _) hb; clear hb; have HQ4 := Lib.hid Q4; clear Q4; obtain ⟨c0, c1⟩ := (HKU.out.below fX).c; have su := (HKU.out.below fX).lt))
        | (go_at_call 15; ((with_reducible refine (rOf R2 HQ4.out rfl (leB_bitsOf R2) lR2.out).mono ?_); rintro e x5 ⟨B5, d5, rfl, Q5, hb⟩; clear c0 c1 su; replace fX := below_then fX hb; clear hb; have HQ5 := Lib.hid Q5; clear Q5; obtain ⟨c0, c1⟩ := (HKU.out.below fX).c; have su := (HKU.out.below fX).lt))
        | (go_at_call 14; ((with_reducible refine (gWords true (HPy.out.below fX) HQ5.out rfl rfl (sameL_self _) kR2.out).mono ?_); rintro e x6 ⟨rfl, hb⟩; clear c0 c1 su; replace fX := below_then fX hb; clear hb; obtain ⟨c0, c1⟩ := (HKU.out.below fX).c; have su := (HKU.out.below fX).lt))
        | (go_at_call 17; ((with_reducible refine (gRounds E wn eE.out _).mono ?_); rintro e x7 ⟨rfl, hb⟩; clear c0 c1 su; replace fX := below_then fX hb; clear hb; obtain ⟨c0, c1⟩ := (HKU.out.below fX).c; have su := (HKU.out.below fX).lt))
        | (go_at_call 18; ((with_reducible refine (rLen E wn eE.out _).mono ?_); rintro e x8 ⟨rfl, hb⟩; clear c0 c1 su; replace fX := below_then fX hb; clear hb; obtain ⟨c0, c1⟩ := (HKU.out.below fX).c; have su := (HKU.out.below fX).lt))
      )
    all_goals
      go_wp2_with fail
      go_meet
      exact ⟨rfl, HPs.out.below fX, HLx.out.below fX, HLy.out.below fX, below_then HB.out fX⟩
  obtain ⟨rfl, S⟩ := hcut
  have HS := Lib.hid S
  clear S
  go_wp2_with fail
  refine (rMod X Y (pr X (2 ^ 0) Y) HS.out.lu HS.out.lv rfl eK.out (leB_bitsOf X) rfl (by rw [Nat.pow_zero, pr_1]) lXX.out (by omega) y0.out).mono ?_
  rintro e y1 ⟨B1, d1, rfl, Q1, hb⟩
  have HQ1 := Lib.hid Q1
  have Ps1 := Lib.hid (HS.out.ps.below hb)
  have Lv1 := Lib.hid (HS.out.lv.below hb)
  have HB1 := Lib.hid (below_then HS.out.below hb)
  clear hb Q1 HS
  go_wp2_with fail
  go_loopg [17, 132] m (fun g o i wr => ∃ (k : Nat) (A1 : Option Addr) (c1 r : Nat), k + g = m ∧ i = .int .i64 k ∧ o = .slice A1 (bitsOf r).length c1 ∧ Hid (pr X (2 ^ k) Y = r) ∧ Hid (Lst wr A1 c1 (bitsOf r)) ∧ Hid (Pol wr A4 c4 (wordsOf R3)) ∧ Hid (Lst wr A6 c6 (bitsOf Y)) ∧ Hid (Below w.heap.size w wr))
  case atStart => exact ⟨0, B1, d1, _, by omega, rfl, rfl, Lib.hid rfl, HQ1, Ps1, Lv1, HB1⟩
  case round =>
    obtain ⟨k, A1, c1, r, hk, rfl, rfl, hr, hS, hP, hQ, hB⟩ := hrel
    by_cases hlt : k < m
    · have kl : (k : Int) < (m : Int) := by omega
      have k0 : (0 : Int) ≤ (k : Int) := by omega
      have lr := Lib.hid (show (bitsOf r).length ≤ 20000 from by rw [← hr.out]; exact lA.out _)
      have lq := Lib.hid (show (bitsOf (clm r r)).length ≤ 100000 from by rw [← hr.out]; exact lM.out _)
      have nr := Lib.hid (show rt (clm r r) Y = pr X (2 ^ (k + 1)) Y from by rw [pr_frob y0.out, hr.out])
      go_wp2_with fail
      refine (rMul (clm r r) hS.out hS.out rfl rfl (by rw [leB_bitsOf]) (by have := lr.out; omega) (by have := lr.out; omega)).mono ?_
      rintro e w5 ⟨A5, c5, rfl, l5, hb⟩
      have L5 := Lib.hid l5
      replace hP := Lib.hid (hP.out.below hb)
      replace hQ := Lib.hid (hQ.out.below hb)
      replace hB := Lib.hid (below_then hB.out hb)
      clear hb l5 hS
      go_wp2_with fail
      refine (rMod (clm r r) Y (pr X (2 ^ (k + 1)) Y) L5.out hQ.out rfl eK.out (leB_bitsOf _) rfl nr.out lq.out (by omega) y0.out).mono ?_
      rintro e w6 ⟨A6, c6, rfl, l6, hb⟩
      have L6 := Lib.hid l6
      replace hP := Lib.hid (hP.out.below hb)
      replace hQ := Lib.hid (hQ.out.below hb)
      replace hB := Lib.hid (below_then hB.out hb)
      clear hb l6 L5
      go_wp2_with fail
      go_roundg (gk - 1)
      case measure => omega
      case rel => exact ⟨k + 1, A6, c6, _, by omega, by go_num, rfl, Lib.hid rfl, L6, hP, hQ, hB⟩
    · obtain rfl : k = m := by omega
      have kl : ¬ ((k : Int) < (k : Int)) := by omega
      obtain rfl : r = R3 := hr.out.symm.trans e3b.out
      go_wp2_with fail
      refine (rOf r hS.out rfl (leB_bitsOf r) lR3.out).mono ?_
      rintro e w5 ⟨A5, c5, rfl, P5, hb⟩
      have HP5 := Lib.hid P5
      replace hP := Lib.hid (hP.out.below hb)
      replace hB := Lib.hid (below_then hB.out hb)
      clear hb P5 hS
      go_wp2_with fail
      refine (gWords true hP.out HP5.out rfl rfl (sameL_self _) kR3.out).mono ?_
      rintro e w6 ⟨rfl, hb⟩
      replace hB := Lib.hid (below_then hB.out hb)
      clear hb
      go_wp2_with fail
      go_ret
      exact ⟨rfl, hB.out⟩
end Go.Proofs.Ytmhglbnoddimhaa
