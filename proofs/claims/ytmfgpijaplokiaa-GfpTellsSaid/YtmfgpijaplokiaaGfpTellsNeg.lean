/-
  GfpTells of layer 2 answers true for every two polynomials and every place: places below 0. Made by wip/gen/gfptells.py.
-/
import Derived.Test.YtmfgpijaplokiaaGfpTe
namespace Go.Proofs.Ytmfgpijaplokiaa
open Go.RowKit G
set_option linter.unusedVariables false

set_option maxRecDepth 100000 in
set_option maxHeartbeats 3000000 in
theorem tells_neg (Aa Ab : Option Addr) (ca cb La Lb : Nat) (xs ys : List Nat) (X Y Z U S P Q y : Nat) (r b0 : Bool) (eb : Hid (b0 = (decide (0 < La) && decide (0 < Lb)))) (n : Int) (hn : n < 0) (hx : n < 0 ∨ 2048 < n) (w : World) (Pa : Pol w Aa ca xs) (Pb : Pol w Ab cb ys) (ha : Hid (xs.length = La)) (hb' : Hid (ys.length = Lb)) (sa : La ≤ 16) (sb : Lb ≤ 16) (la : La ≤ 50000) (lb : Lb ≤ 50000)
    (eX : Hid (leN xs = X)) (eY : Hid (leN ys = Y)) (eS : Hid (leN xs ^^^ leN ys = S)) (eS2 : Hid (X ^^^ Y = S)) (eP : Hid (clm (leN xs) (leN ys) = P)) (eP2 : Hid (clm X Y = P)) (eQ : Hid (clm (leN xs) (leN xs) = Q)) (eQ2 : Hid (clm X X = Q)) (er : Hid (sameN X Y = r)) (eZ : Hid (0 = Z)) (eU : Hid (0 = U))
    (lX : Hid ((wordsOf X).length ≤ 50000)) (lY : Hid ((wordsOf Y).length ≤ 50000)) (lZ : Hid ((wordsOf Z).length ≤ 50000)) (lU : Hid ((wordsOf U).length ≤ 50000)) (lS : Hid ((wordsOf S).length ≤ 50000)) (lP : Hid ((wordsOf P).length ≤ 50000)) (lQ : Hid ((wordsOf Q).length ≤ 50000)) (lZ9 : Hid ((bitsOf Z).length ≤ 900000)) (lU9 : Hid ((bitsOf U).length ≤ 900000)) (lS9 : Hid ((bitsOf S).length ≤ 900000)) (lP9 : Hid ((bitsOf P).length ≤ 900000)) (lQ9 : Hid ((bitsOf Q).length ≤ 900000)) (Kx Ky : Nat) (eKx : Hid ((bitsOf X).length = Kx)) (eKy : Hid ((bitsOf Y).length = Ky)) (bKx : Kx ≤ 2000) (bKy : Ky ≤ 2000) :
    Calls Try.prog 3 #[.slice Aa La ca, .slice Ab Lb cb, .int .i64 n] w (Bl true w) := by
  go_enter Try.func3, Try.ntmps3
  have hB : Below w.heap.size w w := Below.refl _ _
  go_wp2_with fail
  refine (awake _).mono ?_
  rintro e w1 ⟨rfl, hb⟩
  replace Pa := Pa.below hb
  replace Pb := Pb.below hb
  replace hB := below_then hB hb
  clear hb
  go_wp2_with fail
  refine (large2No Aa Ab La ca Lb cb sa sb _).mono ?_
  rintro e wL ⟨rfl, rfl⟩
  replace Pa := Pa.alloc (.cells #[.slice Aa La ca, .slice Ab Lb cb] 23)
  replace Pb := Pb.alloc (.cells #[.slice Aa La ca, .slice Ab Lb cb] 23)
  replace hB := below_alloc hB (.cells #[.slice Aa La ca, .slice Ab Lb cb] 23)
  generalize hVL : World.alloc _ _ = VL at Pa Pb hB ⊢
  clear hVL
  go_wp2_with fail
  refine (rPartsK X Kx eKx.out Pa ha.out eX.out (by omega)).mono ?_
  rintro e w2 ⟨A2, c2, rfl, Px, hb⟩
  replace Pa := Pa.below hb
  replace Pb := Pb.below hb
  replace hB := below_then hB hb
  clear hb
  go_wp2_with fail
  refine (rPartsK Y Ky eKy.out Pb hb'.out eY.out (by omega)).mono ?_
  rintro e w3 ⟨A3, c3, rfl, Py, hb⟩
  replace Pa := Pa.below hb
  replace Pb := Pb.below hb
  replace Px := Px.below hb
  replace hB := below_then hB hb
  clear hb
  go_upto_region 10 with fail
  have Pz := lst0 w3 Z eZ.out.symm
  replace Pa := Pa.alloc (.cells #[] 3)
  replace Pb := Pb.alloc (.cells #[] 3)
  replace Px := Px.alloc (.cells #[] 3)
  replace Py := Py.alloc (.cells #[] 3)
  replace hB := below_alloc hB (.cells #[] 3)
  have Pu := lst0 (w3.alloc (.cells #[] 3)) U eU.out.symm
  simp only [World.size_alloc] at Pu
  replace Pa := Pa.alloc (.cells #[] 3)
  replace Pb := Pb.alloc (.cells #[] 3)
  replace Px := Px.alloc (.cells #[] 3)
  replace Py := Py.alloc (.cells #[] 3)
  replace Pz := Pz.alloc (.cells #[] 3)
  replace hB := below_alloc hB (.cells #[] 3)
  generalize hV9 : World.alloc _ _ = V9 at Pa Pb Px Py Pz Pu hB ⊢
  clear hV9
  go_cut [44] (CutB b0 V9)
  case first =>
    have FIN : ∀ b : Bool, (decide (0 < La) && decide (0 < Lb)) = b → b = b0 := fun b e => by rw [← e]; exact eb.out.symm
    have FN := Lib.hid FIN
    clear FIN
    by_cases l1 : 0 < La
    · by_cases l2 : 0 < Lb
      · have g1 : (0 : Int) < (La : Int) := by omega
        have g2 : (0 : Int) < (Lb : Int) := by omega
        go_wp2_with fail
        go_meet
        exact CutB.of (FN.out true (by simp [l1, l2]))
      · have g1 : (0 : Int) < (La : Int) := by omega
        have g2 : ¬ ((0 : Int) < (Lb : Int)) := by omega
        obtain rfl : Lb = 0 := by omega
        go_wp2_with fail
        go_meet
        exact CutB.of (FN.out false (by simp))
    · have g1 : ¬ ((0 : Int) < (La : Int)) := by omega
      obtain rfl : La = 0 := by omega
      go_wp2_with fail
      go_meet
      exact CutB.of (FN.out false (by simp))
  case rest =>
  obtain ⟨rfl, rfl⟩ := hcut
  go_upto_if 44 with fail
  go_cut [11] (KpT w Aa Ab ca cb xs ys A2 A3 c2 c3 X Y (some ⟨w3.heap.size, 0, none⟩) 0 (some ⟨w3.heap.size + 1, 0, none⟩) 0 Z U)
  case first =>
    cases b0 with
    | true =>
      obtain ⟨l1, l2⟩ : 0 < La ∧ 0 < Lb := by have := eb.out; simpa using this.symm
      have K : KpT0 w Aa Ab ca cb xs ys A2 A3 c2 c3 X Y (some ⟨w3.heap.size, 0, none⟩) 0 (some ⟨w3.heap.size + 1, 0, none⟩) 0 Z U V9 := ⟨Pa, Pb, Px, Py, Pz, Pu, hB⟩
      obtain ⟨ba, oa, rfl, qa⟩ := Pa.cell 0 (by rw [ha.out]; exact l1)
      obtain ⟨bb, ob, rfl, qb⟩ := Pb.cell 0 (by rw [hb'.out]; exact l2)
      have xw := Pa.word.get 0
      have yw := Pb.word.get 0
      have T1 := Lib.hid (take1 xs _ (by rw [ha.out]; exact l1) rfl)
      have T2 := Lib.hid (take1 ys _ (by rw [hb'.out]; exact l2) rfl)
      generalize xs.getD 0 0 = x at qa xw T1
      generalize ys.getD 0 0 = y at qb yw T2
      simp only [Nat.add_zero] at qa qb
      have g1 : (0 : Int) < (La : Int) := by omega
      have g2 : (0 : Int) < (Lb : Int) := by omega
      have hC := Lib.hid (words_join x y)
      have hi := high_lt xw yw
      have lo : clm x y % 18446744073709551616 < 18446744073709551616 := Nat.mod_lt _ (by decide)
      have CW := Lib.hid (fun q => cWords x y xw yw (V9.drewN q))
      have lC := Lib.hid (show (wordsOf (clm x y)).length ≤ 50000 from Nat.le_trans (wl 2 (clm_lt' 1 1 2 rfl xw yw)) (by decide))
      have hc1 := Pa.cap1
      have hc2 := Pb.cap1
      rw [ha.out] at hc1
      rw [hb'.out] at hc2
      have s1 : (1 : Int) ≤ (ca : Int) := by omega
      have s2 : (1 : Int) ≤ (cb : Int) := by omega
      have KX := Lib.hid (show (bitsOf x).length ≤ 100000 from by rw [bitsOf_len]; exact Nat.le_trans (len_word xw) (by decide))
      have KY := Lib.hid (show (bitsOf y).length ≤ 100000 from by rw [bitsOf_len]; exact Nat.le_trans (len_word yw) (by decide))
      have KC := Lib.hid (show (bitsOf (clm x y)).length ≤ 900000 from by rw [bitsOf_len]; exact Nat.le_trans (len_le (clm_lt' 1 1 2 rfl xw yw)) (by decide))
      generalize clm x y / 18446744073709551616 = h at hC hi CW
      generalize clm x y % 18446744073709551616 = l at hC lo CW
      obtain ⟨C, eC⟩ : ∃ C, clm x y = C := ⟨_, rfl⟩
      rw [eC] at hC lC KC
      have EC := Lib.hid eC
      clear eC
      go_wp2_with fail
      go_quiet ((go_at_call 11; (with_reducible exact Calls.quiet_of_same ((CW.out _).mono fun _ _ ⟨a, b⟩ => ⟨a, b.symm⟩))))
      go_wp2_with fail
      clear Pa Pb Px Py Pz Pu hB CW qa qb
      replace K := K.drewN nq
      generalize hW0 : World.drewN V9 nq = W0 at K ⊢
      clear hW0
      have PL := (polN2 W0 l h lo hi).drew
      have n2 := Lib.hid (show [l, h].length = 2 from rfl)
      have n1 := Lib.hid (show [x].length = 1 from rfl)
      have m1 := Lib.hid (show [y].length = 1 from rfl)
      have hX : Below W0.heap.size W0 W0 := Below.refl _ _
      go_region_held3 (fun _ => True) (trivial) (first | (go_at_call 13; ((with_reducible refine (gOwn C PL n2.out hC.out (by decide)).mono ?_); rintro e x1 ⟨Ao, co, rfl, PO, hb⟩; replace hX := below_then (below_alloc hX _).drew hb; clear hb; have Pa1 := ((K.below hX).pa).take 1; have Pb1 := ((K.below hX).pb).take 1; rw [T1.out] at Pa1; rw [T2.out] at Pb1)) | (go_at_call 9; ((with_reducible refine (rParts x Pa1 n1.out (leN_one x) (by decide)).mono ?_); rintro e x2 ⟨Ap, cp, rfl, PP, hb⟩; replace hX := below_then hX hb; replace PO := PO.below hb; replace Pb1 := Pb1.below hb; clear hb)) | (go_at_call 9; ((with_reducible refine (rParts y Pb1 m1.out (leN_one y) (by decide)).mono ?_); rintro e x3 ⟨Aq, cq, rfl, PQ, hb⟩; replace hX := below_then hX hb; replace PO := PO.below hb; replace PP := PP.below hb; clear hb)) | (go_at_call 15; ((with_reducible refine (rMul C PP PQ rfl rfl (by rw [leB_bitsOf, leB_bitsOf]; exact EC.out) KX.out KY.out).mono ?_); rintro e x4 ⟨Am, cm, rfl, PM, hb⟩; replace hX := below_then hX hb; replace PO := PO.below hb; clear hb)) | (go_at_call 14; ((with_reducible refine (rOf C PM rfl (leB_bitsOf C) KC.out).mono ?_); rintro e x5 ⟨Af, cf, rfl, PF, hb⟩; replace hX := below_then hX hb; replace PO := PO.below hb; clear hb)) | (go_at_call 12; ((with_reducible refine (gWords true PO PF rfl rfl (sameL_self _) lC.out).mono ?_); rintro e x6 ⟨rfl, hb⟩; replace hX := below_then hX hb; clear hb)))
      go_wp2_with fail
      go_meet
      exact (K.below hX).out
    | false =>
      go_wp2_with fail
      go_meet
      exact KpT0.out ⟨Pa, Pb, Px, Py, Pz, Pu, hB⟩
  case rest =>
    clear Pa Pb Px Py Pz Pu hB
    obtain ⟨Pa, Pb, Px, Py, Pz, Pu, hB⟩ := hcut.all
    clear hcut
    have HZ := Lib.hid (show (bitsOf Z).length = 0 from by rw [← eZ.out, bitsOf_zero]; rfl)
    have HU := Lib.hid (show (bitsOf U).length = 0 from by rw [← eU.out, bitsOf_zero]; rfl)
    go_wp2_with fail
    refine (gOwn X Pa ha.out eX.out la).mono ?_
    rintro e w4 ⟨A4, c4, rfl, P1, hb⟩
    replace Pa := Pa.below hb
    replace Pb := Pb.below hb
    replace Px := Px.below hb
    replace Py := Py.below hb
    replace Pz := Pz.below hb
    replace Pu := Pu.below hb
    replace hB := below_then hB hb
    clear hb
    go_wp2_with fail
    refine (rOf X Px eKx.out (leB_bitsOf X) (by omega)).mono ?_
    rintro e w5 ⟨A5, c5, rfl, P2, hb⟩
    replace Pa := Pa.below hb
    replace Pb := Pb.below hb
    replace Px := Px.below hb
    replace Py := Py.below hb
    replace Pz := Pz.below hb
    replace Pu := Pu.below hb
    replace P1 := P1.below hb
    replace hB := below_then hB hb
    clear hb
    go_wp2_with fail
    refine (gWords true P1 P2 rfl rfl (sameL_self _) lX.out).mono ?_
    rintro e w6 ⟨rfl, hb⟩
    replace Pa := Pa.below hb
    replace Pb := Pb.below hb
    replace Px := Px.below hb
    replace Py := Py.below hb
    replace Pz := Pz.below hb
    replace Pu := Pu.below hb
    replace P1 := P1.below hb
    replace P2 := P2.below hb
    replace hB := below_then hB hb
    clear hb
    clear P1
    clear P2
    go_wp2_with fail
    refine (gDeg ((Kx : Int) - 1) Pa ha.out (by rw [eX.out, ← eKx.out, bitsOf_len]) la).mono ?_
    rintro e w7 ⟨rfl, rfl⟩
    go_wp2_with fail
    refine (bitNeg _ _ _ n hn _).mono ?_
    rintro e w8 ⟨rfl, rfl⟩
    go_wp2_with fail
    refine (atNeg _ _ _ n hn _).mono ?_
    rintro e w9 ⟨rfl, rfl⟩
    go_wp2_with fail
    refine (xOut n Z eZ.out hx _).mono ?_
    rintro e w10 ⟨A10, c10, rfl, P3, hb⟩
    replace Pa := Pa.below hb
    replace Pb := Pb.below hb
    replace Px := Px.below hb
    replace Py := Py.below hb
    replace Pz := Pz.below hb
    replace Pu := Pu.below hb
    replace hB := below_then hB hb
    clear hb
    go_wp2_with fail
    refine (rOf Z Pz HZ.out (leB_bitsOf Z) (by decide)).mono ?_
    rintro e w11 ⟨A11, c11, rfl, P4, hb⟩
    replace Pa := Pa.below hb
    replace Pb := Pb.below hb
    replace Px := Px.below hb
    replace Py := Py.below hb
    replace Pz := Pz.below hb
    replace Pu := Pu.below hb
    replace P3 := P3.below hb
    replace hB := below_then hB hb
    clear hb
    go_wp2_with fail
    refine (gWords true P3 P4 rfl rfl (sameL_self _) lZ.out).mono ?_
    rintro e w12 ⟨rfl, hb⟩
    replace Pa := Pa.below hb
    replace Pb := Pb.below hb
    replace Px := Px.below hb
    replace Py := Py.below hb
    replace Pz := Pz.below hb
    replace Pu := Pu.below hb
    replace P3 := P3.below hb
    replace P4 := P4.below hb
    replace hB := below_then hB hb
    clear hb
    clear P3
    clear P4
    clear Pz
    go_wp2_with fail
    refine (gAdd S Pa Pb ha.out hb'.out eS.out la lb).mono ?_
    rintro e w13 ⟨A13, c13, rfl, P5, hb⟩
    replace Pa := Pa.below hb
    replace Pb := Pb.below hb
    replace Px := Px.below hb
    replace Py := Py.below hb
    replace Pu := Pu.below hb
    replace hB := below_then hB hb
    clear hb
    go_wp2_with fail
    refine (rAdd S Px Py eKx.out eKy.out (by rw [leB_bitsOf, leB_bitsOf]; exact eS2.out) (by omega) (by omega)).mono ?_
    rintro e w14 ⟨A14, c14, rfl, P6, hb⟩
    replace Pa := Pa.below hb
    replace Pb := Pb.below hb
    replace Px := Px.below hb
    replace Py := Py.below hb
    replace Pu := Pu.below hb
    replace P5 := P5.below hb
    replace hB := below_then hB hb
    clear hb
    go_wp2_with fail
    refine (rOf S P6 rfl (leB_bitsOf S) lS9.out).mono ?_
    rintro e w15 ⟨A15, c15, rfl, P7, hb⟩
    replace Pa := Pa.below hb
    replace Pb := Pb.below hb
    replace Px := Px.below hb
    replace Py := Py.below hb
    replace Pu := Pu.below hb
    replace P5 := P5.below hb
    replace P6 := P6.below hb
    replace hB := below_then hB hb
    clear hb
    clear P6
    go_wp2_with fail
    refine (gWords true P5 P7 rfl rfl (sameL_self _) lS.out).mono ?_
    rintro e w16 ⟨rfl, hb⟩
    replace Pa := Pa.below hb
    replace Pb := Pb.below hb
    replace Px := Px.below hb
    replace Py := Py.below hb
    replace Pu := Pu.below hb
    replace P5 := P5.below hb
    replace P7 := P7.below hb
    replace hB := below_then hB hb
    clear hb
    clear P5
    clear P7
    go_wp2_with fail
    refine (upOut Aa La ca n U eU.out hx _).mono ?_
    rintro e w17 ⟨A17, c17, rfl, P8, hb⟩
    replace Pa := Pa.below hb
    replace Pb := Pb.below hb
    replace Px := Px.below hb
    replace Py := Py.below hb
    replace Pu := Pu.below hb
    replace hB := below_then hB hb
    clear hb
    go_wp2_with fail
    refine (rOf U Pu HU.out (leB_bitsOf U) (by decide)).mono ?_
    rintro e w18 ⟨A18, c18, rfl, P9, hb⟩
    replace Pa := Pa.below hb
    replace Pb := Pb.below hb
    replace Px := Px.below hb
    replace Py := Py.below hb
    replace Pu := Pu.below hb
    replace P8 := P8.below hb
    replace hB := below_then hB hb
    clear hb
    go_wp2_with fail
    refine (gWords true P8 P9 rfl rfl (sameL_self _) lU.out).mono ?_
    rintro e w19 ⟨rfl, hb⟩
    replace Pa := Pa.below hb
    replace Pb := Pb.below hb
    replace Px := Px.below hb
    replace Py := Py.below hb
    replace Pu := Pu.below hb
    replace P8 := P8.below hb
    replace P9 := P9.below hb
    replace hB := below_then hB hb
    clear hb
    clear P8
    clear P9
    clear Pu
    go_wp2_with fail
    refine (gMul P Pa Pb ha.out hb'.out eP.out la lb).mono ?_
    rintro e w20 ⟨A20, c20, rfl, P10, hb⟩
    replace Pa := Pa.below hb
    replace Pb := Pb.below hb
    replace Px := Px.below hb
    replace Py := Py.below hb
    replace hB := below_then hB hb
    clear hb
    go_wp2_with fail
    refine (rMul P Px Py eKx.out eKy.out (by rw [leB_bitsOf, leB_bitsOf]; exact eP2.out) (by omega) (by omega)).mono ?_
    rintro e w21 ⟨A21, c21, rfl, P11, hb⟩
    replace Pa := Pa.below hb
    replace Pb := Pb.below hb
    replace Px := Px.below hb
    replace Py := Py.below hb
    replace P10 := P10.below hb
    replace hB := below_then hB hb
    clear hb
    go_wp2_with fail
    refine (rOf P P11 rfl (leB_bitsOf P) lP9.out).mono ?_
    rintro e w22 ⟨A22, c22, rfl, P12, hb⟩
    replace Pa := Pa.below hb
    replace Pb := Pb.below hb
    replace Px := Px.below hb
    replace Py := Py.below hb
    replace P10 := P10.below hb
    replace P11 := P11.below hb
    replace hB := below_then hB hb
    clear hb
    clear P11
    go_wp2_with fail
    refine (gWords true P10 P12 rfl rfl (sameL_self _) lP.out).mono ?_
    rintro e w23 ⟨rfl, hb⟩
    replace Pa := Pa.below hb
    replace Pb := Pb.below hb
    replace Px := Px.below hb
    replace Py := Py.below hb
    replace P10 := P10.below hb
    replace P12 := P12.below hb
    replace hB := below_then hB hb
    clear hb
    clear P10
    clear P12
    go_wp2_with fail
    refine (gSquare Q Pa ha.out eQ.out la).mono ?_
    rintro e w24 ⟨A24, c24, rfl, P13, hb⟩
    replace Pa := Pa.below hb
    replace Pb := Pb.below hb
    replace Px := Px.below hb
    replace Py := Py.below hb
    replace hB := below_then hB hb
    clear hb
    go_wp2_with fail
    refine (rMul Q Px Px eKx.out eKx.out (by rw [leB_bitsOf]; exact eQ2.out) (by omega) (by omega)).mono ?_
    rintro e w25 ⟨A25, c25, rfl, P14, hb⟩
    replace Pa := Pa.below hb
    replace Pb := Pb.below hb
    replace Px := Px.below hb
    replace Py := Py.below hb
    replace P13 := P13.below hb
    replace hB := below_then hB hb
    clear hb
    go_wp2_with fail
    refine (rOf Q P14 rfl (leB_bitsOf Q) lQ9.out).mono ?_
    rintro e w26 ⟨A26, c26, rfl, P15, hb⟩
    replace Pa := Pa.below hb
    replace Pb := Pb.below hb
    replace Px := Px.below hb
    replace Py := Py.below hb
    replace P13 := P13.below hb
    replace P14 := P14.below hb
    replace hB := below_then hB hb
    clear hb
    clear P14
    go_wp2_with fail
    refine (gWords true P13 P15 rfl rfl (sameL_self _) lQ.out).mono ?_
    rintro e w27 ⟨rfl, hb⟩
    replace Pa := Pa.below hb
    replace Pb := Pb.below hb
    replace Px := Px.below hb
    replace Py := Py.below hb
    replace P13 := P13.below hb
    replace P15 := P15.below hb
    replace hB := below_then hB hb
    clear hb
    clear P13
    clear P15
    go_wp2_with fail
    refine (gSame r Pa Pb ha.out hb'.out (by rw [eX.out, eY.out]; exact er.out) la).mono ?_
    rintro e w28 ⟨rfl, hb⟩
    replace Pa := Pa.below hb
    replace Pb := Pb.below hb
    replace Px := Px.below hb
    replace Py := Py.below hb
    replace hB := below_then hB hb
    clear hb
    go_wp2_with fail
    refine (rOf X Px eKx.out (leB_bitsOf X) (by omega)).mono ?_
    rintro e w29 ⟨A29, c29, rfl, P16, hb⟩
    replace Pa := Pa.below hb
    replace Pb := Pb.below hb
    replace Px := Px.below hb
    replace Py := Py.below hb
    replace hB := below_then hB hb
    clear hb
    go_wp2_with fail
    refine (rOf Y Py eKy.out (leB_bitsOf Y) (by omega)).mono ?_
    rintro e w30 ⟨A30, c30, rfl, P17, hb⟩
    replace Pa := Pa.below hb
    replace Pb := Pb.below hb
    replace Px := Px.below hb
    replace Py := Py.below hb
    replace P16 := P16.below hb
    replace hB := below_then hB hb
    clear hb
    go_wp2_with fail
    refine (gWords r P16 P17 rfl rfl (by rw [sameL_words]; exact er.out) lX.out).mono ?_
    rintro e w31 ⟨rfl, hb⟩
    replace Pa := Pa.below hb
    replace Pb := Pb.below hb
    replace Px := Px.below hb
    replace Py := Py.below hb
    replace P16 := P16.below hb
    replace P17 := P17.below hb
    replace hB := below_then hB hb
    clear hb
    go_wp2_with fail
    go_ret
    exact ⟨by simp, hB⟩
end Go.Proofs.Ytmfgpijaplokiaa
