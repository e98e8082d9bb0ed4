/-
  GfdivTells of layer 3 answers true for every two polynomials. Made by wip/gen/gfdtells.py.
-/
import Derived.Test.YtkfebhfbdhdibaaGfdTb
import Derived.Test.YtkfebhfbdhdibaaGfdK
namespace Go.Proofs.Ytkfebhfbdhdibaa
open Go.RowKit G
set_option linter.unusedVariables false

theorem sameL_self (us : List Nat) : sameL us us = true := by unfold sameL; simp
/-- An answer that is no bits. -/
def AnsB0 (w : World) (e : Ending) (w' : World) : Prop := ∃ (A : Option Addr) (cap : Nat), e = .returned (.slice A 0 cap) ∧ Lst w' A cap [] ∧ Below w.heap.size w w'
theorem ansB0 {w : World} {e : Ending} {w' : World} (h : AnsB (bitsOf 0) w e w') : AnsB0 w e w' := by
  rw [bitsOf_zero] at h
  exact h
theorem rDiv2 {A B : Option Addr} {ca cb L K : Nat} {xs ys : List Nat} {w : World} {X Y : Nat} (q r : Nat) (P : Lst w A ca xs) (Q : Lst w B cb ys) (hL : xs.length = L) (hK : ys.length = K) (hX : leB xs = X) (hY : ys = bitsOf Y) (hl : L ≤ 100000) (hk : K ≤ 100000) (h0 : Y ≠ 0) (h : qt X Y = q ∧ rt X Y = r) :
    Calls Try.prog 18 #[.slice A L ca, .slice B K cb] w (Ans2B q r w) := by
  have := rDiv X Y P Q hL hK hX hY hl hk h0
  rwa [h.1, h.2] at this

set_option maxRecDepth 100000 in
set_option maxHeartbeats 4000000 in
theorem tells_z (A B : Option Addr) (ca cb La Lb : Nat) (xs ys : List Nat) (X G : Nat) (w : World) (Pa : Pol w A ca xs) (Pb : Pol w B cb ys) (ha : Hid (xs.length = La)) (hb' : Hid (ys.length = Lb)) (sa : La ≤ 16) (sb : Lb ≤ 16) (la : La ≤ 20000) (lb : Lb ≤ 20000) (ka : La ≤ 50000) (kb : Lb ≤ 50000) (ja : La ≤ 10000) (jb : Lb ≤ 10000) (eX : Hid (leN xs = X)) (eY : Hid (leN ys = 0)) (eG : Hid (gc (leN xs) (leN ys) = G)) (eG2 : Hid (gc X 0 = G)) (mX : Hid (len X ≤ 90000)) (kG : Hid ((wordsOf G).length ≤ 50000)) (bG : Hid ((bitsOf G).length ≤ 900000)) :
    Calls Try.prog 3 #[.slice A La ca, .slice B Lb cb] w (Bl true w) := by
  go_enter Try.func3, Try.ntmps3
  have hB : Below w.heap.size w w := Below.refl _ _
  go_wp2_with fail
  refine (awake3 _).mono ?_
  rintro e w1 ⟨rfl, hb⟩
  replace Pa := Pa.below hb
  replace Pb := Pb.below hb
  replace hB := below_then hB hb
  clear hb
  go_wp2_with fail
  refine (large2No A B La ca Lb cb sa sb _).mono ?_
  rintro e wL ⟨rfl, rfl⟩
  replace Pa := Pa.alloc (.cells #[.slice A La ca, .slice B Lb cb] 23)
  replace Pb := Pb.alloc (.cells #[.slice A La ca, .slice B Lb cb] 23)
  replace hB := below_alloc hB (.cells #[.slice A La ca, .slice B Lb cb] 23)
  generalize hVL : World.alloc _ _ = VL at Pa Pb hB ⊢
  clear hVL
  go_wp2_with fail
  refine (rParts X Pa ha.out eX.out ja).mono ?_
  rintro e w2 ⟨A2, c2, rfl, Lx, hb⟩
  replace Pa := Pa.below hb
  replace Pb := Pb.below hb
  replace hB := below_then hB hb
  clear hb
  go_wp2_with fail
  refine (Calls.mono (rParts 0 Pb hb'.out eY.out jb) (fun _ _ h => ansB0 h)).mono ?_
  rintro e w3 ⟨A3, c3, rfl, Ly, hb⟩
  replace Pa := Pa.below hb
  replace Pb := Pb.below hb
  replace Lx := Lx.below hb
  replace hB := below_then hB hb
  clear hb
  go_wp2_with fail
  refine (divZero _ _ _ _ _ _ _ kb _ Pb hb'.out eY.out).mono ?_
  rintro e w4 ⟨rfl, rfl⟩
  go_wp2_with fail
  refine (gModZero Pb hb'.out kb eY.out).mono ?_
  rintro e w5 ⟨rfl, hb⟩
  replace Pa := Pa.below hb
  replace Pb := Pb.below hb
  replace Lx := Lx.below hb
  replace Ly := Ly.below hb
  replace hB := below_then hB hb
  clear hb
  go_wp2_with fail
  refine (gInvZero Pb hb'.out lb eY.out).mono ?_
  rintro e w6 ⟨rfl, hb⟩
  replace Pa := Pa.below hb
  replace Pb := Pb.below hb
  replace Lx := Lx.below hb
  replace Ly := Ly.below hb
  replace hB := below_then hB hb
  clear hb
  go_wp2_with fail
  refine (rInvZero _ _ _ _ _ _).mono ?_
  rintro e w7 ⟨rfl, hb⟩
  replace Pa := Pa.below hb
  replace Pb := Pb.below hb
  replace Lx := Lx.below hb
  replace Ly := Ly.below hb
  replace hB := below_then hB hb
  clear hb
  go_wp2_with fail
  refine (rOf 0 (Lst.nil _ none 0 (by decide)) rfl rfl (by decide)).mono ?_
  rintro e w8 ⟨A8, c8, rfl, Po, hb⟩
  replace Pa := Pa.below hb
  replace Pb := Pb.below hb
  replace Lx := Lx.below hb
  replace Ly := Ly.below hb
  replace hB := below_then hB hb
  clear hb
  go_wp2_with fail
  refine (gWords true (Pol.nil _ none 0 (by decide)) Po rfl rfl (by rw [wordsOf_zero]; rfl) (by decide)).mono ?_
  rintro e w9 ⟨rfl, hb⟩
  replace Pa := Pa.below hb
  replace Pb := Pb.below hb
  replace Lx := Lx.below hb
  replace Ly := Ly.below hb
  replace Po := Po.below hb
  replace hB := below_then hB hb
  clear hb
  clear Po
  go_wp2_with fail
  refine (gGcd G Pa Pb ha.out hb'.out eG.out ka kb).mono ?_
  rintro e w10 ⟨A10, c10, rfl, Pg, hb⟩
  replace Pa := Pa.below hb
  replace Pb := Pb.below hb
  replace Lx := Lx.below hb
  replace Ly := Ly.below hb
  replace hB := below_then hB hb
  clear hb
  go_wp2_with fail
  refine (rGcd X 0 G Lx Ly rfl rfl rfl bitsOf_zero.symm eG2.out mX.out (by decide)).mono ?_
  rintro e w11 ⟨A11, c11, rfl, Lg, hb⟩
  replace Pa := Pa.below hb
  replace Pb := Pb.below hb
  replace Lx := Lx.below hb
  replace Ly := Ly.below hb
  replace Pg := Pg.below hb
  replace hB := below_then hB hb
  clear hb
  go_wp2_with fail
  refine (rOf G Lg rfl (leB_bitsOf G) bG.out).mono ?_
  rintro e w12 ⟨A12, c12, rfl, Po, hb⟩
  replace Pa := Pa.below hb
  replace Pb := Pb.below hb
  replace Lx := Lx.below hb
  replace Ly := Ly.below hb
  replace Pg := Pg.below hb
  replace Lg := Lg.below hb
  replace hB := below_then hB hb
  clear hb
  go_wp2_with fail
  refine (gWords true Pg Po rfl rfl (sameL_self _) kG.out).mono ?_
  rintro e w13 ⟨rfl, hb⟩
  replace Pa := Pa.below hb
  replace Pb := Pb.below hb
  replace Lx := Lx.below hb
  replace Ly := Ly.below hb
  replace Pg := Pg.below hb
  replace Lg := Lg.below hb
  replace Po := Po.below hb
  replace hB := below_then hB hb
  clear hb
  clear Po
  go_wp2_with fail
  clear Pg
  clear Lg
  go_ret
  exact ⟨rfl, hB⟩
set_option maxRecDepth 100000 in
set_option maxHeartbeats 4000000 in
theorem tells_ok (A B : Option Addr) (ca cb La Lb : Nat) (xs ys : List Nat) (X Y Q R I K : Nat) (w : World) (Pa : Pol w A ca xs) (Pb : Pol w B cb ys) (ha : Hid (xs.length = La)) (hb' : Hid (ys.length = Lb)) (sa : La ≤ 16) (sb : Lb ≤ 16) (la : La ≤ 20000) (lb : Lb ≤ 20000) (ka : La ≤ 50000) (kb : Lb ≤ 50000) (ja : La ≤ 10000) (jb : Lb ≤ 10000) (k0 : (K == 0) = false) (k1 : ((K : Int) == 0) = false) (bK : K ≤ 100000) (eX : Hid (leN xs = X)) (eY : Hid (leN ys = Y)) (eK : Hid ((bitsOf Y).length = K)) (h0 : Hid (leN ys ≠ 0)) (y0 : Hid (Y ≠ 0)) (eD : Hid (qt (leN xs) (leN ys) = Q ∧ rt (leN xs) (leN ys) = R)) (eD2 : Hid (qt X Y = Q ∧ rt X Y = R)) (nX : Hid (len X ≤ 30000)) (nY : Hid (len Y ≤ 30000)) (mX : Hid (len X ≤ 90000)) (mY : Hid (len Y ≤ 90000)) (bX : Hid ((bitsOf X).length ≤ 100000)) (eG : Hid (gc (leN xs) (leN ys) = 1)) (eG2 : Hid (gc X Y = 1)) (eI : Hid (iv (leN xs) (leN ys) = I)) (eI2 : Hid (iv X Y = I)) (kQ : Hid ((wordsOf Q).length ≤ 50000)) (kR : Hid ((wordsOf R).length ≤ 50000)) (kI : Hid ((wordsOf I).length ≤ 50000)) (k1 : Hid ((wordsOf 1).length ≤ 50000)) (bQ : Hid ((bitsOf Q).length ≤ 900000)) (bR : Hid ((bitsOf R).length ≤ 900000)) (bI : Hid ((bitsOf I).length ≤ 900000)) (b1 : Hid ((bitsOf 1).length ≤ 900000)) :
    Calls Try.prog 3 #[.slice A La ca, .slice B Lb cb] w (Bl true w) := by
  go_enter Try.func3, Try.ntmps3
  have hB : Below w.heap.size w w := Below.refl _ _
  go_wp2_with fail
  refine (awake3 _).mono ?_
  rintro e w1 ⟨rfl, hb⟩
  replace Pa := Pa.below hb
  replace Pb := Pb.below hb
  replace hB := below_then hB hb
  clear hb
  go_wp2_with fail
  refine (large2No A B La ca Lb cb sa sb _).mono ?_
  rintro e wL ⟨rfl, rfl⟩
  replace Pa := Pa.alloc (.cells #[.slice A La ca, .slice B Lb cb] 23)
  replace Pb := Pb.alloc (.cells #[.slice A La ca, .slice B Lb cb] 23)
  replace hB := below_alloc hB (.cells #[.slice A La ca, .slice B Lb cb] 23)
  generalize hVL : World.alloc _ _ = VL at Pa Pb hB ⊢
  clear hVL
  go_wp2_with fail
  refine (rParts X Pa ha.out eX.out ja).mono ?_
  rintro e w2 ⟨A2, c2, rfl, Lx, hb⟩
  replace Pa := Pa.below hb
  replace Pb := Pb.below hb
  replace hB := below_then hB hb
  clear hb
  go_wp2_with fail
  refine (rParts Y Pb hb'.out eY.out jb).mono ?_
  rintro e w3 ⟨A3, c3, rfl, Ly, hb⟩
  replace Pa := Pa.below hb
  replace Pb := Pb.below hb
  replace Lx := Lx.below hb
  replace hB := below_then hB hb
  clear hb
  rw [eK.out]
  go_wp2_with fail
  refine (cDiv2 Q R Pa Pb ha.out hb'.out ka kb h0.out eD.out).mono ?_
  rintro e w4 ⟨A4, B4, c4, d4, rfl, Pq, Pr, hb⟩
  replace Pa := Pa.below hb
  replace Pb := Pb.below hb
  replace Lx := Lx.below hb
  replace Ly := Ly.below hb
  replace hB := below_then hB hb
  clear hb
  go_wp2_with fail
  refine (gMod R Pa Pb ha.out hb'.out eD.out.2 ka kb h0.out).mono ?_
  rintro e w5 ⟨A5, c5, rfl, Pm, hb⟩
  replace Pa := Pa.below hb
  replace Pb := Pb.below hb
  replace Lx := Lx.below hb
  replace Ly := Ly.below hb
  replace Pq := Pq.below hb
  replace Pr := Pr.below hb
  replace hB := below_then hB hb
  clear hb
  go_wp2_with fail
  refine (gInvOk I Pa Pb ha.out hb'.out la lb h0.out eG.out eI.out).mono ?_
  rintro e w6 ⟨A6, c6, rfl, Pi, hb⟩
  replace Pa := Pa.below hb
  replace Pb := Pb.below hb
  replace Lx := Lx.below hb
  replace Ly := Ly.below hb
  replace Pq := Pq.below hb
  replace Pr := Pr.below hb
  replace Pm := Pm.below hb
  replace hB := below_then hB hb
  clear hb
  go_wp2_with fail
  refine (rInvOk X Y I Lx Ly rfl eK.out rfl rfl eG2.out eI2.out nX.out nY.out y0.out).mono ?_
  rintro e w7 ⟨A7, c7, rfl, Li, hb⟩
  replace Pa := Pa.below hb
  replace Pb := Pb.below hb
  replace Lx := Lx.below hb
  replace Ly := Ly.below hb
  replace Pq := Pq.below hb
  replace Pr := Pr.below hb
  replace Pm := Pm.below hb
  replace Pi := Pi.below hb
  replace hB := below_then hB hb
  clear hb
  go_wp2_with fail
  refine (rOf I Li rfl (leB_bitsOf I) bI.out).mono ?_
  rintro e w8 ⟨A8, c8, rfl, Po, hb⟩
  replace Pa := Pa.below hb
  replace Pb := Pb.below hb
  replace Lx := Lx.below hb
  replace Ly := Ly.below hb
  replace Pq := Pq.below hb
  replace Pr := Pr.below hb
  replace Pm := Pm.below hb
  replace Pi := Pi.below hb
  replace Li := Li.below hb
  replace hB := below_then hB hb
  clear hb
  go_wp2_with fail
  refine (gWords true Pi Po rfl rfl (sameL_self _) kI.out).mono ?_
  rintro e w9 ⟨rfl, hb⟩
  replace Pa := Pa.below hb
  replace Pb := Pb.below hb
  replace Lx := Lx.below hb
  replace Ly := Ly.below hb
  replace Pq := Pq.below hb
  replace Pr := Pr.below hb
  replace Pm := Pm.below hb
  replace Pi := Pi.below hb
  replace Li := Li.below hb
  replace Po := Po.below hb
  replace hB := below_then hB hb
  clear hb
  clear Po
  go_wp2_with fail
  clear Pi
  clear Li
  refine (gGcd 1 Pa Pb ha.out hb'.out eG.out ka kb).mono ?_
  rintro e w10 ⟨A10, c10, rfl, Pg, hb⟩
  replace Pa := Pa.below hb
  replace Pb := Pb.below hb
  replace Lx := Lx.below hb
  replace Ly := Ly.below hb
  replace Pq := Pq.below hb
  replace Pr := Pr.below hb
  replace Pm := Pm.below hb
  replace hB := below_then hB hb
  clear hb
  go_wp2_with fail
  refine (rGcd X Y 1 Lx Ly rfl eK.out rfl rfl eG2.out mX.out mY.out).mono ?_
  rintro e w11 ⟨A11, c11, rfl, Lg, hb⟩
  replace Pa := Pa.below hb
  replace Pb := Pb.below hb
  replace Lx := Lx.below hb
  replace Ly := Ly.below hb
  replace Pq := Pq.below hb
  replace Pr := Pr.below hb
  replace Pm := Pm.below hb
  replace Pg := Pg.below hb
  replace hB := below_then hB hb
  clear hb
  go_wp2_with fail
  refine (rOf 1 Lg rfl (leB_bitsOf 1) b1.out).mono ?_
  rintro e w12 ⟨A12, c12, rfl, Po, hb⟩
  replace Pa := Pa.below hb
  replace Pb := Pb.below hb
  replace Lx := Lx.below hb
  replace Ly := Ly.below hb
  replace Pq := Pq.below hb
  replace Pr := Pr.below hb
  replace Pm := Pm.below hb
  replace Pg := Pg.below hb
  replace Lg := Lg.below hb
  replace hB := below_then hB hb
  clear hb
  go_wp2_with fail
  refine (gWords true Pg Po rfl rfl (sameL_self _) k1.out).mono ?_
  rintro e w13 ⟨rfl, hb⟩
  replace Pa := Pa.below hb
  replace Pb := Pb.below hb
  replace Lx := Lx.below hb
  replace Ly := Ly.below hb
  replace Pq := Pq.below hb
  replace Pr := Pr.below hb
  replace Pm := Pm.below hb
  replace Pg := Pg.below hb
  replace Lg := Lg.below hb
  replace Po := Po.below hb
  replace hB := below_then hB hb
  clear hb
  clear Po
  go_wp2_with fail
  clear Pg
  clear Lg
  refine (rDiv2 Q R Lx Ly rfl eK.out (leB_bitsOf X) rfl bX.out bK y0.out eD2.out).mono ?_
  rintro e w14 ⟨A14, B14, c14, d14, rfl, Ls, Lt, hb⟩
  replace Pa := Pa.below hb
  replace Pb := Pb.below hb
  replace Lx := Lx.below hb
  replace Ly := Ly.below hb
  replace Pq := Pq.below hb
  replace Pr := Pr.below hb
  replace Pm := Pm.below hb
  replace hB := below_then hB hb
  clear hb
  go_wp2_with fail
  refine (rOf Q Ls rfl (leB_bitsOf Q) bQ.out).mono ?_
  rintro e w15 ⟨A15, c15, rfl, Po, hb⟩
  replace Pa := Pa.below hb
  replace Pb := Pb.below hb
  replace Lx := Lx.below hb
  replace Ly := Ly.below hb
  replace Pq := Pq.below hb
  replace Pr := Pr.below hb
  replace Pm := Pm.below hb
  replace Ls := Ls.below hb
  replace Lt := Lt.below hb
  replace hB := below_then hB hb
  clear hb
  go_wp2_with fail
  refine (gWords true Pq Po rfl rfl (sameL_self _) kQ.out).mono ?_
  rintro e w16 ⟨rfl, hb⟩
  replace Pa := Pa.below hb
  replace Pb := Pb.below hb
  replace Lx := Lx.below hb
  replace Ly := Ly.below hb
  replace Pq := Pq.below hb
  replace Pr := Pr.below hb
  replace Pm := Pm.below hb
  replace Ls := Ls.below hb
  replace Lt := Lt.below hb
  replace Po := Po.below hb
  replace hB := below_then hB hb
  clear hb
  clear Po
  go_wp2_with fail
  refine (rOf R Lt rfl (leB_bitsOf R) bR.out).mono ?_
  rintro e w17 ⟨A17, c17, rfl, Po, hb⟩
  replace Pa := Pa.below hb
  replace Pb := Pb.below hb
  replace Lx := Lx.below hb
  replace Ly := Ly.below hb
  replace Pq := Pq.below hb
  replace Pr := Pr.below hb
  replace Pm := Pm.below hb
  replace Ls := Ls.below hb
  replace Lt := Lt.below hb
  replace hB := below_then hB hb
  clear hb
  go_wp2_with fail
  refine (gWords true Pr Po rfl rfl (sameL_self _) kR.out).mono ?_
  rintro e w18 ⟨rfl, hb⟩
  replace Pa := Pa.below hb
  replace Pb := Pb.below hb
  replace Lx := Lx.below hb
  replace Ly := Ly.below hb
  replace Pq := Pq.below hb
  replace Pr := Pr.below hb
  replace Pm := Pm.below hb
  replace Ls := Ls.below hb
  replace Lt := Lt.below hb
  replace Po := Po.below hb
  replace hB := below_then hB hb
  clear hb
  clear Po
  go_wp2_with fail
  refine (rOf R Lt rfl (leB_bitsOf R) bR.out).mono ?_
  rintro e w19 ⟨A19, c19, rfl, Po, hb⟩
  replace Pa := Pa.below hb
  replace Pb := Pb.below hb
  replace Lx := Lx.below hb
  replace Ly := Ly.below hb
  replace Pq := Pq.below hb
  replace Pr := Pr.below hb
  replace Pm := Pm.below hb
  replace Ls := Ls.below hb
  replace Lt := Lt.below hb
  replace hB := below_then hB hb
  clear hb
  go_wp2_with fail
  refine (gWords true Pm Po rfl rfl (sameL_self _) kR.out).mono ?_
  rintro e w20 ⟨rfl, hb⟩
  replace Pa := Pa.below hb
  replace Pb := Pb.below hb
  replace Lx := Lx.below hb
  replace Ly := Ly.below hb
  replace Pq := Pq.below hb
  replace Pr := Pr.below hb
  replace Pm := Pm.below hb
  replace Ls := Ls.below hb
  replace Lt := Lt.below hb
  replace Po := Po.below hb
  replace hB := below_then hB hb
  clear hb
  clear Po
  go_wp2_with fail
  clear Pq
  clear Pr
  clear Pm
  clear Ls
  clear Lt
  go_ret
  exact ⟨rfl, hB⟩
set_option maxRecDepth 100000 in
set_option maxHeartbeats 4000000 in
theorem tells_no (A B : Option Addr) (ca cb La Lb : Nat) (xs ys : List Nat) (X Y Q R G K : Nat) (w : World) (Pa : Pol w A ca xs) (Pb : Pol w B cb ys) (ha : Hid (xs.length = La)) (hb' : Hid (ys.length = Lb)) (sa : La ≤ 16) (sb : Lb ≤ 16) (la : La ≤ 20000) (lb : Lb ≤ 20000) (ka : La ≤ 50000) (kb : Lb ≤ 50000) (ja : La ≤ 10000) (jb : Lb ≤ 10000) (k0 : (K == 0) = false) (k1 : ((K : Int) == 0) = false) (bK : K ≤ 100000) (eX : Hid (leN xs = X)) (eY : Hid (leN ys = Y)) (eK : Hid ((bitsOf Y).length = K)) (h0 : Hid (leN ys ≠ 0)) (y0 : Hid (Y ≠ 0)) (eD : Hid (qt (leN xs) (leN ys) = Q ∧ rt (leN xs) (leN ys) = R)) (eD2 : Hid (qt X Y = Q ∧ rt X Y = R)) (nX : Hid (len X ≤ 30000)) (nY : Hid (len Y ≤ 30000)) (mX : Hid (len X ≤ 90000)) (mY : Hid (len Y ≤ 90000)) (bX : Hid ((bitsOf X).length ≤ 100000)) (g1 : Hid (gc (leN xs) (leN ys) ≠ 1)) (g2 : Hid (gc X Y ≠ 1)) (eG : Hid (gc (leN xs) (leN ys) = G)) (eG2 : Hid (gc X Y = G)) (kQ : Hid ((wordsOf Q).length ≤ 50000)) (kR : Hid ((wordsOf R).length ≤ 50000)) (kG : Hid ((wordsOf G).length ≤ 50000)) (bQ : Hid ((bitsOf Q).length ≤ 900000)) (bR : Hid ((bitsOf R).length ≤ 900000)) (bG : Hid ((bitsOf G).length ≤ 900000)) :
    Calls Try.prog 3 #[.slice A La ca, .slice B Lb cb] w (Bl true w) := by
  go_enter Try.func3, Try.ntmps3
  have hB : Below w.heap.size w w := Below.refl _ _
  go_wp2_with fail
  refine (awake3 _).mono ?_
  rintro e w1 ⟨rfl, hb⟩
  replace Pa := Pa.below hb
  replace Pb := Pb.below hb
  replace hB := below_then hB hb
  clear hb
  go_wp2_with fail
  refine (large2No A B La ca Lb cb sa sb _).mono ?_
  rintro e wL ⟨rfl, rfl⟩
  replace Pa := Pa.alloc (.cells #[.slice A La ca, .slice B Lb cb] 23)
  replace Pb := Pb.alloc (.cells #[.slice A La ca, .slice B Lb cb] 23)
  replace hB := below_alloc hB (.cells #[.slice A La ca, .slice B Lb cb] 23)
  generalize hVL : World.alloc _ _ = VL at Pa Pb hB ⊢
  clear hVL
  go_wp2_with fail
  refine (rParts X Pa ha.out eX.out ja).mono ?_
  rintro e w2 ⟨A2, c2, rfl, Lx, hb⟩
  replace Pa := Pa.below hb
  replace Pb := Pb.below hb
  replace hB := below_then hB hb
  clear hb
  go_wp2_with fail
  refine (rParts Y Pb hb'.out eY.out jb).mono ?_
  rintro e w3 ⟨A3, c3, rfl, Ly, hb⟩
  replace Pa := Pa.below hb
  replace Pb := Pb.below hb
  replace Lx := Lx.below hb
  replace hB := below_then hB hb
  clear hb
  rw [eK.out]
  go_wp2_with fail
  refine (cDiv2 Q R Pa Pb ha.out hb'.out ka kb h0.out eD.out).mono ?_
  rintro e w4 ⟨A4, B4, c4, d4, rfl, Pq, Pr, hb⟩
  replace Pa := Pa.below hb
  replace Pb := Pb.below hb
  replace Lx := Lx.below hb
  replace Ly := Ly.below hb
  replace hB := below_then hB hb
  clear hb
  go_wp2_with fail
  refine (gMod R Pa Pb ha.out hb'.out eD.out.2 ka kb h0.out).mono ?_
  rintro e w5 ⟨A5, c5, rfl, Pm, hb⟩
  replace Pa := Pa.below hb
  replace Pb := Pb.below hb
  replace Lx := Lx.below hb
  replace Ly := Ly.below hb
  replace Pq := Pq.below hb
  replace Pr := Pr.below hb
  replace hB := below_then hB hb
  clear hb
  go_wp2_with fail
  refine (gInvNo Pa Pb ha.out hb'.out la lb h0.out g1.out).mono ?_
  rintro e w6 ⟨rfl, hb⟩
  replace Pa := Pa.below hb
  replace Pb := Pb.below hb
  replace Lx := Lx.below hb
  replace Ly := Ly.below hb
  replace Pq := Pq.below hb
  replace Pr := Pr.below hb
  replace Pm := Pm.below hb
  replace hB := below_then hB hb
  clear hb
  go_wp2_with fail
  refine (rInvNo X Y Lx Ly rfl eK.out rfl rfl g2.out nX.out nY.out y0.out).mono ?_
  rintro e w7 ⟨rfl, hb⟩
  replace Pa := Pa.below hb
  replace Pb := Pb.below hb
  replace Lx := Lx.below hb
  replace Ly := Ly.below hb
  replace Pq := Pq.below hb
  replace Pr := Pr.below hb
  replace Pm := Pm.below hb
  replace hB := below_then hB hb
  clear hb
  go_wp2_with fail
  refine (rOf 0 (Lst.nil _ none 0 (by decide)) rfl rfl (by decide)).mono ?_
  rintro e w8 ⟨A8, c8, rfl, Po, hb⟩
  replace Pa := Pa.below hb
  replace Pb := Pb.below hb
  replace Lx := Lx.below hb
  replace Ly := Ly.below hb
  replace Pq := Pq.below hb
  replace Pr := Pr.below hb
  replace Pm := Pm.below hb
  replace hB := below_then hB hb
  clear hb
  go_wp2_with fail
  refine (gWords true (Pol.nil _ none 0 (by decide)) Po rfl rfl (by rw [wordsOf_zero]; rfl) (by decide)).mono ?_
  rintro e w9 ⟨rfl, hb⟩
  replace Pa := Pa.below hb
  replace Pb := Pb.below hb
  replace Lx := Lx.below hb
  replace Ly := Ly.below hb
  replace Pq := Pq.below hb
  replace Pr := Pr.below hb
  replace Pm := Pm.below hb
  replace Po := Po.below hb
  replace hB := below_then hB hb
  clear hb
  clear Po
  go_wp2_with fail
  refine (gGcd G Pa Pb ha.out hb'.out eG.out ka kb).mono ?_
  rintro e w10 ⟨A10, c10, rfl, Pg, hb⟩
  replace Pa := Pa.below hb
  replace Pb := Pb.below hb
  replace Lx := Lx.below hb
  replace Ly := Ly.below hb
  replace Pq := Pq.below hb
  replace Pr := Pr.below hb
  replace Pm := Pm.below hb
  replace hB := below_then hB hb
  clear hb
  go_wp2_with fail
  refine (rGcd X Y G Lx Ly rfl eK.out rfl rfl eG2.out mX.out mY.out).mono ?_
  rintro e w11 ⟨A11, c11, rfl, Lg, hb⟩
  replace Pa := Pa.below hb
  replace Pb := Pb.below hb
  replace Lx := Lx.below hb
  replace Ly := Ly.below hb
  replace Pq := Pq.below hb
  replace Pr := Pr.below hb
  replace Pm := Pm.below hb
  replace Pg := Pg.below hb
  replace hB := below_then hB hb
  clear hb
  go_wp2_with fail
  refine (rOf G Lg rfl (leB_bitsOf G) bG.out).mono ?_
  rintro e w12 ⟨A12, c12, rfl, Po, hb⟩
  replace Pa := Pa.below hb
  replace Pb := Pb.below hb
  replace Lx := Lx.below hb
  replace Ly := Ly.below hb
  replace Pq := Pq.below hb
  replace Pr := Pr.below hb
  replace Pm := Pm.below hb
  replace Pg := Pg.below hb
  replace Lg := Lg.below hb
  replace hB := below_then hB hb
  clear hb
  go_wp2_with fail
  refine (gWords true Pg Po rfl rfl (sameL_self _) kG.out).mono ?_
  rintro e w13 ⟨rfl, hb⟩
  replace Pa := Pa.below hb
  replace Pb := Pb.below hb
  replace Lx := Lx.below hb
  replace Ly := Ly.below hb
  replace Pq := Pq.below hb
  replace Pr := Pr.below hb
  replace Pm := Pm.below hb
  replace Pg := Pg.below hb
  replace Lg := Lg.below hb
  replace Po := Po.below hb
  replace hB := below_then hB hb
  clear hb
  clear Po
  go_wp2_with fail
  clear Pg
  clear Lg
  refine (rDiv2 Q R Lx Ly rfl eK.out (leB_bitsOf X) rfl bX.out bK y0.out eD2.out).mono ?_
  rintro e w14 ⟨A14, B14, c14, d14, rfl, Ls, Lt, hb⟩
  replace Pa := Pa.below hb
  replace Pb := Pb.below hb
  replace Lx := Lx.below hb
  replace Ly := Ly.below hb
  replace Pq := Pq.below hb
  replace Pr := Pr.below hb
  replace Pm := Pm.below hb
  replace hB := below_then hB hb
  clear hb
  go_wp2_with fail
  refine (rOf Q Ls rfl (leB_bitsOf Q) bQ.out).mono ?_
  rintro e w15 ⟨A15, c15, rfl, Po, hb⟩
  replace Pa := Pa.below hb
  replace Pb := Pb.below hb
  replace Lx := Lx.below hb
  replace Ly := Ly.below hb
  replace Pq := Pq.below hb
  replace Pr := Pr.below hb
  replace Pm := Pm.below hb
  replace Ls := Ls.below hb
  replace Lt := Lt.below hb
  replace hB := below_then hB hb
  clear hb
  go_wp2_with fail
  refine (gWords true Pq Po rfl rfl (sameL_self _) kQ.out).mono ?_
  rintro e w16 ⟨rfl, hb⟩
  replace Pa := Pa.below hb
  replace Pb := Pb.below hb
  replace Lx := Lx.below hb
  replace Ly := Ly.below hb
  replace Pq := Pq.below hb
  replace Pr := Pr.below hb
  replace Pm := Pm.below hb
  replace Ls := Ls.below hb
  replace Lt := Lt.below hb
  replace Po := Po.below hb
  replace hB := below_then hB hb
  clear hb
  clear Po
  go_wp2_with fail
  refine (rOf R Lt rfl (leB_bitsOf R) bR.out).mono ?_
  rintro e w17 ⟨A17, c17, rfl, Po, hb⟩
  replace Pa := Pa.below hb
  replace Pb := Pb.below hb
  replace Lx := Lx.below hb
  replace Ly := Ly.below hb
  replace Pq := Pq.below hb
  replace Pr := Pr.below hb
  replace Pm := Pm.below hb
  replace Ls := Ls.below hb
  replace Lt := Lt.below hb
  replace hB := below_then hB hb
  clear hb
  go_wp2_with fail
  refine (gWords true Pr Po rfl rfl (sameL_self _) kR.out).mono ?_
  rintro e w18 ⟨rfl, hb⟩
  replace Pa := Pa.below hb
  replace Pb := Pb.below hb
  replace Lx := Lx.below hb
  replace Ly := Ly.below hb
  replace Pq := Pq.below hb
  replace Pr := Pr.below hb
  replace Pm := Pm.below hb
  replace Ls := Ls.below hb
  replace Lt := Lt.below hb
  replace Po := Po.below hb
  replace hB := below_then hB hb
  clear hb
  clear Po
  go_wp2_with fail
  refine (rOf R Lt rfl (leB_bitsOf R) bR.out).mono ?_
  rintro e w19 ⟨A19, c19, rfl, Po, hb⟩
  replace Pa := Pa.below hb
  replace Pb := Pb.below hb
  replace Lx := Lx.below hb
  replace Ly := Ly.below hb
  replace Pq := Pq.below hb
  replace Pr := Pr.below hb
  replace Pm := Pm.below hb
  replace Ls := Ls.below hb
  replace Lt := Lt.below hb
  replace hB := below_then hB hb
  clear hb
  go_wp2_with fail
  refine (gWords true Pm Po rfl rfl (sameL_self _) kR.out).mono ?_
  rintro e w20 ⟨rfl, hb⟩
  replace Pa := Pa.below hb
  replace Pb := Pb.below hb
  replace Lx := Lx.below hb
  replace Ly := Ly.below hb
  replace Pq := Pq.below hb
  replace Pr := Pr.below hb
  replace Pm := Pm.below hb
  replace Ls := Ls.below hb
  replace Lt := Lt.below hb
  replace Po := Po.below hb
  replace hB := below_then hB hb
  clear hb
  clear Po
  go_wp2_with fail
  clear Pq
  clear Pr
  clear Pm
  clear Ls
  clear Lt
  go_ret
  exact ⟨rfl, hB⟩
set_option maxRecDepth 100000 in
set_option maxHeartbeats 4000000 in
theorem tells_large (A B : Option Addr) (ca cb La Lb : Nat) (w : World) (h : 16 < La ∨ 16 < Lb) :
    Calls Try.prog 3 #[.slice A La ca, .slice B Lb cb] w (Bl true w) := by
  go_enter Try.func3, Try.ntmps3
  have hB : Below w.heap.size w w := Below.refl _ _
  go_wp2_with fail
  refine (awake3 _).mono ?_
  rintro e w1 ⟨rfl, hb⟩
  replace hB := below_then hB hb
  clear hb
  go_wp2_with fail
  refine (large2Yes A B La ca Lb cb h _).mono ?_
  rintro e wL ⟨rfl, rfl⟩
  replace hB := below_alloc hB (.cells #[.slice A La ca, .slice B Lb cb] 23)
  generalize hVL : World.alloc _ _ = VL at hB ⊢
  clear hVL
  go_wp2_with fail
  go_ret
  exact ⟨rfl, hB⟩
theorem tellsWalk (A B : Option Addr) (ca cb La Lb : Nat) (xs ys : List Nat) (w : World) (Pa : Pol w A ca xs) (Pb : Pol w B cb ys) (ha : xs.length = La) (hb : ys.length = Lb) :
    Calls Try.prog 3 #[.slice A La ca, .slice B Lb cb] w (Bl true w) := by
  by_cases h : La ≤ 16 ∧ Lb ≤ 16
  · obtain ⟨sa, sb⟩ := h
    have lx := len_pol Pa ha
    have ly := len_pol Pb hb
    have gl := gc_lt (a := leN xs) (b := leN ys) (k := 64 * 16) (by omega) (by omega)
    by_cases h0 : leN ys = 0
    · rw [h0] at gl
      exact tells_z A B ca cb La Lb xs ys (leN xs) (gc (leN xs) 0) w Pa Pb (Lib.hid ha) (Lib.hid hb) sa sb (by omega) (by omega) (by omega) (by omega) (by omega) (by omega) (Lib.hid rfl) (Lib.hid h0) (Lib.hid (by rw [h0])) (Lib.hid rfl) (Lib.hid (by omega)) (wlk (by omega)) (Lib.hid (by rw [bitsOf_len]; omega))
    · have p := len_pos h0
      have kl := bitsOf_len (leN ys)
      have kx := bitsOf_len (leN xs)
      have r1 := rt_lt (a := leN xs) h0
      have q1 := qt_lt (a := leN xs) h0 lx
      have one : len 1 = 1 := rfl
      obtain ⟨K, hK⟩ : ∃ K, (bitsOf (leN ys)).length = K := ⟨_, rfl⟩
      have kp : K ≠ 0 := by omega
      have k0 : (K == 0) = false := by simpa using kp
      have k1 : ((K : Int) == 0) = false := by simp; omega
      by_cases g1 : gc (leN xs) (leN ys) = 1
      · obtain ⟨i1, i2⟩ := iv_facts h0 g1
        exact tells_ok A B ca cb La Lb xs ys (leN xs) (leN ys) _ _ _ K w Pa Pb (Lib.hid ha) (Lib.hid hb) sa sb (by omega) (by omega) (by omega) (by omega) (by omega) (by omega) k0 k1 (by omega)
          (Lib.hid rfl) (Lib.hid rfl) (Lib.hid hK) (Lib.hid h0) (Lib.hid h0) (Lib.hid ⟨rfl, rfl⟩) (Lib.hid ⟨rfl, rfl⟩) (Lib.hid (by omega)) (Lib.hid (by omega)) (Lib.hid (by omega)) (Lib.hid (by omega)) (Lib.hid (by omega))
          (Lib.hid g1) (Lib.hid g1) (Lib.hid rfl) (Lib.hid rfl) (wlk (by omega)) (wlk (by omega)) (wlk (by omega)) (wlk (by omega)) (Lib.hid (by rw [bitsOf_len]; omega)) (Lib.hid (by rw [bitsOf_len]; omega)) (Lib.hid (by rw [bitsOf_len]; omega)) (Lib.hid (by rw [bitsOf_len]; omega))
      · exact tells_no A B ca cb La Lb xs ys (leN xs) (leN ys) _ _ _ K w Pa Pb (Lib.hid ha) (Lib.hid hb) sa sb (by omega) (by omega) (by omega) (by omega) (by omega) (by omega) k0 k1 (by omega)
          (Lib.hid rfl) (Lib.hid rfl) (Lib.hid hK) (Lib.hid h0) (Lib.hid h0) (Lib.hid ⟨rfl, rfl⟩) (Lib.hid ⟨rfl, rfl⟩) (Lib.hid (by omega)) (Lib.hid (by omega)) (Lib.hid (by omega)) (Lib.hid (by omega)) (Lib.hid (by omega))
          (Lib.hid g1) (Lib.hid g1) (Lib.hid rfl) (Lib.hid rfl) (wlk (by omega)) (wlk (by omega)) (wlk (by omega)) (Lib.hid (by rw [bitsOf_len]; omega)) (Lib.hid (by rw [bitsOf_len]; omega)) (Lib.hid (by rw [bitsOf_len]; omega))
  · exact tells_large A B ca cb La Lb w (by omega)
end Go.Proofs.Ytkfebhfbdhdibaa
