/-
  GfdivBack of layer 3 answers true for every three polynomials. Made by wip/gen/gfdlaws.py.
-/
import Derived.Test.YtkfebhfbdhdibaaGfdK
namespace Go.Proofs.Ytkfebhfbdhdibaa
open Go.RowKit G
set_option linter.unusedVariables false

set_option maxRecDepth 100000 in
set_option maxHeartbeats 4000000 in
theorem backSmall (A B C : Option Addr) (ca cb cc La Lb Lc : Nat) (xs ys zs : List Nat) (X Q R M T N U m : Nat) (dr : Int) (w : World) (Pa : Pol w A ca xs) (Pb : Pol w B cb ys) (Pc : Pol w C cc zs) (ha : Hid (xs.length = La)) (hb' : Hid (ys.length = Lb)) (hc : Hid (zs.length = Lc)) (sa : La ≤ 6) (sb : Lb ≤ 6) (sc : Lc ≤ 6) (la : La ≤ 20000) (lb : Lb ≤ 20000) (lc : Lc ≤ 20000) (ka : La ≤ 50000) (kb : Lb ≤ 50000) (kc : Lc ≤ 50000) (bm : m ≤ 1000) (hlt : dr < (m : Int)) (hlt2 : decide ((m : Int) ≤ dr) = false) (eX : Hid (leN xs = X)) (h0 : Hid (leN ys ≠ 0)) (dY : Hid (((len (leN ys) : Nat) : Int) - 1 = (m : Int))) (eQR : Hid (qt (leN xs) (leN ys) = Q ∧ rt (leN xs) (leN ys) = R)) (dR : Hid (((len R : Nat) : Int) - 1 = dr)) (eM : Hid (clm Q (leN ys) = M)) (eS : Hid (M ^^^ R = X)) (eT : Hid (rt (leN zs) (leN ys) = T)) (eN : Hid (clm (leN xs) (leN ys) = N)) (eU : Hid (N ^^^ T = U)) (eV : Hid (qt U (leN ys) = X ∧ rt U (leN ys) = T)) (lX : Hid ((wordsOf X).length ≤ 20000)) (lQ : Hid ((wordsOf Q).length ≤ 20000)) (lR : Hid ((wordsOf R).length ≤ 20000)) (lM : Hid ((wordsOf M).length ≤ 20000)) (lT : Hid ((wordsOf T).length ≤ 20000)) (lN : Hid ((wordsOf N).length ≤ 20000)) (lU : Hid ((wordsOf U).length ≤ 20000)) (kX : Hid ((wordsOf X).length ≤ 50000)) (kQ : Hid ((wordsOf Q).length ≤ 50000)) (kR : Hid ((wordsOf R).length ≤ 50000)) (kM : Hid ((wordsOf M).length ≤ 50000)) (kT : Hid ((wordsOf T).length ≤ 50000)) (kN : Hid ((wordsOf N).length ≤ 50000)) (kU : Hid ((wordsOf U).length ≤ 50000)) :
    Calls Try.prog 4 #[.slice A La ca, .slice B Lb cb, .slice C Lc cc] w (Bl true w) := by
  go_enter Try.func4, Try.ntmps4
  have hB : Below w.heap.size w w := Below.refl _ _
  go_wp2_with fail
  refine (awake3 _).mono ?_
  rintro e w1 ⟨rfl, hb⟩
  replace Pa := Pa.below hb
  replace Pb := Pb.below hb
  replace Pc := Pc.below hb
  replace hB := below_then hB hb
  clear hb
  go_wp2_with fail
  refine (gDeg (m : Int) Pb hb'.out dY.out kb).mono ?_
  rintro e w2 ⟨rfl, rfl⟩
  go_wp2_with fail
  refine (cDiv2 Q R Pa Pb ha.out hb'.out ka kb h0.out eQR.out).mono ?_
  rintro e w3 ⟨A3, B3, c3, d3, rfl, Pq, Pr, hb⟩
  replace Pa := Pa.below hb
  replace Pb := Pb.below hb
  replace Pc := Pc.below hb
  replace hB := below_then hB hb
  clear hb
  go_wp2_with fail
  refine (gDeg dr Pr rfl (by rw [leN_wordsOf]; exact dR.out) kR.out).mono ?_
  rintro e w4 ⟨rfl, rfl⟩
  go_wp2_with fail
  refine (gDeg (m : Int) Pb hb'.out dY.out kb).mono ?_
  rintro e w5 ⟨rfl, rfl⟩
  go_wp2_with fail
  refine (gMul M Pq Pb rfl hb'.out (by rw [leN_wordsOf]; exact eM.out) kQ.out kb).mono ?_
  rintro e w6 ⟨A6, c6, rfl, P1, hb⟩
  replace Pa := Pa.below hb
  replace Pb := Pb.below hb
  replace Pc := Pc.below hb
  replace Pq := Pq.below hb
  replace Pr := Pr.below hb
  replace hB := below_then hB hb
  clear hb
  clear Pq
  go_wp2_with fail
  refine (gAdd X P1 Pr rfl rfl (by rw [leN_wordsOf, leN_wordsOf]; exact eS.out) kM.out kR.out).mono ?_
  rintro e w7 ⟨A7, c7, rfl, P2, hb⟩
  replace Pa := Pa.below hb
  replace Pb := Pb.below hb
  replace Pc := Pc.below hb
  replace Pr := Pr.below hb
  replace P1 := P1.below hb
  replace hB := below_then hB hb
  clear hb
  clear P1
  clear Pr
  go_wp2_with fail
  refine (gSame true P2 Pa rfl ha.out (by rw [leN_wordsOf, eX.out]; exact sameN_self _) kX.out).mono ?_
  rintro e w8 ⟨rfl, hb⟩
  replace Pa := Pa.below hb
  replace Pb := Pb.below hb
  replace Pc := Pc.below hb
  replace P2 := P2.below hb
  replace hB := below_then hB hb
  clear hb
  clear P2
  go_wp2_with fail
  refine (gMod T Pc Pb hc.out hb'.out eT.out kc kb h0.out).mono ?_
  rintro e w9 ⟨A9, c9, rfl, P3, hb⟩
  replace Pa := Pa.below hb
  replace Pb := Pb.below hb
  replace Pc := Pc.below hb
  replace hB := below_then hB hb
  clear hb
  go_wp2_with fail
  refine (gMul N Pa Pb ha.out hb'.out eN.out ka kb).mono ?_
  rintro e w10 ⟨A10, c10, rfl, P4, hb⟩
  replace Pa := Pa.below hb
  replace Pb := Pb.below hb
  replace Pc := Pc.below hb
  replace P3 := P3.below hb
  replace hB := below_then hB hb
  clear hb
  go_wp2_with fail
  refine (gAdd U P4 P3 rfl rfl (by rw [leN_wordsOf, leN_wordsOf]; exact eU.out) kN.out kT.out).mono ?_
  rintro e w11 ⟨A11, c11, rfl, P5, hb⟩
  replace Pa := Pa.below hb
  replace Pb := Pb.below hb
  replace Pc := Pc.below hb
  replace P3 := P3.below hb
  replace P4 := P4.below hb
  replace hB := below_then hB hb
  clear hb
  clear P4
  go_wp2_with fail
  refine (cDiv2 X T P5 Pb rfl hb'.out kU.out kb h0.out (by rw [leN_wordsOf]; exact eV.out)).mono ?_
  rintro e w12 ⟨A12, B12, c12, d12, rfl, P6, P7, hb⟩
  replace Pa := Pa.below hb
  replace Pb := Pb.below hb
  replace Pc := Pc.below hb
  replace P3 := P3.below hb
  replace P5 := P5.below hb
  replace hB := below_then hB hb
  clear hb
  clear P5
  go_wp2_with fail
  refine (gSame true P6 Pa rfl ha.out (by rw [leN_wordsOf, eX.out]; exact sameN_self _) kX.out).mono ?_
  rintro e w13 ⟨rfl, hb⟩
  replace Pa := Pa.below hb
  replace Pb := Pb.below hb
  replace Pc := Pc.below hb
  replace P3 := P3.below hb
  replace P6 := P6.below hb
  replace P7 := P7.below hb
  replace hB := below_then hB hb
  clear hb
  clear P6
  go_wp2_with fail
  refine (gSame true P7 P3 rfl rfl (sameN_self _) kT.out).mono ?_
  rintro e w14 ⟨rfl, hb⟩
  replace Pa := Pa.below hb
  replace Pb := Pb.below hb
  replace Pc := Pc.below hb
  replace P3 := P3.below hb
  replace P7 := P7.below hb
  replace hB := below_then hB hb
  clear hb
  clear P7
  clear P3
  go_wp2_with fail
  go_ret
  exact ⟨rfl, hB⟩
set_option maxRecDepth 100000 in
set_option maxHeartbeats 4000000 in
theorem backZero (A B C : Option Addr) (ca cb cc La Lb Lc : Nat) (xs ys zs : List Nat) (w : World) (Pa : Pol w A ca xs) (Pb : Pol w B cb ys) (Pc : Pol w C cc zs) (ha : Hid (xs.length = La)) (hb' : Hid (ys.length = Lb)) (hc : Hid (zs.length = Lc)) (sa : La ≤ 6) (sb : Lb ≤ 6) (sc : Lc ≤ 6) (la : La ≤ 20000) (lb : Lb ≤ 20000) (lc : Lc ≤ 20000) (ka : La ≤ 50000) (kb : Lb ≤ 50000) (kc : Lc ≤ 50000) (dY : Hid (((len (leN ys) : Nat) : Int) - 1 = -1)) :
    Calls Try.prog 4 #[.slice A La ca, .slice B Lb cb, .slice C Lc cc] w (Bl true w) := by
  go_enter Try.func4, Try.ntmps4
  have hB : Below w.heap.size w w := Below.refl _ _
  go_wp2_with fail
  refine (awake3 _).mono ?_
  rintro e w1 ⟨rfl, hb⟩
  replace Pa := Pa.below hb
  replace Pb := Pb.below hb
  replace Pc := Pc.below hb
  replace hB := below_then hB hb
  clear hb
  go_wp2_with fail
  refine (gDeg (-1) Pb hb'.out dY.out kb).mono ?_
  rintro e w2 ⟨rfl, rfl⟩
  go_wp2_with fail
  go_ret
  exact ⟨rfl, hB⟩
set_option maxRecDepth 100000 in
set_option maxHeartbeats 4000000 in
theorem backLarge (A B C : Option Addr) (ca cb cc La Lb Lc : Nat) (w : World) (h : 6 < La ∨ 6 < Lb ∨ 6 < Lc) :
    Calls Try.prog 4 #[.slice A La ca, .slice B Lb cb, .slice C Lc cc] w (Bl true w) := by
  by_cases h1 : 6 < La
  · go_enter Try.func4, Try.ntmps4
    go_wp2_with fail
    refine (awake3 _).mono ?_
    rintro e w1 ⟨rfl, hb⟩
    go_wp2_with fail
    go_ret
    exact ⟨rfl, hb⟩
  · by_cases h2 : 6 < Lb
    · go_enter Try.func4, Try.ntmps4
      go_wp2_with fail
      refine (awake3 _).mono ?_
      rintro e w1 ⟨rfl, hb⟩
      go_wp2_with fail
      go_ret
      exact ⟨rfl, hb⟩
    · have h3 : 6 < Lc := by omega
      clear h
      go_enter Try.func4, Try.ntmps4
      go_wp2_with fail
      refine (awake3 _).mono ?_
      rintro e w1 ⟨rfl, hb⟩
      go_wp2_with fail
      go_ret
      exact ⟨rfl, hb⟩
theorem backWalk (A B C : Option Addr) (ca cb cc La Lb Lc : Nat) (xs ys zs : List Nat) (w : World) (Pa : Pol w A ca xs) (Pb : Pol w B cb ys) (Pc : Pol w C cc zs) (ha : xs.length = La) (hb : ys.length = Lb) (hc : zs.length = Lc) :
    Calls Try.prog 4 #[.slice A La ca, .slice B Lb cb, .slice C Lc cc] w (Bl true w) := by
  by_cases h : La ≤ 6 ∧ Lb ≤ 6 ∧ Lc ≤ 6
  · obtain ⟨sa, sb, sc⟩ := h
    by_cases h0 : leN ys = 0
    · exact backZero A B C ca cb cc La Lb Lc xs ys zs w Pa Pb Pc (Lib.hid ha) (Lib.hid hb) (Lib.hid hc) sa sb sc (by omega) (by omega) (by omega) (by omega) (by omega) (by omega) (Lib.hid (by rw [h0]; rfl))
    · have lx := len_pol Pa ha
      have ly := len_pol Pb hb
      have p := len_pos h0
      have e := qr (a := leN xs) h0
      have r1 := rt_lt (a := leN xs) h0
      have r2 := rt_lt (a := leN zs) h0
      have q1 := qt_lt (a := leN xs) h0 lx
      have m1 := len_clm_le (leN xs) (leN ys)
      have m2 := len_clm_le (qt (leN xs) (leN ys)) (leN ys)
      have u1 := len_xor_le (clm (leN xs) (leN ys)) (rt (leN zs) (leN ys)) (64 * 20) (by omega) (by omega)
      obtain ⟨c1, c2⟩ := qr_of (a := clm (leN xs) (leN ys) ^^^ rt (leN zs) (leN ys)) h0 rfl r2
      exact backSmall A B C ca cb cc La Lb Lc xs ys zs _ _ _ _ _ _ _ (len (leN ys) - 1) _ w Pa Pb Pc (Lib.hid ha) (Lib.hid hb) (Lib.hid hc) sa sb sc (by omega) (by omega) (by omega) (by omega) (by omega) (by omega) (by omega) (by omega) (by simp; omega)
        (Lib.hid rfl) (Lib.hid h0) (Lib.hid (by omega)) (Lib.hid ⟨rfl, rfl⟩) (Lib.hid rfl) (Lib.hid rfl) (Lib.hid e) (Lib.hid rfl) (Lib.hid rfl) (Lib.hid rfl) (Lib.hid ⟨c1, c2⟩)
        (wlh (by omega)) (wlh (by omega)) (wlh (by omega)) (wlh (by omega)) (wlh (by omega)) (wlh (by omega)) (wlh u1)
        (wlk (by omega)) (wlk (by omega)) (wlk (by omega)) (wlk (by omega)) (wlk (by omega)) (wlk (by omega)) (wlk u1)
  · exact backLarge A B C ca cb cc La Lb Lc w (by omega)
end Go.Proofs.Ytkfebhfbdhdibaa
