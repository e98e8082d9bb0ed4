/-
  GfdivGcd of layer 3 answers true for every three polynomials. Made by wip/gen/gfdlaws.py.
-/
import Derived.Test.YtkfebhfbdhdibaaGfdK
namespace Go.Proofs.Ytkfebhfbdhdibaa
open Go.RowKit G
set_option linter.unusedVariables false

set_option maxRecDepth 100000 in
set_option maxHeartbeats 4000000 in
theorem gcd_a (A B C : Option Addr) (ca cb cc La Lb Lc : Nat) (xs ys zs : List Nat) (G M N Q m : Nat) (w : World) (Pa : Pol w A ca xs) (Pb : Pol w B cb ys) (Pc : Pol w C cc zs) (ha : Hid (xs.length = La)) (hb' : Hid (ys.length = Lb)) (hc : Hid (zs.length = Lc)) (sa : La ≤ 6) (sb : Lb ≤ 6) (sc : Lc ≤ 6) (la : La ≤ 20000) (lb : Lb ≤ 20000) (lc : Lc ≤ 20000) (ka : La ≤ 50000) (kb : Lb ≤ 50000) (kc : Lc ≤ 50000) (bm : m ≤ 1000) (dX : Hid (((len (leN xs) : Nat) : Int) - 1 = (m : Int))) (eG : Hid (gc (leN xs) (leN ys) = G)) (g0 : Hid (G ≠ 0)) (eG2 : Hid (gc (leN ys) (leN xs) = G)) (eA : Hid (rt (leN xs) G = 0)) (eB : Hid (rt (leN ys) G = 0)) (eM : Hid (clm (leN xs) (leN zs) = M)) (eN : Hid (clm (leN ys) (leN zs) = N)) (eQ : Hid (gc M N = Q)) (eQ2 : Hid (clm G (leN zs) = Q)) (lG : Hid ((wordsOf G).length ≤ 20000)) (lM : Hid ((wordsOf M).length ≤ 20000)) (lN : Hid ((wordsOf N).length ≤ 20000)) (lQ : Hid ((wordsOf Q).length ≤ 20000)) (kG : Hid ((wordsOf G).length ≤ 50000)) (kM : Hid ((wordsOf M).length ≤ 50000)) (kN : Hid ((wordsOf N).length ≤ 50000)) (kQ : Hid ((wordsOf Q).length ≤ 50000)) :
    Calls Try.prog 5 #[.slice A La ca, .slice B Lb cb, .slice C Lc cc] w (Bl true w) := by
  go_enter Try.func5, Try.ntmps5
  have hB : Below w.heap.size w w := Below.refl _ _
  go_wp2_with fail
  refine (awake3 _).mono ?_
  rintro e w1 ⟨rfl, hb⟩
  replace Pa := Pa.below hb
  replace Pb := Pb.below hb
  replace Pc := Pc.below hb
  replace hB := below_then hB hb
  clear hb
  go_wp2_with fail
  refine (gGcd G Pa Pb ha.out hb'.out eG.out ka kb).mono ?_
  rintro e w2 ⟨A2, c2, rfl, Pg, hb⟩
  replace Pa := Pa.below hb
  replace Pb := Pb.below hb
  replace Pc := Pc.below hb
  replace hB := below_then hB hb
  clear hb
  go_wp2_with fail
  refine (gDeg (m : Int) Pa ha.out dX.out ka).mono ?_
  rintro e w3 ⟨rfl, rfl⟩
  go_wp2_with fail
  refine (Calls.mono (gMod 0 Pa Pg ha.out rfl (by rw [leN_wordsOf]; exact eA.out) ka kG.out (by rw [leN_wordsOf]; exact g0.out)) (fun _ _ h => ansE0 h)).mono ?_
  rintro e w4 ⟨A4, c4, rfl, hb⟩
  replace Pa := Pa.below hb
  replace Pb := Pb.below hb
  replace Pc := Pc.below hb
  replace Pg := Pg.below hb
  replace hB := below_then hB hb
  clear hb
  go_wp2_with fail
  refine (Calls.mono (gMod 0 Pb Pg hb'.out rfl (by rw [leN_wordsOf]; exact eB.out) kb kG.out (by rw [leN_wordsOf]; exact g0.out)) (fun _ _ h => ansE0 h)).mono ?_
  rintro e w5 ⟨A5, c5, rfl, hb⟩
  replace Pa := Pa.below hb
  replace Pb := Pb.below hb
  replace Pc := Pc.below hb
  replace Pg := Pg.below hb
  replace hB := below_then hB hb
  clear hb
  go_wp2_with fail
  refine (gMul M Pa Pc ha.out hc.out eM.out ka kc).mono ?_
  rintro e w6 ⟨A6, c6, rfl, P1, hb⟩
  replace Pa := Pa.below hb
  replace Pb := Pb.below hb
  replace Pc := Pc.below hb
  replace Pg := Pg.below hb
  replace hB := below_then hB hb
  clear hb
  go_wp2_with fail
  refine (gMul N Pb Pc hb'.out hc.out eN.out kb kc).mono ?_
  rintro e w7 ⟨A7, c7, rfl, P2, hb⟩
  replace Pa := Pa.below hb
  replace Pb := Pb.below hb
  replace Pc := Pc.below hb
  replace Pg := Pg.below hb
  replace P1 := P1.below hb
  replace hB := below_then hB hb
  clear hb
  go_wp2_with fail
  refine (gGcd Q P1 P2 rfl rfl (by rw [leN_wordsOf, leN_wordsOf]; exact eQ.out) kM.out kN.out).mono ?_
  rintro e w8 ⟨A8, c8, rfl, P3, hb⟩
  replace Pa := Pa.below hb
  replace Pb := Pb.below hb
  replace Pc := Pc.below hb
  replace Pg := Pg.below hb
  replace P1 := P1.below hb
  replace P2 := P2.below hb
  replace hB := below_then hB hb
  clear hb
  clear P1
  clear P2
  go_wp2_with fail
  refine (gGcd G Pb Pa hb'.out ha.out eG2.out kb ka).mono ?_
  rintro e w9 ⟨A9, c9, rfl, P4, hb⟩
  replace Pa := Pa.below hb
  replace Pb := Pb.below hb
  replace Pc := Pc.below hb
  replace Pg := Pg.below hb
  replace P3 := P3.below hb
  replace hB := below_then hB hb
  clear hb
  go_wp2_with fail
  refine (gSame true Pg P4 rfl rfl (sameN_self _) kG.out).mono ?_
  rintro e w10 ⟨rfl, hb⟩
  replace Pa := Pa.below hb
  replace Pb := Pb.below hb
  replace Pc := Pc.below hb
  replace Pg := Pg.below hb
  replace P3 := P3.below hb
  replace P4 := P4.below hb
  replace hB := below_then hB hb
  clear hb
  clear P4
  go_wp2_with fail
  refine (gMul Q Pg Pc rfl hc.out (by rw [leN_wordsOf]; exact eQ2.out) kG.out kc).mono ?_
  rintro e w11 ⟨A11, c11, rfl, P5, hb⟩
  replace Pa := Pa.below hb
  replace Pb := Pb.below hb
  replace Pc := Pc.below hb
  replace Pg := Pg.below hb
  replace P3 := P3.below hb
  replace hB := below_then hB hb
  clear hb
  clear Pg
  go_wp2_with fail
  refine (gSame true P3 P5 rfl rfl (sameN_self _) kQ.out).mono ?_
  rintro e w12 ⟨rfl, hb⟩
  replace Pa := Pa.below hb
  replace Pb := Pb.below hb
  replace Pc := Pc.below hb
  replace P3 := P3.below hb
  replace P5 := P5.below hb
  replace hB := below_then hB hb
  clear hb
  clear P3
  clear P5
  go_wp2_with fail
  go_ret
  exact ⟨rfl, hB⟩
set_option maxRecDepth 100000 in
set_option maxHeartbeats 4000000 in
theorem gcd_b (A B C : Option Addr) (ca cb cc La Lb Lc : Nat) (xs ys zs : List Nat) (G M N Q m : Nat) (w : World) (Pa : Pol w A ca xs) (Pb : Pol w B cb ys) (Pc : Pol w C cc zs) (ha : Hid (xs.length = La)) (hb' : Hid (ys.length = Lb)) (hc : Hid (zs.length = Lc)) (sa : La ≤ 6) (sb : Lb ≤ 6) (sc : Lc ≤ 6) (la : La ≤ 20000) (lb : Lb ≤ 20000) (lc : Lc ≤ 20000) (ka : La ≤ 50000) (kb : Lb ≤ 50000) (kc : Lc ≤ 50000) (bm : m ≤ 1000) (dX : Hid (((len (leN xs) : Nat) : Int) - 1 = -1)) (dY : Hid (((len (leN ys) : Nat) : Int) - 1 = (m : Int))) (eG : Hid (gc (leN xs) (leN ys) = G)) (g0 : Hid (G ≠ 0)) (eG2 : Hid (gc (leN ys) (leN xs) = G)) (eA : Hid (rt (leN xs) G = 0)) (eB : Hid (rt (leN ys) G = 0)) (eM : Hid (clm (leN xs) (leN zs) = M)) (eN : Hid (clm (leN ys) (leN zs) = N)) (eQ : Hid (gc M N = Q)) (eQ2 : Hid (clm G (leN zs) = Q)) (lG : Hid ((wordsOf G).length ≤ 20000)) (lM : Hid ((wordsOf M).length ≤ 20000)) (lN : Hid ((wordsOf N).length ≤ 20000)) (lQ : Hid ((wordsOf Q).length ≤ 20000)) (kG : Hid ((wordsOf G).length ≤ 50000)) (kM : Hid ((wordsOf M).length ≤ 50000)) (kN : Hid ((wordsOf N).length ≤ 50000)) (kQ : Hid ((wordsOf Q).length ≤ 50000)) :
    Calls Try.prog 5 #[.slice A La ca, .slice B Lb cb, .slice C Lc cc] w (Bl true w) := by
  go_enter Try.func5, Try.ntmps5
  have hB : Below w.heap.size w w := Below.refl _ _
  go_wp2_with fail
  refine (awake3 _).mono ?_
  rintro e w1 ⟨rfl, hb⟩
  replace Pa := Pa.below hb
  replace Pb := Pb.below hb
  replace Pc := Pc.below hb
  replace hB := below_then hB hb
  clear hb
  go_wp2_with fail
  refine (gGcd G Pa Pb ha.out hb'.out eG.out ka kb).mono ?_
  rintro e w2 ⟨A2, c2, rfl, Pg, hb⟩
  replace Pa := Pa.below hb
  replace Pb := Pb.below hb
  replace Pc := Pc.below hb
  replace hB := below_then hB hb
  clear hb
  go_wp2_with fail
  refine (gDeg (-1) Pa ha.out dX.out ka).mono ?_
  rintro e w3 ⟨rfl, rfl⟩
  go_wp2_with fail
  refine (gDeg (m : Int) Pb hb'.out dY.out kb).mono ?_
  rintro e w4 ⟨rfl, rfl⟩
  go_wp2_with fail
  refine (Calls.mono (gMod 0 Pa Pg ha.out rfl (by rw [leN_wordsOf]; exact eA.out) ka kG.out (by rw [leN_wordsOf]; exact g0.out)) (fun _ _ h => ansE0 h)).mono ?_
  rintro e w5 ⟨A5, c5, rfl, hb⟩
  replace Pa := Pa.below hb
  replace Pb := Pb.below hb
  replace Pc := Pc.below hb
  replace Pg := Pg.below hb
  replace hB := below_then hB hb
  clear hb
  go_wp2_with fail
  refine (Calls.mono (gMod 0 Pb Pg hb'.out rfl (by rw [leN_wordsOf]; exact eB.out) kb kG.out (by rw [leN_wordsOf]; exact g0.out)) (fun _ _ h => ansE0 h)).mono ?_
  rintro e w6 ⟨A6, c6, rfl, hb⟩
  replace Pa := Pa.below hb
  replace Pb := Pb.below hb
  replace Pc := Pc.below hb
  replace Pg := Pg.below hb
  replace hB := below_then hB hb
  clear hb
  go_wp2_with fail
  refine (gMul M Pa Pc ha.out hc.out eM.out ka kc).mono ?_
  rintro e w7 ⟨A7, c7, rfl, P1, hb⟩
  replace Pa := Pa.below hb
  replace Pb := Pb.below hb
  replace Pc := Pc.below hb
  replace Pg := Pg.below hb
  replace hB := below_then hB hb
  clear hb
  go_wp2_with fail
  refine (gMul N Pb Pc hb'.out hc.out eN.out kb kc).mono ?_
  rintro e w8 ⟨A8, c8, rfl, P2, hb⟩
  replace Pa := Pa.below hb
  replace Pb := Pb.below hb
  replace Pc := Pc.below hb
  replace Pg := Pg.below hb
  replace P1 := P1.below hb
  replace hB := below_then hB hb
  clear hb
  go_wp2_with fail
  refine (gGcd Q P1 P2 rfl rfl (by rw [leN_wordsOf, leN_wordsOf]; exact eQ.out) kM.out kN.out).mono ?_
  rintro e w9 ⟨A9, c9, rfl, P3, hb⟩
  replace Pa := Pa.below hb
  replace Pb := Pb.below hb
  replace Pc := Pc.below hb
  replace Pg := Pg.below hb
  replace P1 := P1.below hb
  replace P2 := P2.below hb
  replace hB := below_then hB hb
  clear hb
  clear P1
  clear P2
  go_wp2_with fail
  refine (gGcd G Pb Pa hb'.out ha.out eG2.out kb ka).mono ?_
  rintro e w10 ⟨A10, c10, rfl, P4, hb⟩
  replace Pa := Pa.below hb
  replace Pb := Pb.below hb
  replace Pc := Pc.below hb
  replace Pg := Pg.below hb
  replace P3 := P3.below hb
  replace hB := below_then hB hb
  clear hb
  go_wp2_with fail
  refine (gSame true Pg P4 rfl rfl (sameN_self _) kG.out).mono ?_
  rintro e w11 ⟨rfl, hb⟩
  replace Pa := Pa.below hb
  replace Pb := Pb.below hb
  replace Pc := Pc.below hb
  replace Pg := Pg.below hb
  replace P3 := P3.below hb
  replace P4 := P4.below hb
  replace hB := below_then hB hb
  clear hb
  clear P4
  go_wp2_with fail
  refine (gMul Q Pg Pc rfl hc.out (by rw [leN_wordsOf]; exact eQ2.out) kG.out kc).mono ?_
  rintro e w12 ⟨A12, c12, rfl, P5, hb⟩
  replace Pa := Pa.below hb
  replace Pb := Pb.below hb
  replace Pc := Pc.below hb
  replace Pg := Pg.below hb
  replace P3 := P3.below hb
  replace hB := below_then hB hb
  clear hb
  clear Pg
  go_wp2_with fail
  refine (gSame true P3 P5 rfl rfl (sameN_self _) kQ.out).mono ?_
  rintro e w13 ⟨rfl, hb⟩
  replace Pa := Pa.below hb
  replace Pb := Pb.below hb
  replace Pc := Pc.below hb
  replace P3 := P3.below hb
  replace P5 := P5.below hb
  replace hB := below_then hB hb
  clear hb
  clear P3
  clear P5
  go_wp2_with fail
  go_ret
  exact ⟨rfl, hB⟩
set_option maxRecDepth 100000 in
set_option maxHeartbeats 4000000 in
theorem gcd_z (A B C : Option Addr) (ca cb cc La Lb Lc : Nat) (xs ys zs : List Nat) (w : World) (Pa : Pol w A ca xs) (Pb : Pol w B cb ys) (Pc : Pol w C cc zs) (ha : Hid (xs.length = La)) (hb' : Hid (ys.length = Lb)) (hc : Hid (zs.length = Lc)) (sa : La ≤ 6) (sb : Lb ≤ 6) (sc : Lc ≤ 6) (la : La ≤ 20000) (lb : Lb ≤ 20000) (lc : Lc ≤ 20000) (ka : La ≤ 50000) (kb : Lb ≤ 50000) (kc : Lc ≤ 50000) (eG : Hid (gc (leN xs) (leN ys) = 0)) (dX : Hid (((len (leN xs) : Nat) : Int) - 1 = -1)) (dY : Hid (((len (leN ys) : Nat) : Int) - 1 = -1)) :
    Calls Try.prog 5 #[.slice A La ca, .slice B Lb cb, .slice C Lc cc] w (Bl true w) := by
  go_enter Try.func5, Try.ntmps5
  have hB : Below w.heap.size w w := Below.refl _ _
  go_wp2_with fail
  refine (awake3 _).mono ?_
  rintro e w1 ⟨rfl, hb⟩
  replace Pa := Pa.below hb
  replace Pb := Pb.below hb
  replace Pc := Pc.below hb
  replace hB := below_then hB hb
  clear hb
  go_wp2_with fail
  refine (Calls.mono (gGcd 0 Pa Pb ha.out hb'.out eG.out ka kb) (fun _ _ h => ans0 h)).mono ?_
  rintro e w2 ⟨A2, c2, rfl, hb⟩
  replace Pa := Pa.below hb
  replace Pb := Pb.below hb
  replace Pc := Pc.below hb
  replace hB := below_then hB hb
  clear hb
  go_wp2_with fail
  refine (gDeg (-1) Pa ha.out dX.out ka).mono ?_
  rintro e w3 ⟨rfl, rfl⟩
  go_wp2_with fail
  refine (gDeg (-1) Pb hb'.out dY.out kb).mono ?_
  rintro e w4 ⟨rfl, rfl⟩
  go_wp2_with fail
  go_ret
  exact ⟨rfl, hB⟩
set_option maxRecDepth 100000 in
set_option maxHeartbeats 4000000 in
theorem gcdLarge (A B C : Option Addr) (ca cb cc La Lb Lc : Nat) (w : World) (h : 6 < La ∨ 6 < Lb ∨ 6 < Lc) :
    Calls Try.prog 5 #[.slice A La ca, .slice B Lb cb, .slice C Lc cc] w (Bl true w) := by
  by_cases h1 : 6 < La
  · go_enter Try.func5, Try.ntmps5
    go_wp2_with fail
    refine (awake3 _).mono ?_
    rintro e w1 ⟨rfl, hb⟩
    go_wp2_with fail
    go_ret
    exact ⟨rfl, hb⟩
  · by_cases h2 : 6 < Lb
    · go_enter Try.func5, Try.ntmps5
      go_wp2_with fail
      refine (awake3 _).mono ?_
      rintro e w1 ⟨rfl, hb⟩
      go_wp2_with fail
      go_ret
      exact ⟨rfl, hb⟩
    · have h3 : 6 < Lc := by omega
      clear h
      go_enter Try.func5, Try.ntmps5
      go_wp2_with fail
      refine (awake3 _).mono ?_
      rintro e w1 ⟨rfl, hb⟩
      go_wp2_with fail
      go_ret
      exact ⟨rfl, hb⟩
theorem gcdWalk (A B C : Option Addr) (ca cb cc La Lb Lc : Nat) (xs ys zs : List Nat) (w : World) (Pa : Pol w A ca xs) (Pb : Pol w B cb ys) (Pc : Pol w C cc zs) (ha : xs.length = La) (hb : ys.length = Lb) (hc : zs.length = Lc) :
    Calls Try.prog 5 #[.slice A La ca, .slice B Lb cb, .slice C Lc cc] w (Bl true w) := by
  by_cases h : La ≤ 6 ∧ Lb ≤ 6 ∧ Lc ≤ 6
  · obtain ⟨sa, sb, sc⟩ := h
    have lx := len_pol Pa ha
    have ly := len_pol Pb hb
    have lz := len_pol Pc hc
    by_cases hz : leN xs = 0 ∧ leN ys = 0
    · exact gcd_z A B C ca cb cc La Lb Lc xs ys zs w Pa Pb Pc (Lib.hid ha) (Lib.hid hb) (Lib.hid hc) sa sb sc (by omega) (by omega) (by omega) (by omega) (by omega) (by omega) (Lib.hid (by rw [hz.1, hz.2, gc_zero])) (Lib.hid (by rw [hz.1]; rfl)) (Lib.hid (by rw [hz.2]; rfl))
    · have g0 : gc (leN xs) (leN ys) ≠ 0 := gc_ne (by omega)
      have gp := gc_parts (leN xs) (leN ys)
      have gl := gc_lt (k := 64 * 6) (show len (leN xs) ≤ 64 * 6 by omega) (show len (leN ys) ≤ 64 * 6 by omega)
      have m1 := len_clm_le (leN xs) (leN zs)
      have m2 := len_clm_le (leN ys) (leN zs)
      have gl2 : len (gc (clm (leN xs) (leN zs)) (clm (leN ys) (leN zs))) ≤ 64 * 20 := gc_lt (by omega) (by omega)
      by_cases hx : leN xs = 0
      · have hy : leN ys ≠ 0 := fun e => hz ⟨hx, e⟩
        have p := len_pos hy
        exact gcd_b A B C ca cb cc La Lb Lc xs ys zs _ _ _ _ (len (leN ys) - 1) w Pa Pb Pc (Lib.hid ha) (Lib.hid hb) (Lib.hid hc) sa sb sc (by omega) (by omega) (by omega) (by omega) (by omega) (by omega) (by omega) (Lib.hid (by rw [hx]; rfl)) (Lib.hid (by omega))
          (Lib.hid rfl) (Lib.hid g0) (Lib.hid (gc_comm _ _)) (Lib.hid ((dv_rt g0).1 gp.1)) (Lib.hid ((dv_rt g0).1 gp.2)) (Lib.hid rfl) (Lib.hid rfl) (Lib.hid rfl) (Lib.hid (gc_mul _ _ _).symm)
          (wlh (by omega)) (wlh (by omega)) (wlh (by omega)) (wlh gl2) (wlk (by omega)) (wlk (by omega)) (wlk (by omega)) (wlk gl2)
      · have p := len_pos hx
        exact gcd_a A B C ca cb cc La Lb Lc xs ys zs _ _ _ _ (len (leN xs) - 1) w Pa Pb Pc (Lib.hid ha) (Lib.hid hb) (Lib.hid hc) sa sb sc (by omega) (by omega) (by omega) (by omega) (by omega) (by omega) (by omega) (Lib.hid (by omega))
          (Lib.hid rfl) (Lib.hid g0) (Lib.hid (gc_comm _ _)) (Lib.hid ((dv_rt g0).1 gp.1)) (Lib.hid ((dv_rt g0).1 gp.2)) (Lib.hid rfl) (Lib.hid rfl) (Lib.hid rfl) (Lib.hid (gc_mul _ _ _).symm)
          (wlh (by omega)) (wlh (by omega)) (wlh (by omega)) (wlh gl2) (wlk (by omega)) (wlk (by omega)) (wlk (by omega)) (wlk gl2)
  · exact gcdLarge A B C ca cb cc La Lb Lc w (by omega)
end Go.Proofs.Ytkfebhfbdhdibaa
