/-
  GfdivRests of layer 3 answers true for every three polynomials. Made by wip/gen/gfdlaws.py.
-/
import Derived.Test.YtkfebhfbdhdibaaGfdK
namespace Go.Proofs.Ytkfebhfbdhdibaa
open Go.RowKit G
set_option linter.unusedVariables false

set_option maxRecDepth 100000 in
set_option maxHeartbeats 4000000 in
theorem rests_no (A B C : Option Addr) (ca cb cc La Lb Lc : Nat) (xs ys zs : List Nat) (X Y S T M G m : Nat) (dg : Int) (w : World) (Pa : Pol w A ca xs) (Pb : Pol w B cb ys) (Pc : Pol w C cc zs) (ha : Hid (xs.length = La)) (hb' : Hid (ys.length = Lb)) (hc : Hid (zs.length = Lc)) (sa : La ≤ 6) (sb : Lb ≤ 6) (sc : Lc ≤ 6) (la : La ≤ 20000) (lb : Lb ≤ 20000) (lc : Lc ≤ 20000) (ka : La ≤ 50000) (kb : Lb ≤ 50000) (kc : Lc ≤ 50000) (bm : m ≤ 1000)  (hd1 : (dg != 0) = true) (hd2 : (dg == 0) = false) (h0 : Hid (leN zs ≠ 0)) (dZ : Hid (((len (leN zs) : Nat) : Int) - 1 = (m : Int))) (eX : Hid (rt (leN xs) (leN zs) = X)) (eY : Hid (rt (leN ys) (leN zs) = Y)) (eS : Hid (leN xs ^^^ leN ys = S)) (eT : Hid (rt S (leN zs) = T)) (eT2 : Hid (X ^^^ Y = T)) (eM : Hid (rt (clm (leN xs) (leN ys)) (leN zs) = M)) (eM2 : Hid (rt (clm X Y) (leN zs) = M)) (g1 : Hid (gc (leN xs) (leN zs) ≠ 1)) (eG : Hid (gc (leN xs) (leN zs) = G)) (dG : Hid (((len G : Nat) : Int) - 1 = dg)) (lX : Hid ((wordsOf X).length ≤ 20000)) (lY : Hid ((wordsOf Y).length ≤ 20000)) (lS : Hid ((wordsOf S).length ≤ 20000)) (lT : Hid ((wordsOf T).length ≤ 20000)) (lM : Hid ((wordsOf M).length ≤ 20000)) (lG : Hid ((wordsOf G).length ≤ 20000)) (kX : Hid ((wordsOf X).length ≤ 50000)) (kY : Hid ((wordsOf Y).length ≤ 50000)) (kS : Hid ((wordsOf S).length ≤ 50000)) (kT : Hid ((wordsOf T).length ≤ 50000)) (kM : Hid ((wordsOf M).length ≤ 50000)) (kG : Hid ((wordsOf G).length ≤ 50000)) :
    Calls Try.prog 6 #[.slice A La ca, .slice B Lb cb, .slice C Lc cc] w (Bl true w) := by
  go_enter Try.func6, Try.ntmps6
  have hB : Below w.heap.size w w := Below.refl _ _
  go_wp2_with fail
  refine (awake3 _).mono ?_
  rintro e w1 ⟨rfl, hb⟩
  replace Pa := Pa.below hb
  replace Pb := Pb.below hb
  replace Pc := Pc.below hb
  replace hB := below_then hB hb
  clear hb
  go_wp2_with fail
  refine (gDeg (m : Int) Pc hc.out dZ.out kc).mono ?_
  rintro e w2 ⟨rfl, rfl⟩
  go_wp2_with fail
  refine (gMod X Pa Pc ha.out hc.out eX.out ka kc h0.out).mono ?_
  rintro e w3 ⟨A3, c3, rfl, Px, hb⟩
  replace Pa := Pa.below hb
  replace Pb := Pb.below hb
  replace Pc := Pc.below hb
  replace hB := below_then hB hb
  clear hb
  go_wp2_with fail
  refine (gMod Y Pb Pc hb'.out hc.out eY.out kb kc h0.out).mono ?_
  rintro e w4 ⟨A4, c4, rfl, Py, hb⟩
  replace Pa := Pa.below hb
  replace Pb := Pb.below hb
  replace Pc := Pc.below hb
  replace Px := Px.below hb
  replace hB := below_then hB hb
  clear hb
  go_wp2_with fail
  refine (gAdd S Pa Pb ha.out hb'.out eS.out ka kb).mono ?_
  rintro e w5 ⟨A5, c5, rfl, P1, hb⟩
  replace Pa := Pa.below hb
  replace Pb := Pb.below hb
  replace Pc := Pc.below hb
  replace Px := Px.below hb
  replace Py := Py.below hb
  replace hB := below_then hB hb
  clear hb
  go_wp2_with fail
  refine (gMod T P1 Pc rfl hc.out (by rw [leN_wordsOf]; exact eT.out) kS.out kc h0.out).mono ?_
  rintro e w6 ⟨A6, c6, rfl, Ps, hb⟩
  replace Pa := Pa.below hb
  replace Pb := Pb.below hb
  replace Pc := Pc.below hb
  replace Px := Px.below hb
  replace Py := Py.below hb
  replace P1 := P1.below hb
  replace hB := below_then hB hb
  clear hb
  clear P1
  go_wp2_with fail
  refine (gMulMod M Pa Pb Pc ha.out hb'.out hc.out eM.out (by omega) (by omega) (by omega) h0.out).mono ?_
  rintro e w7 ⟨A7, c7, rfl, Pm, hb⟩
  replace Pa := Pa.below hb
  replace Pb := Pb.below hb
  replace Pc := Pc.below hb
  replace Px := Px.below hb
  replace Py := Py.below hb
  replace Ps := Ps.below hb
  replace hB := below_then hB hb
  clear hb
  go_wp2_with fail
  refine (gMulMod M Px Py Pc rfl rfl hc.out (by rw [leN_wordsOf, leN_wordsOf]; exact eM2.out) (by have := lX.out; omega) (by have := lY.out; omega) (by omega) h0.out).mono ?_
  rintro e w8 ⟨A8, c8, rfl, Pn, hb⟩
  replace Pa := Pa.below hb
  replace Pb := Pb.below hb
  replace Pc := Pc.below hb
  replace Px := Px.below hb
  replace Py := Py.below hb
  replace Ps := Ps.below hb
  replace Pm := Pm.below hb
  replace hB := below_then hB hb
  clear hb
  go_wp2_with fail
  refine (gAdd T Px Py rfl rfl (by rw [leN_wordsOf, leN_wordsOf]; exact eT2.out) kX.out kY.out).mono ?_
  rintro e w9 ⟨A9, c9, rfl, P2, hb⟩
  replace Pa := Pa.below hb
  replace Pb := Pb.below hb
  replace Pc := Pc.below hb
  replace Px := Px.below hb
  replace Py := Py.below hb
  replace Ps := Ps.below hb
  replace Pm := Pm.below hb
  replace Pn := Pn.below hb
  replace hB := below_then hB hb
  clear hb
  clear Px
  clear Py
  go_wp2_with fail
  refine (gSame true Ps P2 rfl rfl (sameN_self _) kT.out).mono ?_
  rintro e w10 ⟨rfl, hb⟩
  replace Pa := Pa.below hb
  replace Pb := Pb.below hb
  replace Pc := Pc.below hb
  replace Ps := Ps.below hb
  replace Pm := Pm.below hb
  replace Pn := Pn.below hb
  replace P2 := P2.below hb
  replace hB := below_then hB hb
  clear hb
  clear Ps
  clear P2
  go_wp2_with fail
  refine (gSame true Pm Pn rfl rfl (sameN_self _) kM.out).mono ?_
  rintro e w11 ⟨rfl, hb⟩
  replace Pa := Pa.below hb
  replace Pb := Pb.below hb
  replace Pc := Pc.below hb
  replace Pm := Pm.below hb
  replace Pn := Pn.below hb
  replace hB := below_then hB hb
  clear hb
  clear Pm
  clear Pn
  go_wp2_with fail
  refine (gInvNo Pa Pc ha.out hc.out la lc h0.out g1.out).mono ?_
  rintro e w12 ⟨rfl, hb⟩
  replace Pa := Pa.below hb
  replace Pb := Pb.below hb
  replace Pc := Pc.below hb
  replace hB := below_then hB hb
  clear hb
  go_wp2_with fail
  refine (gGcd G Pa Pc ha.out hc.out eG.out ka kc).mono ?_
  rintro e w13 ⟨A13, c13, rfl, Pg, hb⟩
  replace Pa := Pa.below hb
  replace Pb := Pb.below hb
  replace Pc := Pc.below hb
  replace hB := below_then hB hb
  clear hb
  go_wp2_with fail
  refine (gDeg dg Pg rfl (by rw [leN_wordsOf]; exact dG.out) kG.out).mono ?_
  rintro e w14 ⟨rfl, rfl⟩
  clear Pg
  go_wp2_with fail
  go_ret
  exact ⟨rfl, hB⟩
set_option maxRecDepth 100000 in
set_option maxHeartbeats 4000000 in
theorem rests_ok (A B C : Option Addr) (ca cb cc La Lb Lc : Nat) (xs ys zs : List Nat) (X Y S T M I O m : Nat) (di : Int) (w : World) (Pa : Pol w A ca xs) (Pb : Pol w B cb ys) (Pc : Pol w C cc zs) (ha : Hid (xs.length = La)) (hb' : Hid (ys.length = Lb)) (hc : Hid (zs.length = Lc)) (sa : La ≤ 6) (sb : Lb ≤ 6) (sc : Lc ≤ 6) (la : La ≤ 20000) (lb : Lb ≤ 20000) (lc : Lc ≤ 20000) (ka : La ≤ 50000) (kb : Lb ≤ 50000) (kc : Lc ≤ 50000) (bm : m ≤ 1000)  (hm : max (m : Int) 0 = (m : Int)) (hd1 : di < (m : Int)) (h0 : Hid (leN zs ≠ 0)) (dZ : Hid (((len (leN zs) : Nat) : Int) - 1 = (m : Int))) (eX : Hid (rt (leN xs) (leN zs) = X)) (eY : Hid (rt (leN ys) (leN zs) = Y)) (eS : Hid (leN xs ^^^ leN ys = S)) (eT : Hid (rt S (leN zs) = T)) (eT2 : Hid (X ^^^ Y = T)) (eM : Hid (rt (clm (leN xs) (leN ys)) (leN zs) = M)) (eM2 : Hid (rt (clm X Y) (leN zs) = M)) (g1 : Hid (gc (leN xs) (leN zs) = 1)) (eI : Hid (iv (leN xs) (leN zs) = I)) (eO : Hid (rt (leN [1]) (leN zs) = O)) (eB : Hid (rt (clm (leN xs) I) (leN zs) = O)) (dI : Hid (((len I : Nat) : Int) - 1 = di)) (lX : Hid ((wordsOf X).length ≤ 20000)) (lY : Hid ((wordsOf Y).length ≤ 20000)) (lS : Hid ((wordsOf S).length ≤ 20000)) (lT : Hid ((wordsOf T).length ≤ 20000)) (lM : Hid ((wordsOf M).length ≤ 20000)) (lI : Hid ((wordsOf I).length ≤ 20000)) (lO : Hid ((wordsOf O).length ≤ 20000)) (kX : Hid ((wordsOf X).length ≤ 50000)) (kY : Hid ((wordsOf Y).length ≤ 50000)) (kS : Hid ((wordsOf S).length ≤ 50000)) (kT : Hid ((wordsOf T).length ≤ 50000)) (kM : Hid ((wordsOf M).length ≤ 50000)) (kI : Hid ((wordsOf I).length ≤ 50000)) (kO : Hid ((wordsOf O).length ≤ 50000)) :
    Calls Try.prog 6 #[.slice A La ca, .slice B Lb cb, .slice C Lc cc] w (Bl true w) := by
  go_enter Try.func6, Try.ntmps6
  have hB : Below w.heap.size w w := Below.refl _ _
  go_wp2_with fail
  refine (awake3 _).mono ?_
  rintro e w1 ⟨rfl, hb⟩
  replace Pa := Pa.below hb
  replace Pb := Pb.below hb
  replace Pc := Pc.below hb
  replace hB := below_then hB hb
  clear hb
  go_wp2_with fail
  refine (gDeg (m : Int) Pc hc.out dZ.out kc).mono ?_
  rintro e w2 ⟨rfl, rfl⟩
  go_wp2_with fail
  refine (gMod X Pa Pc ha.out hc.out eX.out ka kc h0.out).mono ?_
  rintro e w3 ⟨A3, c3, rfl, Px, hb⟩
  replace Pa := Pa.below hb
  replace Pb := Pb.below hb
  replace Pc := Pc.below hb
  replace hB := below_then hB hb
  clear hb
  go_wp2_with fail
  refine (gMod Y Pb Pc hb'.out hc.out eY.out kb kc h0.out).mono ?_
  rintro e w4 ⟨A4, c4, rfl, Py, hb⟩
  replace Pa := Pa.below hb
  replace Pb := Pb.below hb
  replace Pc := Pc.below hb
  replace Px := Px.below hb
  replace hB := below_then hB hb
  clear hb
  go_wp2_with fail
  refine (gAdd S Pa Pb ha.out hb'.out eS.out ka kb).mono ?_
  rintro e w5 ⟨A5, c5, rfl, P1, hb⟩
  replace Pa := Pa.below hb
  replace Pb := Pb.below hb
  replace Pc := Pc.below hb
  replace Px := Px.below hb
  replace Py := Py.below hb
  replace hB := below_then hB hb
  clear hb
  go_wp2_with fail
  refine (gMod T P1 Pc rfl hc.out (by rw [leN_wordsOf]; exact eT.out) kS.out kc h0.out).mono ?_
  rintro e w6 ⟨A6, c6, rfl, Ps, hb⟩
  replace Pa := Pa.below hb
  replace Pb := Pb.below hb
  replace Pc := Pc.below hb
  replace Px := Px.below hb
  replace Py := Py.below hb
  replace P1 := P1.below hb
  replace hB := below_then hB hb
  clear hb
  clear P1
  go_wp2_with fail
  refine (gMulMod M Pa Pb Pc ha.out hb'.out hc.out eM.out (by omega) (by omega) (by omega) h0.out).mono ?_
  rintro e w7 ⟨A7, c7, rfl, Pm, hb⟩
  replace Pa := Pa.below hb
  replace Pb := Pb.below hb
  replace Pc := Pc.below hb
  replace Px := Px.below hb
  replace Py := Py.below hb
  replace Ps := Ps.below hb
  replace hB := below_then hB hb
  clear hb
  go_wp2_with fail
  refine (gMulMod M Px Py Pc rfl rfl hc.out (by rw [leN_wordsOf, leN_wordsOf]; exact eM2.out) (by have := lX.out; omega) (by have := lY.out; omega) (by omega) h0.out).mono ?_
  rintro e w8 ⟨A8, c8, rfl, Pn, hb⟩
  replace Pa := Pa.below hb
  replace Pb := Pb.below hb
  replace Pc := Pc.below hb
  replace Px := Px.below hb
  replace Py := Py.below hb
  replace Ps := Ps.below hb
  replace Pm := Pm.below hb
  replace hB := below_then hB hb
  clear hb
  go_wp2_with fail
  refine (gAdd T Px Py rfl rfl (by rw [leN_wordsOf, leN_wordsOf]; exact eT2.out) kX.out kY.out).mono ?_
  rintro e w9 ⟨A9, c9, rfl, P2, hb⟩
  replace Pa := Pa.below hb
  replace Pb := Pb.below hb
  replace Pc := Pc.below hb
  replace Px := Px.below hb
  replace Py := Py.below hb
  replace Ps := Ps.below hb
  replace Pm := Pm.below hb
  replace Pn := Pn.below hb
  replace hB := below_then hB hb
  clear hb
  clear Px
  clear Py
  go_wp2_with fail
  refine (gSame true Ps P2 rfl rfl (sameN_self _) kT.out).mono ?_
  rintro e w10 ⟨rfl, hb⟩
  replace Pa := Pa.below hb
  replace Pb := Pb.below hb
  replace Pc := Pc.below hb
  replace Ps := Ps.below hb
  replace Pm := Pm.below hb
  replace Pn := Pn.below hb
  replace P2 := P2.below hb
  replace hB := below_then hB hb
  clear hb
  clear Ps
  clear P2
  go_wp2_with fail
  refine (gSame true Pm Pn rfl rfl (sameN_self _) kM.out).mono ?_
  rintro e w11 ⟨rfl, hb⟩
  replace Pa := Pa.below hb
  replace Pb := Pb.below hb
  replace Pc := Pc.below hb
  replace Pm := Pm.below hb
  replace Pn := Pn.below hb
  replace hB := below_then hB hb
  clear hb
  clear Pm
  clear Pn
  go_wp2_with fail
  refine (gInvOk I Pa Pc ha.out hc.out la lc h0.out g1.out eI.out).mono ?_
  rintro e w12 ⟨A12, c12, rfl, Pi, hb⟩
  replace Pa := Pa.below hb
  replace Pb := Pb.below hb
  replace Pc := Pc.below hb
  replace hB := below_then hB hb
  clear hb
  go_wp2_with fail
  have Po := pol1 w12 1 1 rfl (by decide)
  replace Pa := Pa.alloc (.cells #[.int .u64 1] 45)
  replace Pb := Pb.alloc (.cells #[.int .u64 1] 45)
  replace Pc := Pc.alloc (.cells #[.int .u64 1] 45)
  replace Pi := Pi.alloc (.cells #[.int .u64 1] 45)
  replace hB := below_alloc hB (.cells #[.int .u64 1] 45)
  generalize hV0 : (World.alloc w12 (.cells #[.int .u64 1] 45)) = V0 at Pa Pb Pc Pi Po hB ⊢
  clear hV0
  refine (gMod O Po Pc rfl hc.out eO.out (by decide) kc h0.out).mono ?_
  rintro e w13 ⟨A13, c13, rfl, P3, hb⟩
  replace Pa := Pa.below hb
  replace Pb := Pb.below hb
  replace Pc := Pc.below hb
  replace Pi := Pi.below hb
  replace Po := Po.below hb
  replace hB := below_then hB hb
  clear hb
  clear Po
  go_wp2_with fail
  refine (gMulMod O Pa Pi Pc ha.out rfl hc.out (by rw [leN_wordsOf]; exact eB.out) (by omega) (by have := lI.out; omega) (by omega) h0.out).mono ?_
  rintro e w14 ⟨A14, c14, rfl, P4, hb⟩
  replace Pa := Pa.below hb
  replace Pb := Pb.below hb
  replace Pc := Pc.below hb
  replace Pi := Pi.below hb
  replace P3 := P3.below hb
  replace hB := below_then hB hb
  clear hb
  go_wp2_with fail
  refine (gSame true P4 P3 rfl rfl (sameN_self _) kO.out).mono ?_
  rintro e w15 ⟨rfl, hb⟩
  replace Pa := Pa.below hb
  replace Pb := Pb.below hb
  replace Pc := Pc.below hb
  replace Pi := Pi.below hb
  replace P3 := P3.below hb
  replace P4 := P4.below hb
  replace hB := below_then hB hb
  clear hb
  clear P3
  clear P4
  go_wp2_with fail
  refine (gDeg di Pi rfl (by rw [leN_wordsOf]; exact dI.out) kI.out).mono ?_
  rintro e w16 ⟨rfl, rfl⟩
  clear Pi
  go_wp2_with fail
  refine (gDeg (m : Int) Pc hc.out dZ.out kc).mono ?_
  rintro e w17 ⟨rfl, rfl⟩
  go_wp2_with fail
  go_ret
  exact ⟨rfl, hB⟩
set_option maxRecDepth 100000 in
set_option maxHeartbeats 4000000 in
theorem rests_z (A B C : Option Addr) (ca cb cc La Lb Lc : Nat) (xs ys zs : List Nat) (w : World) (Pa : Pol w A ca xs) (Pb : Pol w B cb ys) (Pc : Pol w C cc zs) (ha : Hid (xs.length = La)) (hb' : Hid (ys.length = Lb)) (hc : Hid (zs.length = Lc)) (sa : La ≤ 6) (sb : Lb ≤ 6) (sc : Lc ≤ 6) (la : La ≤ 20000) (lb : Lb ≤ 20000) (lc : Lc ≤ 20000) (ka : La ≤ 50000) (kb : Lb ≤ 50000) (kc : Lc ≤ 50000) (dZ : Hid (((len (leN zs) : Nat) : Int) - 1 = -1)) :
    Calls Try.prog 6 #[.slice A La ca, .slice B Lb cb, .slice C Lc cc] w (Bl true w) := by
  go_enter Try.func6, Try.ntmps6
  have hB : Below w.heap.size w w := Below.refl _ _
  go_wp2_with fail
  refine (awake3 _).mono ?_
  rintro e w1 ⟨rfl, hb⟩
  replace Pa := Pa.below hb
  replace Pb := Pb.below hb
  replace Pc := Pc.below hb
  replace hB := below_then hB hb
  clear hb
  go_wp2_with fail
  refine (gDeg (-1) Pc hc.out dZ.out kc).mono ?_
  rintro e w2 ⟨rfl, rfl⟩
  go_wp2_with fail
  go_ret
  exact ⟨rfl, hB⟩
set_option maxRecDepth 100000 in
set_option maxHeartbeats 4000000 in
theorem restsLarge (A B C : Option Addr) (ca cb cc La Lb Lc : Nat) (w : World) (h : 6 < La ∨ 6 < Lb ∨ 6 < Lc) :
    Calls Try.prog 6 #[.slice A La ca, .slice B Lb cb, .slice C Lc cc] w (Bl true w) := by
  by_cases h1 : 6 < La
  · go_enter Try.func6, Try.ntmps6
    go_wp2_with fail
    refine (awake3 _).mono ?_
    rintro e w1 ⟨rfl, hb⟩
    go_wp2_with fail
    go_ret
    exact ⟨rfl, hb⟩
  · by_cases h2 : 6 < Lb
    · go_enter Try.func6, Try.ntmps6
      go_wp2_with fail
      refine (awake3 _).mono ?_
      rintro e w1 ⟨rfl, hb⟩
      go_wp2_with fail
      go_ret
      exact ⟨rfl, hb⟩
    · have h3 : 6 < Lc := by omega
      clear h
      go_enter Try.func6, Try.ntmps6
      go_wp2_with fail
      refine (awake3 _).mono ?_
      rintro e w1 ⟨rfl, hb⟩
      go_wp2_with fail
      go_ret
      exact ⟨rfl, hb⟩
theorem restsWalk (A B C : Option Addr) (ca cb cc La Lb Lc : Nat) (xs ys zs : List Nat) (w : World) (Pa : Pol w A ca xs) (Pb : Pol w B cb ys) (Pc : Pol w C cc zs) (ha : xs.length = La) (hb : ys.length = Lb) (hc : zs.length = Lc) :
    Calls Try.prog 6 #[.slice A La ca, .slice B Lb cb, .slice C Lc cc] w (Bl true w) := by
  by_cases h : La ≤ 6 ∧ Lb ≤ 6 ∧ Lc ≤ 6
  · obtain ⟨sa, sb, sc⟩ := h
    by_cases h0 : leN zs = 0
    · exact rests_z A B C ca cb cc La Lb Lc xs ys zs w Pa Pb Pc (Lib.hid ha) (Lib.hid hb) (Lib.hid hc) sa sb sc (by omega) (by omega) (by omega) (by omega) (by omega) (by omega) (Lib.hid (by rw [h0]; rfl))
    · have lx := len_pol Pa ha
      have ly := len_pol Pb hb
      have lz := len_pol Pc hc
      have p := len_pos h0
      have r1 := rt_lt (a := leN xs) h0
      have r2 := rt_lt (a := leN ys) h0
      have s1 := len_xor_le (leN xs) (leN ys) (64 * 6) (by omega) (by omega)
      have r3 := rt_lt (a := leN xs ^^^ leN ys) h0
      have r4 := rt_lt (a := clm (leN xs) (leN ys)) h0
      by_cases g1 : gc (leN xs) (leN zs) = 1
      · obtain ⟨i1, i2⟩ := iv_facts h0 g1
        have r5 := rt_lt (a := leN [1]) h0
        exact rests_ok A B C ca cb cc La Lb Lc xs ys zs _ _ _ _ _ _ _ (len (leN zs) - 1) _ w Pa Pb Pc (Lib.hid ha) (Lib.hid hb) (Lib.hid hc) sa sb sc (by omega) (by omega) (by omega) (by omega) (by omega) (by omega) (by omega) (by omega) (by omega)
          (Lib.hid h0) (Lib.hid (by omega)) (Lib.hid rfl) (Lib.hid rfl) (Lib.hid rfl) (Lib.hid rfl) (Lib.hid (rt_xor h0).symm) (Lib.hid rfl) (Lib.hid (rt_clm h0)) (Lib.hid g1) (Lib.hid rfl) (Lib.hid rfl) (Lib.hid i1) (Lib.hid rfl)
          (wlh (by omega)) (wlh (by omega)) (wlh (by omega)) (wlh (by omega)) (wlh (by omega)) (wlh (by omega)) (wlh (by omega)) (wlk (by omega)) (wlk (by omega)) (wlk (by omega)) (wlk (by omega)) (wlk (by omega)) (wlk (by omega)) (wlk (by omega))
      · have g0 : gc (leN xs) (leN zs) ≠ 0 := gc_ne (.inr h0)
        have gl := gc_lt (a := leN xs) (b := leN zs) (k := 64 * 6) (by omega) (by omega)
        have gp := len_pos g0
        have gn : len (gc (leN xs) (leN zs)) ≠ 1 := fun e => g1 (one_of_len e)
        exact rests_no A B C ca cb cc La Lb Lc xs ys zs _ _ _ _ _ _ (len (leN zs) - 1) _ w Pa Pb Pc (Lib.hid ha) (Lib.hid hb) (Lib.hid hc) sa sb sc (by omega) (by omega) (by omega) (by omega) (by omega) (by omega) (by omega) (by simp; omega) (by simp; omega)
          (Lib.hid h0) (Lib.hid (by omega)) (Lib.hid rfl) (Lib.hid rfl) (Lib.hid rfl) (Lib.hid rfl) (Lib.hid (rt_xor h0).symm) (Lib.hid rfl) (Lib.hid (rt_clm h0)) (Lib.hid g1) (Lib.hid rfl) (Lib.hid rfl)
          (wlh (by omega)) (wlh (by omega)) (wlh (by omega)) (wlh (by omega)) (wlh (by omega)) (wlh (by omega)) (wlk (by omega)) (wlk (by omega)) (wlk (by omega)) (wlk (by omega)) (wlk (by omega)) (wlk (by omega))
  · exact restsLarge A B C ca cb cc La Lb Lc w (by omega)
end Go.Proofs.Ytkfebhfbdhdibaa
