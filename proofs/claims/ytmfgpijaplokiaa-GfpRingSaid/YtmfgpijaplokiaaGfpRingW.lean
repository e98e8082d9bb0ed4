/-
  GfpRing of layer 2 answers true for every three polynomials. Made by wip/gen/gfplaws.py.
-/
import Derived.Test.YtmfgpijaplokiaaGfpK
namespace Go.Proofs.Ytmfgpijaplokiaa
open Go.RowKit G
set_option linter.unusedVariables false

set_option maxRecDepth 100000 in
set_option maxHeartbeats 4000000 in
theorem ringSmall (A B C : Option Addr) (ca cb cc La Lb Lc : Nat) (xs ys zs : List Nat) (S X P Q R T U V : Nat) (w : World) (Pa : Pol w A ca xs) (Pb : Pol w B cb ys) (Pc : Pol w C cc zs) (ha : Hid (xs.length = La)) (hb : Hid (ys.length = Lb)) (hc : Hid (zs.length = Lc)) (sa : La ≤ 8) (sb : Lb ≤ 8) (sc : Lc ≤ 8) (la : La ≤ 50000) (lb : Lb ≤ 50000) (lc : Lc ≤ 50000)
    (eS : Hid (leN xs ^^^ leN ys = S)) (eS2 : Hid (leN ys ^^^ leN xs = S)) (eX : Hid (leN xs = X)) (eSX : Hid (S ^^^ leN ys = X)) (eP : Hid (clm (leN xs) (leN ys) = P)) (eP2 : Hid (clm (leN ys) (leN xs) = P)) (eQ : Hid (clm P (leN zs) = Q)) (eR : Hid (clm (leN ys) (leN zs) = R)) (eQ2 : Hid (clm (leN xs) R = Q)) (eT : Hid (leN ys ^^^ leN zs = T)) (eU : Hid (clm (leN xs) T = U)) (eV : Hid (clm (leN xs) (leN zs) = V)) (eU2 : Hid (P ^^^ V = U))
    (lS : Hid ((wordsOf S).length ≤ 50000)) (lX : Hid ((wordsOf X).length ≤ 50000)) (lP : Hid ((wordsOf P).length ≤ 50000)) (lQ : Hid ((wordsOf Q).length ≤ 50000)) (lR : Hid ((wordsOf R).length ≤ 50000)) (lT : Hid ((wordsOf T).length ≤ 50000)) (lU : Hid ((wordsOf U).length ≤ 50000)) (lV : Hid ((wordsOf V).length ≤ 50000)) :
    Calls Try.prog 4 #[.slice A La ca, .slice B Lb cb, .slice C Lc cc] w (Bl true w) := by
  have hb' := hb
  clear hb
  go_enter Try.func4, Try.ntmps4
  have hB : Below w.heap.size w w := Below.refl _ _
  go_wp2_with fail
  refine (awake _).mono ?_
  rintro e w1 ⟨rfl, hb⟩
  replace Pa := Pa.below hb
  replace Pb := Pb.below hb
  replace Pc := Pc.below hb
  replace hB := below_then hB hb
  clear hb
  go_wp2_with fail
  refine (gAdd S Pa Pb ha.out hb'.out eS.out la lb).mono ?_
  rintro e w2 ⟨A2, c2, rfl, P1, hb⟩
  replace Pa := Pa.below hb
  replace Pb := Pb.below hb
  replace Pc := Pc.below hb
  replace hB := below_then hB hb
  clear hb
  go_wp2_with fail
  refine (gAdd S Pb Pa hb'.out ha.out eS2.out lb la).mono ?_
  rintro e w3 ⟨A3, c3, rfl, P2, hb⟩
  replace Pa := Pa.below hb
  replace Pb := Pb.below hb
  replace Pc := Pc.below hb
  replace P1 := P1.below hb
  replace hB := below_then hB hb
  clear hb
  go_wp2_with fail
  refine (gSame true P1 P2 rfl rfl (sameN_self _) lS.out).mono ?_
  rintro e w4 ⟨rfl, hb⟩
  replace Pa := Pa.below hb
  replace Pb := Pb.below hb
  replace Pc := Pc.below hb
  replace P1 := P1.below hb
  replace P2 := P2.below hb
  replace hB := below_then hB hb
  clear hb
  clear P1
  clear P2
  go_wp2_with fail
  refine (gAdd S Pa Pb ha.out hb'.out eS.out la lb).mono ?_
  rintro e w5 ⟨A5, c5, rfl, P3, hb⟩
  replace Pa := Pa.below hb
  replace Pb := Pb.below hb
  replace Pc := Pc.below hb
  replace hB := below_then hB hb
  clear hb
  go_wp2_with fail
  refine (gAdd X P3 Pb rfl hb'.out (by rw [leN_wordsOf]; exact eSX.out) lS.out lb).mono ?_
  rintro e w6 ⟨A6, c6, rfl, P4, hb⟩
  replace Pa := Pa.below hb
  replace Pb := Pb.below hb
  replace Pc := Pc.below hb
  replace P3 := P3.below hb
  replace hB := below_then hB hb
  clear hb
  clear P3
  go_wp2_with fail
  refine (gSame true P4 Pa rfl ha.out (by rw [leN_wordsOf, eX.out]; exact sameN_self _) lX.out).mono ?_
  rintro e w7 ⟨rfl, hb⟩
  replace Pa := Pa.below hb
  replace Pb := Pb.below hb
  replace Pc := Pc.below hb
  replace P4 := P4.below hb
  replace hB := below_then hB hb
  clear hb
  clear P4
  go_wp2_with fail
  refine (gMul P Pa Pb ha.out hb'.out eP.out la lb).mono ?_
  rintro e w8 ⟨A8, c8, rfl, P5, hb⟩
  replace Pa := Pa.below hb
  replace Pb := Pb.below hb
  replace Pc := Pc.below hb
  replace hB := below_then hB hb
  clear hb
  go_wp2_with fail
  refine (gMul P Pb Pa hb'.out ha.out eP2.out lb la).mono ?_
  rintro e w9 ⟨A9, c9, rfl, P6, hb⟩
  replace Pa := Pa.below hb
  replace Pb := Pb.below hb
  replace Pc := Pc.below hb
  replace P5 := P5.below hb
  replace hB := below_then hB hb
  clear hb
  go_wp2_with fail
  refine (gSame true P5 P6 rfl rfl (sameN_self _) lP.out).mono ?_
  rintro e w10 ⟨rfl, hb⟩
  replace Pa := Pa.below hb
  replace Pb := Pb.below hb
  replace Pc := Pc.below hb
  replace P5 := P5.below hb
  replace P6 := P6.below hb
  replace hB := below_then hB hb
  clear hb
  clear P5
  clear P6
  go_wp2_with fail
  refine (gMul P Pa Pb ha.out hb'.out eP.out la lb).mono ?_
  rintro e w11 ⟨A11, c11, rfl, P7, hb⟩
  replace Pa := Pa.below hb
  replace Pb := Pb.below hb
  replace Pc := Pc.below hb
  replace hB := below_then hB hb
  clear hb
  go_wp2_with fail
  refine (gMul Q P7 Pc rfl hc.out (by rw [leN_wordsOf]; exact eQ.out) lP.out lc).mono ?_
  rintro e w12 ⟨A12, c12, rfl, P8, hb⟩
  replace Pa := Pa.below hb
  replace Pb := Pb.below hb
  replace Pc := Pc.below hb
  replace P7 := P7.below hb
  replace hB := below_then hB hb
  clear hb
  clear P7
  go_wp2_with fail
  refine (gMul R Pb Pc hb'.out hc.out eR.out lb lc).mono ?_
  rintro e w13 ⟨A13, c13, rfl, P9, hb⟩
  replace Pa := Pa.below hb
  replace Pb := Pb.below hb
  replace Pc := Pc.below hb
  replace P8 := P8.below hb
  replace hB := below_then hB hb
  clear hb
  go_wp2_with fail
  refine (gMul Q Pa P9 ha.out rfl (by rw [leN_wordsOf]; exact eQ2.out) la lR.out).mono ?_
  rintro e w14 ⟨A14, c14, rfl, P10, hb⟩
  replace Pa := Pa.below hb
  replace Pb := Pb.below hb
  replace Pc := Pc.below hb
  replace P8 := P8.below hb
  replace P9 := P9.below hb
  replace hB := below_then hB hb
  clear hb
  clear P9
  go_wp2_with fail
  refine (gSame true P8 P10 rfl rfl (sameN_self _) lQ.out).mono ?_
  rintro e w15 ⟨rfl, hb⟩
  replace Pa := Pa.below hb
  replace Pb := Pb.below hb
  replace Pc := Pc.below hb
  replace P8 := P8.below hb
  replace P10 := P10.below hb
  replace hB := below_then hB hb
  clear hb
  clear P8
  clear P10
  go_wp2_with fail
  refine (gAdd T Pb Pc hb'.out hc.out eT.out lb lc).mono ?_
  rintro e w16 ⟨A16, c16, rfl, P11, hb⟩
  replace Pa := Pa.below hb
  replace Pb := Pb.below hb
  replace Pc := Pc.below hb
  replace hB := below_then hB hb
  clear hb
  go_wp2_with fail
  refine (gMul U Pa P11 ha.out rfl (by rw [leN_wordsOf]; exact eU.out) la lT.out).mono ?_
  rintro e w17 ⟨A17, c17, rfl, P12, hb⟩
  replace Pa := Pa.below hb
  replace Pb := Pb.below hb
  replace Pc := Pc.below hb
  replace P11 := P11.below hb
  replace hB := below_then hB hb
  clear hb
  clear P11
  go_wp2_with fail
  refine (gMul P Pa Pb ha.out hb'.out eP.out la lb).mono ?_
  rintro e w18 ⟨A18, c18, rfl, P13, hb⟩
  replace Pa := Pa.below hb
  replace Pb := Pb.below hb
  replace Pc := Pc.below hb
  replace P12 := P12.below hb
  replace hB := below_then hB hb
  clear hb
  go_wp2_with fail
  refine (gMul V Pa Pc ha.out hc.out eV.out la lc).mono ?_
  rintro e w19 ⟨A19, c19, rfl, P14, hb⟩
  replace Pa := Pa.below hb
  replace Pb := Pb.below hb
  replace Pc := Pc.below hb
  replace P12 := P12.below hb
  replace P13 := P13.below hb
  replace hB := below_then hB hb
  clear hb
  go_wp2_with fail
  refine (gAdd U P13 P14 rfl rfl (by rw [leN_wordsOf, leN_wordsOf]; exact eU2.out) lP.out lV.out).mono ?_
  rintro e w20 ⟨A20, c20, rfl, P15, hb⟩
  replace Pa := Pa.below hb
  replace Pb := Pb.below hb
  replace Pc := Pc.below hb
  replace P12 := P12.below hb
  replace P13 := P13.below hb
  replace P14 := P14.below hb
  replace hB := below_then hB hb
  clear hb
  clear P13
  clear P14
  go_wp2_with fail
  refine (gSame true P12 P15 rfl rfl (sameN_self _) lU.out).mono ?_
  rintro e w21 ⟨rfl, hb⟩
  replace Pa := Pa.below hb
  replace Pb := Pb.below hb
  replace Pc := Pc.below hb
  replace P12 := P12.below hb
  replace P15 := P15.below hb
  replace hB := below_then hB hb
  clear hb
  clear P12
  clear P15
  go_wp2_with fail
  refine (cX 0 (by decide) _).mono ?_
  rintro e w22 ⟨A22, c22, rfl, P16, hb⟩
  replace Pa := Pa.below hb
  replace Pb := Pb.below hb
  replace Pc := Pc.below hb
  replace hB := below_then hB hb
  clear hb
  go_wp2_with fail
  refine (gMul X Pa P16 ha.out rfl (by rw [leN_wordsOf, eX.out]; exact clm_one X) la (Nat.le_trans (wl 1 (by decide)) (by decide))).mono ?_
  rintro e w23 ⟨A23, c23, rfl, P17, hb⟩
  replace Pa := Pa.below hb
  replace Pb := Pb.below hb
  replace Pc := Pc.below hb
  replace P16 := P16.below hb
  replace hB := below_then hB hb
  clear hb
  clear P16
  go_wp2_with fail
  refine (gSame true P17 Pa rfl ha.out (by rw [leN_wordsOf, eX.out]; exact sameN_self _) lX.out).mono ?_
  rintro e w24 ⟨rfl, hb⟩
  replace Pa := Pa.below hb
  replace Pb := Pb.below hb
  replace Pc := Pc.below hb
  replace P17 := P17.below hb
  replace hB := below_then hB hb
  clear hb
  clear P17
  go_wp2_with fail
  refine (Calls.mono (gMul 0 Pa (Pol.nil _ none 0 (by decide)) ha.out rfl (clm_zero _) la (by decide)) (fun _ _ h => ans0 h)).mono ?_
  rintro e w25 ⟨A25, c25, rfl, hb⟩
  replace Pa := Pa.below hb
  replace Pb := Pb.below hb
  replace Pc := Pc.below hb
  replace hB := below_then hB hb
  clear hb
  go_wp2_with fail
  go_ret
  exact ⟨rfl, hB⟩

set_option maxRecDepth 100000 in
set_option maxHeartbeats 4000000 in
theorem ringLarge (A B C : Option Addr) (ca cb cc La Lb Lc : Nat) (w : World) (h : 8 < La ∨ 8 < Lb ∨ 8 < Lc) :
    Calls Try.prog 4 #[.slice A La ca, .slice B Lb cb, .slice C Lc cc] w (Bl true w) := by
  by_cases h1 : 8 < La
  · go_enter Try.func4, Try.ntmps4
    go_wp2_with fail
    refine (awake _).mono ?_
    rintro e w1 ⟨rfl, hb⟩
    go_wp2_with fail
    go_ret
    exact ⟨rfl, hb⟩
  · by_cases h2 : 8 < Lb
    · go_enter Try.func4, Try.ntmps4
      go_wp2_with fail
      refine (awake _).mono ?_
      rintro e w1 ⟨rfl, hb⟩
      go_wp2_with fail
      go_ret
      exact ⟨rfl, hb⟩
    · have h3 : 8 < Lc := by omega
      clear h
      go_enter Try.func4, Try.ntmps4
      go_wp2_with fail
      refine (awake _).mono ?_
      rintro e w1 ⟨rfl, hb⟩
      go_wp2_with fail
      go_ret
      exact ⟨rfl, hb⟩
theorem ringWalk (A B C : Option Addr) (ca cb cc La Lb Lc : Nat) (xs ys zs : List Nat) (w : World) (Pa : Pol w A ca xs) (Pb : Pol w B cb ys) (Pc : Pol w C cc zs) (ha : xs.length = La) (hb : ys.length = Lb) (hc : zs.length = Lc) :
    Calls Try.prog 4 #[.slice A La ca, .slice B Lb cb, .slice C Lc cc] w (Bl true w) := by
  by_cases h : La ≤ 8 ∧ Lb ≤ 8 ∧ Lc ≤ 8
  · obtain ⟨sa, sb, sc⟩ := h
    have x := leN_lt' (k := 8) Pa.word (by omega)
    have y := leN_lt' (k := 8) Pb.word (by omega)
    have z := leN_lt' (k := 8) Pc.word (by omega)
    have p := clm_lt' 8 8 16 rfl x y
    refine ringSmall A B C ca cb cc La Lb Lc xs ys zs _ _ _ _ _ _ _ _ w Pa Pb Pc (Lib.hid ha) (Lib.hid hb) (Lib.hid hc) sa sb sc (by omega) (by omega) (by omega)
      (Lib.hid rfl) (Lib.hid (Nat.xor_comm _ _)) (Lib.hid rfl) (Lib.hid (xor_cancel _ _)) (Lib.hid rfl) (Lib.hid (clm_comm _ _)) (Lib.hid rfl) (Lib.hid rfl) (Lib.hid (clm_assoc _ _ _).symm) (Lib.hid rfl) (Lib.hid rfl) (Lib.hid rfl) (Lib.hid (clm_xor _ _ _).symm)
      (wl' 8 (xor_lt' 8 x y) (by decide)) (wl' 8 x (by decide)) (wl' 16 p (by decide)) (wl' 24 (clm_lt' 16 8 24 rfl p z) (by decide)) (wl' 16 (clm_lt' 8 8 16 rfl y z) (by decide)) (wl' 8 (xor_lt' 8 y z) (by decide)) (wl' 16 (clm_lt' 8 8 16 rfl x (xor_lt' 8 y z)) (by decide)) (wl' 16 (clm_lt' 8 8 16 rfl x z) (by decide))
  · exact ringLarge A B C ca cb cc La Lb Lc w (by omega)
end Go.Proofs.Ytmfgpijaplokiaa
