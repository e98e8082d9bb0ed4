/-
  GfpSquares of layer 2 answers true for every two polynomials and every place of 16 bits. Made by wip/gen/gfplaws.py.
-/
import Derived.Test.YtmfgpijaplokiaaGfpK
namespace Go.Proofs.Ytmfgpijaplokiaa
open Go.RowKit G
set_option linter.unusedVariables false

set_option maxRecDepth 100000 in
set_option maxHeartbeats 4000000 in
theorem squaresSmall (A B : Option Addr) (ca cb La Lb : Nat) (xs ys : List Nat) (Q S T R y n k2 k3 : Nat) (w : World) (Pa : Pol w A ca xs) (Pb : Pol w B cb ys) (ha : Hid (xs.length = La)) (hb' : Hid (ys.length = Lb)) (sa : La ≤ 16) (sb : Lb ≤ 16) (la : La ≤ 50000) (lb : Lb ≤ 50000) (hn : n ≤ 65535) (e2 : 2 * (n : Int) = (k2 : Int)) (e3 : (k2 : Int) + 1 = (k3 : Int)) (b2 : k2 ≤ 9223372036854775807) (b3 : k3 ≤ 9223372036854775807) (eQ : Hid (clm (leN xs) (leN xs) = Q)) (eS : Hid (leN xs ^^^ leN ys = S)) (eT : Hid (clm S S = T)) (eR : Hid (clm (leN ys) (leN ys) = R)) (eT2 : Hid (Q ^^^ R = T)) (y1 : Hid (Q / 2 ^ k2 % 2 = y)) (y2 : Hid (leN xs / 2 ^ n % 2 = y)) (y3 : Hid (Q / 2 ^ k3 % 2 = 0)) (lQ : Hid ((wordsOf Q).length ≤ 50000)) (lS : Hid ((wordsOf S).length ≤ 50000)) (lT : Hid ((wordsOf T).length ≤ 50000)) (lR : Hid ((wordsOf R).length ≤ 50000)) :
    Calls Try.prog 5 #[.slice A La ca, .slice B Lb cb, .int .u16 (n : Int)] w (Bl true w) := by
  go_enter Try.func5, Try.ntmps5
  have hB : Below w.heap.size w w := Below.refl _ _
  go_wp2_with fail
  refine (awake _).mono ?_
  rintro e w1 ⟨rfl, hb⟩
  replace Pa := Pa.below hb
  replace Pb := Pb.below hb
  replace hB := below_then hB hb
  clear hb
  go_wp2_with fail
  refine (large2No A B La ca Lb cb sa sb _).mono ?_
  rintro e wL ⟨rfl, rfl⟩
  replace Pa := Pa.alloc (.cells #[.slice A La ca, .slice B Lb cb] 23)
  replace Pb := Pb.alloc (.cells #[.slice A La ca, .slice B Lb cb] 23)
  replace hB := below_alloc hB (.cells #[.slice A La ca, .slice B Lb cb] 23)
  generalize hVL : World.alloc _ _ = VL at Pa Pb hB ⊢
  clear hVL
  go_wp2_with fail
  refine (gSquare Q Pa ha.out eQ.out la).mono ?_
  rintro e w2 ⟨A2, c2, rfl, P1, hb⟩
  replace Pa := Pa.below hb
  replace Pb := Pb.below hb
  replace hB := below_then hB hb
  clear hb
  go_wp2_with fail
  refine (gAdd S Pa Pb ha.out hb'.out eS.out la lb).mono ?_
  rintro e w3 ⟨A3, c3, rfl, P2, hb⟩
  replace Pa := Pa.below hb
  replace Pb := Pb.below hb
  replace P1 := P1.below hb
  replace hB := below_then hB hb
  clear hb
  go_wp2_with fail
  refine (gSquare T P2 rfl (by rw [leN_wordsOf]; exact eT.out) lS.out).mono ?_
  rintro e w4 ⟨A4, c4, rfl, P3, hb⟩
  replace Pa := Pa.below hb
  replace Pb := Pb.below hb
  replace P1 := P1.below hb
  replace P2 := P2.below hb
  replace hB := below_then hB hb
  clear hb
  clear P2
  go_wp2_with fail
  refine (gSquare R Pb hb'.out eR.out lb).mono ?_
  rintro e w5 ⟨A5, c5, rfl, P4, hb⟩
  replace Pa := Pa.below hb
  replace Pb := Pb.below hb
  replace P1 := P1.below hb
  replace P3 := P3.below hb
  replace hB := below_then hB hb
  clear hb
  go_wp2_with fail
  refine (gAdd T P1 P4 rfl rfl (by rw [leN_wordsOf, leN_wordsOf]; exact eT2.out) lQ.out lR.out).mono ?_
  rintro e w6 ⟨A6, c6, rfl, P5, hb⟩
  replace Pa := Pa.below hb
  replace Pb := Pb.below hb
  replace P1 := P1.below hb
  replace P3 := P3.below hb
  replace P4 := P4.below hb
  replace hB := below_then hB hb
  clear hb
  clear P4
  go_wp2_with fail
  refine (gSame true P3 P5 rfl rfl (sameN_self _) lT.out).mono ?_
  rintro e w7 ⟨rfl, hb⟩
  replace Pa := Pa.below hb
  replace Pb := Pb.below hb
  replace P1 := P1.below hb
  replace P3 := P3.below hb
  replace P5 := P5.below hb
  replace hB := below_then hB hb
  clear hb
  clear P3
  clear P5
  go_wp2_with fail
  refine (gMul Q Pa Pa ha.out ha.out eQ.out la la).mono ?_
  rintro e w8 ⟨A8, c8, rfl, P6, hb⟩
  replace Pa := Pa.below hb
  replace Pb := Pb.below hb
  replace P1 := P1.below hb
  replace hB := below_then hB hb
  clear hb
  go_wp2_with fail
  refine (gSame true P1 P6 rfl rfl (sameN_self _) lQ.out).mono ?_
  rintro e w9 ⟨rfl, hb⟩
  replace Pa := Pa.below hb
  replace Pb := Pb.below hb
  replace P1 := P1.below hb
  replace P6 := P6.below hb
  replace hB := below_then hB hb
  clear hb
  clear P6
  go_wp2_with fail
  refine (gBit k2 (y : Int) P1 rfl (by rw [leN_wordsOf, y1.out]) b2).mono ?_
  rintro e w10 ⟨rfl, rfl⟩
  go_wp2_with fail
  refine (gBit n (y : Int) Pa ha.out (by rw [y2.out]) (by omega)).mono ?_
  rintro e w11 ⟨rfl, rfl⟩
  go_wp2_with fail
  refine (gBit k3 0 P1 rfl (by rw [leN_wordsOf, y3.out]; rfl) b3).mono ?_
  rintro e w12 ⟨rfl, rfl⟩
  go_wp2_with fail
  go_ret
  exact ⟨rfl, hB⟩
set_option maxRecDepth 100000 in
set_option maxHeartbeats 4000000 in
theorem squaresLarge (A B : Option Addr) (ca cb La Lb n : Nat) (w : World) (h : 16 < La ∨ 16 < Lb) :
    Calls Try.prog 5 #[.slice A La ca, .slice B Lb cb, .int .u16 (n : Int)] w (Bl true w) := by
  go_enter Try.func5, Try.ntmps5
  have hB : Below w.heap.size w w := Below.refl _ _
  go_wp2_with fail
  refine (awake _).mono ?_
  rintro e w1 ⟨rfl, hb⟩
  replace hB := below_then hB hb
  clear hb
  go_wp2_with fail
  refine (large2Yes A B La ca Lb cb h _).mono ?_
  rintro e wL ⟨rfl, rfl⟩
  replace hB := below_alloc hB (.cells #[.slice A La ca, .slice B Lb cb] 23)
  generalize hVL : World.alloc _ _ = VL at hB ⊢
  clear hVL
  go_wp2_with fail
  go_ret
  exact ⟨rfl, hB⟩
theorem squaresWalk (A B : Option Addr) (ca cb La Lb : Nat) (xs ys : List Nat) (n : Nat) (w : World) (Pa : Pol w A ca xs) (Pb : Pol w B cb ys) (ha : xs.length = La) (hb : ys.length = Lb) (hn : n ≤ 65535) :
    Calls Try.prog 5 #[.slice A La ca, .slice B Lb cb, .int .u16 (n : Int)] w (Bl true w) := by
  by_cases h : La ≤ 16 ∧ Lb ≤ 16
  · obtain ⟨sa, sb⟩ := h
    have x := leN_lt' (k := 16) Pa.word (by omega)
    have y := leN_lt' (k := 16) Pb.word (by omega)
    have s := xor_lt' 16 x y
    exact squaresSmall A B ca cb La Lb xs ys _ _ _ _ _ n (2 * n) (2 * n + 1) w Pa Pb (Lib.hid ha) (Lib.hid hb) sa sb (by omega) (by omega) hn (by omega) (by omega) (by omega) (by omega)
      (Lib.hid rfl) (Lib.hid rfl) (Lib.hid rfl) (Lib.hid rfl) (Lib.hid (sq_xor _ _).symm) (Lib.hid (sq_bit _ _).1) (Lib.hid rfl) (Lib.hid (sq_bit _ _).2)
      (wl' 32 (clm_lt' 16 16 32 rfl x x) (by decide)) (wl' 16 s (by decide)) (wl' 32 (clm_lt' 16 16 32 rfl s s) (by decide)) (wl' 32 (clm_lt' 16 16 32 rfl y y) (by decide))
  · exact squaresLarge A B ca cb La Lb n w (by omega)
end Go.Proofs.Ytmfgpijaplokiaa
