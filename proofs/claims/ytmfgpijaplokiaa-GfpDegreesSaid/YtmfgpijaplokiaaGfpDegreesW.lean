/-
  GfpDegrees of layer 2 answers true for every two polynomials and every place of 16 bits: case by case. Made by wip/gen/gfplaws.py.
-/
import Derived.Test.YtmfgpijaplokiaaGfpK
namespace Go.Proofs.Ytmfgpijaplokiaa
open Go.RowKit G
set_option linter.unusedVariables false

set_option maxRecDepth 100000 in
set_option maxHeartbeats 4000000 in
theorem degrees_x0 (A B : Option Addr) (ca cb La Lb : Nat) (xs ys : List Nat) (P S n : Nat) (dy ds : Int) (hn : n ≤ 2048) (w : World) (Pa : Pol w A ca xs) (Pb : Pol w B cb ys) (ha : Hid (xs.length = La)) (hb' : Hid (ys.length = Lb)) (sa : La ≤ 16) (sb : Lb ≤ 16) (la : La ≤ 50000) (lb : Lb ≤ 50000) (eP : Hid (clm (leN xs) (leN ys) = P)) (eS : Hid (leN xs ^^^ leN ys = S)) (dX : Hid (((len (leN xs) : Nat) : Int) - 1 = -1)) (dY : Hid (((len (leN ys) : Nat) : Int) - 1 = dy)) (dP : Hid (((len P : Nat) : Int) - 1 = -1)) (dS : Hid (((len S : Nat) : Int) - 1 = ds)) (lP : Hid ((wordsOf P).length ≤ 50000)) (lS : Hid ((wordsOf S).length ≤ 50000)) :
    Calls Try.prog 6 #[.slice A La ca, .slice B Lb cb, .int .u16 (n : Int)] w (Bl true w) := by
  go_enter Try.func6, Try.ntmps6
  have hB : Below w.heap.size w w := Below.refl _ _
  go_wp2_with fail
  refine (awake _).mono ?_
  rintro e w1 ⟨rfl, hb⟩
  replace Pa := Pa.below hb
  replace Pb := Pb.below hb
  replace hB := below_then hB hb
  clear hb
  go_wp2_with fail
  refine (large2No A B La ca Lb cb sa sb _).mono ?_
  rintro e wL ⟨rfl, rfl⟩
  replace Pa := Pa.alloc (.cells #[.slice A La ca, .slice B Lb cb] 23)
  replace Pb := Pb.alloc (.cells #[.slice A La ca, .slice B Lb cb] 23)
  replace hB := below_alloc hB (.cells #[.slice A La ca, .slice B Lb cb] 23)
  generalize hVL : World.alloc _ _ = VL at Pa Pb hB ⊢
  clear hVL
  go_wp2_with fail
  refine (gDeg (-1) Pa ha.out dX.out la).mono ?_
  rintro e w2 ⟨rfl, rfl⟩
  go_wp2_with fail
  refine (gDeg (dy) Pb hb'.out dY.out lb).mono ?_
  rintro e w3 ⟨rfl, rfl⟩
  go_wp2_with fail
  refine (gMul P Pa Pb ha.out hb'.out eP.out la lb).mono ?_
  rintro e w4 ⟨A4, c4, rfl, P1, hb⟩
  replace Pa := Pa.below hb
  replace Pb := Pb.below hb
  replace hB := below_then hB hb
  clear hb
  go_wp2_with fail
  refine (gDeg (-1) P1 rfl (by rw [leN_wordsOf]; exact dP.out) lP.out).mono ?_
  rintro e w5 ⟨rfl, rfl⟩
  go_wp2_with fail
  refine (gAdd S Pa Pb ha.out hb'.out eS.out la lb).mono ?_
  rintro e w6 ⟨A6, c6, rfl, P2, hb⟩
  replace Pa := Pa.below hb
  replace Pb := Pb.below hb
  replace P1 := P1.below hb
  replace hB := below_then hB hb
  clear hb
  go_wp2_with fail
  refine (gDeg (ds) P2 rfl (by rw [leN_wordsOf]; exact dS.out) lS.out).mono ?_
  rintro e w7 ⟨rfl, rfl⟩
  clear P1
  clear P2
  go_wp2_with fail
  go_ret
  exact ⟨rfl, hB⟩
set_option maxRecDepth 100000 in
set_option maxHeartbeats 4000000 in
theorem degrees_y0 (A B : Option Addr) (ca cb La Lb : Nat) (xs ys : List Nat) (P S n : Nat) (kx : Nat) (ds : Int) (bx : kx ≤ 2000) (hn : n ≤ 2048) (w : World) (Pa : Pol w A ca xs) (Pb : Pol w B cb ys) (ha : Hid (xs.length = La)) (hb' : Hid (ys.length = Lb)) (sa : La ≤ 16) (sb : Lb ≤ 16) (la : La ≤ 50000) (lb : Lb ≤ 50000) (eP : Hid (clm (leN xs) (leN ys) = P)) (eS : Hid (leN xs ^^^ leN ys = S)) (dX : Hid (((len (leN xs) : Nat) : Int) - 1 = (kx : Int))) (dY : Hid (((len (leN ys) : Nat) : Int) - 1 = -1)) (dP : Hid (((len P : Nat) : Int) - 1 = -1)) (dS : Hid (((len S : Nat) : Int) - 1 = ds)) (lP : Hid ((wordsOf P).length ≤ 50000)) (lS : Hid ((wordsOf S).length ≤ 50000)) :
    Calls Try.prog 6 #[.slice A La ca, .slice B Lb cb, .int .u16 (n : Int)] w (Bl true w) := by
  go_enter Try.func6, Try.ntmps6
  have hB : Below w.heap.size w w := Below.refl _ _
  go_wp2_with fail
  refine (awake _).mono ?_
  rintro e w1 ⟨rfl, hb⟩
  replace Pa := Pa.below hb
  replace Pb := Pb.below hb
  replace hB := below_then hB hb
  clear hb
  go_wp2_with fail
  refine (large2No A B La ca Lb cb sa sb _).mono ?_
  rintro e wL ⟨rfl, rfl⟩
  replace Pa := Pa.alloc (.cells #[.slice A La ca, .slice B Lb cb] 23)
  replace Pb := Pb.alloc (.cells #[.slice A La ca, .slice B Lb cb] 23)
  replace hB := below_alloc hB (.cells #[.slice A La ca, .slice B Lb cb] 23)
  generalize hVL : World.alloc _ _ = VL at Pa Pb hB ⊢
  clear hVL
  go_wp2_with fail
  refine (gDeg ((kx : Int)) Pa ha.out dX.out la).mono ?_
  rintro e w2 ⟨rfl, rfl⟩
  go_wp2_with fail
  refine (gDeg (-1) Pb hb'.out dY.out lb).mono ?_
  rintro e w3 ⟨rfl, rfl⟩
  go_wp2_with fail
  refine (gMul P Pa Pb ha.out hb'.out eP.out la lb).mono ?_
  rintro e w4 ⟨A4, c4, rfl, P1, hb⟩
  replace Pa := Pa.below hb
  replace Pb := Pb.below hb
  replace hB := below_then hB hb
  clear hb
  go_wp2_with fail
  refine (gDeg (-1) P1 rfl (by rw [leN_wordsOf]; exact dP.out) lP.out).mono ?_
  rintro e w5 ⟨rfl, rfl⟩
  go_wp2_with fail
  refine (gAdd S Pa Pb ha.out hb'.out eS.out la lb).mono ?_
  rintro e w6 ⟨A6, c6, rfl, P2, hb⟩
  replace Pa := Pa.below hb
  replace Pb := Pb.below hb
  replace P1 := P1.below hb
  replace hB := below_then hB hb
  clear hb
  go_wp2_with fail
  refine (gDeg (ds) P2 rfl (by rw [leN_wordsOf]; exact dS.out) lS.out).mono ?_
  rintro e w7 ⟨rfl, rfl⟩
  clear P1
  clear P2
  go_wp2_with fail
  go_ret
  exact ⟨rfl, hB⟩
set_option maxRecDepth 100000 in
set_option maxHeartbeats 4000000 in
theorem degrees_eq (A B : Option Addr) (ca cb La Lb : Nat) (xs ys : List Nat) (P S n : Nat) (U kx k1 : Nat) (ds : Int) (bx : kx ≤ 2000) (hds : ds ≤ (kx : Int)) (hn : n ≤ 2048) (w : World) (Pa : Pol w A ca xs) (Pb : Pol w B cb ys) (ha : Hid (xs.length = La)) (hb' : Hid (ys.length = Lb)) (sa : La ≤ 16) (sb : Lb ≤ 16) (la : La ≤ 50000) (lb : Lb ≤ 50000) (eP : Hid (clm (leN xs) (leN ys) = P)) (eS : Hid (leN xs ^^^ leN ys = S)) (dX : Hid (((len (leN xs) : Nat) : Int) - 1 = (kx : Int))) (dY : Hid (((len (leN ys) : Nat) : Int) - 1 = (kx : Int))) (dP : Hid (((len P : Nat) : Int) - 1 = ((kx : Int) + (kx : Int)))) (dS : Hid (((len S : Nat) : Int) - 1 = ds)) (eU : Hid (leN xs * 2 ^ n = U)) (dU : Hid (((len U : Nat) : Int) - 1 = ((kx : Int) + (n : Int)))) (eU2 : Hid (clm (leN xs) (2 ^ n) = U)) (y1 : Hid (leN xs / 2 ^ kx % 2 = 1)) (y2 : Hid (leN xs / 2 ^ k1 % 2 = 0)) (lP : Hid ((wordsOf P).length ≤ 50000)) (lS : Hid ((wordsOf S).length ≤ 50000)) (lU : Hid ((wordsOf U).length ≤ 50000)) (lX : Hid ((wordsOf (2 ^ n)).length ≤ 50000)) (e1 : (kx : Int) + 1 = (k1 : Int)) (b1 : k1 ≤ 3000) :
    Calls Try.prog 6 #[.slice A La ca, .slice B Lb cb, .int .u16 (n : Int)] w (Bl true w) := by
  go_enter Try.func6, Try.ntmps6
  have hB : Below w.heap.size w w := Below.refl _ _
  go_wp2_with fail
  refine (awake _).mono ?_
  rintro e w1 ⟨rfl, hb⟩
  replace Pa := Pa.below hb
  replace Pb := Pb.below hb
  replace hB := below_then hB hb
  clear hb
  go_wp2_with fail
  refine (large2No A B La ca Lb cb sa sb _).mono ?_
  rintro e wL ⟨rfl, rfl⟩
  replace Pa := Pa.alloc (.cells #[.slice A La ca, .slice B Lb cb] 23)
  replace Pb := Pb.alloc (.cells #[.slice A La ca, .slice B Lb cb] 23)
  replace hB := below_alloc hB (.cells #[.slice A La ca, .slice B Lb cb] 23)
  generalize hVL : World.alloc _ _ = VL at Pa Pb hB ⊢
  clear hVL
  go_wp2_with fail
  refine (gDeg ((kx : Int)) Pa ha.out dX.out la).mono ?_
  rintro e w2 ⟨rfl, rfl⟩
  go_wp2_with fail
  refine (gDeg ((kx : Int)) Pb hb'.out dY.out lb).mono ?_
  rintro e w3 ⟨rfl, rfl⟩
  go_wp2_with fail
  refine (gMul P Pa Pb ha.out hb'.out eP.out la lb).mono ?_
  rintro e w4 ⟨A4, c4, rfl, P1, hb⟩
  replace Pa := Pa.below hb
  replace Pb := Pb.below hb
  replace hB := below_then hB hb
  clear hb
  go_wp2_with fail
  refine (gDeg (((kx : Int) + (kx : Int))) P1 rfl (by rw [leN_wordsOf]; exact dP.out) lP.out).mono ?_
  rintro e w5 ⟨rfl, rfl⟩
  go_wp2_with fail
  refine (gAdd S Pa Pb ha.out hb'.out eS.out la lb).mono ?_
  rintro e w6 ⟨A6, c6, rfl, P2, hb⟩
  replace Pa := Pa.below hb
  replace Pb := Pb.below hb
  replace P1 := P1.below hb
  replace hB := below_then hB hb
  clear hb
  go_wp2_with fail
  refine (gDeg (ds) P2 rfl (by rw [leN_wordsOf]; exact dS.out) lS.out).mono ?_
  rintro e w7 ⟨rfl, rfl⟩
  clear P1
  clear P2
  go_wp2_with fail
  refine (gUp n U Pa ha.out eU.out la hn).mono ?_
  rintro e w8 ⟨A8, c8, rfl, P3, hb⟩
  replace Pa := Pa.below hb
  replace Pb := Pb.below hb
  replace hB := below_then hB hb
  clear hb
  go_wp2_with fail
  refine (gDeg ((kx : Int) + (n : Int)) P3 rfl (by rw [leN_wordsOf]; exact dU.out) lU.out).mono ?_
  rintro e w9 ⟨rfl, rfl⟩
  clear P3
  go_wp2_with fail
  refine (gUp n U Pa ha.out eU.out la hn).mono ?_
  rintro e w10 ⟨A10, c10, rfl, P4, hb⟩
  replace Pa := Pa.below hb
  replace Pb := Pb.below hb
  replace hB := below_then hB hb
  clear hb
  go_wp2_with fail
  refine (cX n hn _).mono ?_
  rintro e w11 ⟨A11, c11, rfl, P5, hb⟩
  replace Pa := Pa.below hb
  replace Pb := Pb.below hb
  replace P4 := P4.below hb
  replace hB := below_then hB hb
  clear hb
  go_wp2_with fail
  refine (gMul U Pa P5 ha.out rfl (by rw [leN_wordsOf]; exact eU2.out) la lX.out).mono ?_
  rintro e w12 ⟨A12, c12, rfl, P6, hb⟩
  replace Pa := Pa.below hb
  replace Pb := Pb.below hb
  replace P4 := P4.below hb
  replace P5 := P5.below hb
  replace hB := below_then hB hb
  clear hb
  go_wp2_with fail
  refine (gSame true P4 P6 rfl rfl (sameN_self _) lU.out).mono ?_
  rintro e w13 ⟨rfl, hb⟩
  replace Pa := Pa.below hb
  replace Pb := Pb.below hb
  replace P4 := P4.below hb
  replace P5 := P5.below hb
  replace P6 := P6.below hb
  replace hB := below_then hB hb
  clear hb
  clear P4
  clear P5
  clear P6
  go_wp2_with fail
  refine (gBit kx 1 Pa ha.out (by rw [y1.out]; rfl) (by omega)).mono ?_
  rintro e w14 ⟨rfl, rfl⟩
  go_wp2_with fail
  refine (gBit k1 0 Pa ha.out (by rw [y2.out]; rfl) (by omega)).mono ?_
  rintro e w15 ⟨rfl, rfl⟩
  go_wp2_with fail
  go_ret
  exact ⟨rfl, hB⟩
set_option maxRecDepth 100000 in
set_option maxHeartbeats 4000000 in
theorem degrees_gt (A B : Option Addr) (ca cb La Lb : Nat) (xs ys : List Nat) (P S n : Nat) (U kx ky k1 : Nat) (bx : kx ≤ 2000) (bky : ky ≤ 2000) (hm : max (kx : Int) (ky : Int) = (kx : Int)) (hq : ((kx : Int) == (ky : Int)) = false) (hq2 : (kx == ky) = false) (hn : n ≤ 2048) (w : World) (Pa : Pol w A ca xs) (Pb : Pol w B cb ys) (ha : Hid (xs.length = La)) (hb' : Hid (ys.length = Lb)) (sa : La ≤ 16) (sb : Lb ≤ 16) (la : La ≤ 50000) (lb : Lb ≤ 50000) (eP : Hid (clm (leN xs) (leN ys) = P)) (eS : Hid (leN xs ^^^ leN ys = S)) (dX : Hid (((len (leN xs) : Nat) : Int) - 1 = (kx : Int))) (dY : Hid (((len (leN ys) : Nat) : Int) - 1 = (ky : Int))) (dP : Hid (((len P : Nat) : Int) - 1 = ((kx : Int) + (ky : Int)))) (dS : Hid (((len S : Nat) : Int) - 1 = (kx : Int))) (eU : Hid (leN xs * 2 ^ n = U)) (dU : Hid (((len U : Nat) : Int) - 1 = ((kx : Int) + (n : Int)))) (eU2 : Hid (clm (leN xs) (2 ^ n) = U)) (y1 : Hid (leN xs / 2 ^ kx % 2 = 1)) (y2 : Hid (leN xs / 2 ^ k1 % 2 = 0)) (lP : Hid ((wordsOf P).length ≤ 50000)) (lS : Hid ((wordsOf S).length ≤ 50000)) (lU : Hid ((wordsOf U).length ≤ 50000)) (lX : Hid ((wordsOf (2 ^ n)).length ≤ 50000)) (e1 : (kx : Int) + 1 = (k1 : Int)) (b1 : k1 ≤ 3000) :
    Calls Try.prog 6 #[.slice A La ca, .slice B Lb cb, .int .u16 (n : Int)] w (Bl true w) := by
  go_enter Try.func6, Try.ntmps6
  have hB : Below w.heap.size w w := Below.refl _ _
  go_wp2_with fail
  refine (awake _).mono ?_
  rintro e w1 ⟨rfl, hb⟩
  replace Pa := Pa.below hb
  replace Pb := Pb.below hb
  replace hB := below_then hB hb
  clear hb
  go_wp2_with fail
  refine (large2No A B La ca Lb cb sa sb _).mono ?_
  rintro e wL ⟨rfl, rfl⟩
  replace Pa := Pa.alloc (.cells #[.slice A La ca, .slice B Lb cb] 23)
  replace Pb := Pb.alloc (.cells #[.slice A La ca, .slice B Lb cb] 23)
  replace hB := below_alloc hB (.cells #[.slice A La ca, .slice B Lb cb] 23)
  generalize hVL : World.alloc _ _ = VL at Pa Pb hB ⊢
  clear hVL
  go_wp2_with fail
  refine (gDeg ((kx : Int)) Pa ha.out dX.out la).mono ?_
  rintro e w2 ⟨rfl, rfl⟩
  go_wp2_with fail
  refine (gDeg ((ky : Int)) Pb hb'.out dY.out lb).mono ?_
  rintro e w3 ⟨rfl, rfl⟩
  go_wp2_with fail
  refine (gMul P Pa Pb ha.out hb'.out eP.out la lb).mono ?_
  rintro e w4 ⟨A4, c4, rfl, P1, hb⟩
  replace Pa := Pa.below hb
  replace Pb := Pb.below hb
  replace hB := below_then hB hb
  clear hb
  go_wp2_with fail
  refine (gDeg (((kx : Int) + (ky : Int))) P1 rfl (by rw [leN_wordsOf]; exact dP.out) lP.out).mono ?_
  rintro e w5 ⟨rfl, rfl⟩
  go_wp2_with fail
  refine (gAdd S Pa Pb ha.out hb'.out eS.out la lb).mono ?_
  rintro e w6 ⟨A6, c6, rfl, P2, hb⟩
  replace Pa := Pa.below hb
  replace Pb := Pb.below hb
  replace P1 := P1.below hb
  replace hB := below_then hB hb
  clear hb
  go_wp2_with fail
  refine (gDeg ((kx : Int)) P2 rfl (by rw [leN_wordsOf]; exact dS.out) lS.out).mono ?_
  rintro e w7 ⟨rfl, rfl⟩
  clear P1
  clear P2
  go_wp2_with fail
  refine (gUp n U Pa ha.out eU.out la hn).mono ?_
  rintro e w8 ⟨A8, c8, rfl, P3, hb⟩
  replace Pa := Pa.below hb
  replace Pb := Pb.below hb
  replace hB := below_then hB hb
  clear hb
  go_wp2_with fail
  refine (gDeg ((kx : Int) + (n : Int)) P3 rfl (by rw [leN_wordsOf]; exact dU.out) lU.out).mono ?_
  rintro e w9 ⟨rfl, rfl⟩
  clear P3
  go_wp2_with fail
  refine (gUp n U Pa ha.out eU.out la hn).mono ?_
  rintro e w10 ⟨A10, c10, rfl, P4, hb⟩
  replace Pa := Pa.below hb
  replace Pb := Pb.below hb
  replace hB := below_then hB hb
  clear hb
  go_wp2_with fail
  refine (cX n hn _).mono ?_
  rintro e w11 ⟨A11, c11, rfl, P5, hb⟩
  replace Pa := Pa.below hb
  replace Pb := Pb.below hb
  replace P4 := P4.below hb
  replace hB := below_then hB hb
  clear hb
  go_wp2_with fail
  refine (gMul U Pa P5 ha.out rfl (by rw [leN_wordsOf]; exact eU2.out) la lX.out).mono ?_
  rintro e w12 ⟨A12, c12, rfl, P6, hb⟩
  replace Pa := Pa.below hb
  replace Pb := Pb.below hb
  replace P4 := P4.below hb
  replace P5 := P5.below hb
  replace hB := below_then hB hb
  clear hb
  go_wp2_with fail
  refine (gSame true P4 P6 rfl rfl (sameN_self _) lU.out).mono ?_
  rintro e w13 ⟨rfl, hb⟩
  replace Pa := Pa.below hb
  replace Pb := Pb.below hb
  replace P4 := P4.below hb
  replace P5 := P5.below hb
  replace P6 := P6.below hb
  replace hB := below_then hB hb
  clear hb
  clear P4
  clear P5
  clear P6
  go_wp2_with fail
  refine (gBit kx 1 Pa ha.out (by rw [y1.out]; rfl) (by omega)).mono ?_
  rintro e w14 ⟨rfl, rfl⟩
  go_wp2_with fail
  refine (gBit k1 0 Pa ha.out (by rw [y2.out]; rfl) (by omega)).mono ?_
  rintro e w15 ⟨rfl, rfl⟩
  go_wp2_with fail
  go_ret
  exact ⟨rfl, hB⟩
set_option maxRecDepth 100000 in
set_option maxHeartbeats 4000000 in
theorem degrees_lt (A B : Option Addr) (ca cb La Lb : Nat) (xs ys : List Nat) (P S n : Nat) (U kx ky k1 : Nat) (bx : kx ≤ 2000) (bky : ky ≤ 2000) (hm : max (kx : Int) (ky : Int) = (ky : Int)) (hq : ((kx : Int) == (ky : Int)) = false) (hq2 : (kx == ky) = false) (hn : n ≤ 2048) (w : World) (Pa : Pol w A ca xs) (Pb : Pol w B cb ys) (ha : Hid (xs.length = La)) (hb' : Hid (ys.length = Lb)) (sa : La ≤ 16) (sb : Lb ≤ 16) (la : La ≤ 50000) (lb : Lb ≤ 50000) (eP : Hid (clm (leN xs) (leN ys) = P)) (eS : Hid (leN xs ^^^ leN ys = S)) (dX : Hid (((len (leN xs) : Nat) : Int) - 1 = (kx : Int))) (dY : Hid (((len (leN ys) : Nat) : Int) - 1 = (ky : Int))) (dP : Hid (((len P : Nat) : Int) - 1 = ((kx : Int) + (ky : Int)))) (dS : Hid (((len S : Nat) : Int) - 1 = (ky : Int))) (eU : Hid (leN xs * 2 ^ n = U)) (dU : Hid (((len U : Nat) : Int) - 1 = ((kx : Int) + (n : Int)))) (eU2 : Hid (clm (leN xs) (2 ^ n) = U)) (y1 : Hid (leN xs / 2 ^ kx % 2 = 1)) (y2 : Hid (leN xs / 2 ^ k1 % 2 = 0)) (lP : Hid ((wordsOf P).length ≤ 50000)) (lS : Hid ((wordsOf S).length ≤ 50000)) (lU : Hid ((wordsOf U).length ≤ 50000)) (lX : Hid ((wordsOf (2 ^ n)).length ≤ 50000)) (e1 : (kx : Int) + 1 = (k1 : Int)) (b1 : k1 ≤ 3000) :
    Calls Try.prog 6 #[.slice A La ca, .slice B Lb cb, .int .u16 (n : Int)] w (Bl true w) := by
  go_enter Try.func6, Try.ntmps6
  have hB : Below w.heap.size w w := Below.refl _ _
  go_wp2_with fail
  refine (awake _).mono ?_
  rintro e w1 ⟨rfl, hb⟩
  replace Pa := Pa.below hb
  replace Pb := Pb.below hb
  replace hB := below_then hB hb
  clear hb
  go_wp2_with fail
  refine (large2No A B La ca Lb cb sa sb _).mono ?_
  rintro e wL ⟨rfl, rfl⟩
  replace Pa := Pa.alloc (.cells #[.slice A La ca, .slice B Lb cb] 23)
  replace Pb := Pb.alloc (.cells #[.slice A La ca, .slice B Lb cb] 23)
  replace hB := below_alloc hB (.cells #[.slice A La ca, .slice B Lb cb] 23)
  generalize hVL : World.alloc _ _ = VL at Pa Pb hB ⊢
  clear hVL
  go_wp2_with fail
  refine (gDeg ((kx : Int)) Pa ha.out dX.out la).mono ?_
  rintro e w2 ⟨rfl, rfl⟩
  go_wp2_with fail
  refine (gDeg ((ky : Int)) Pb hb'.out dY.out lb).mono ?_
  rintro e w3 ⟨rfl, rfl⟩
  go_wp2_with fail
  refine (gMul P Pa Pb ha.out hb'.out eP.out la lb).mono ?_
  rintro e w4 ⟨A4, c4, rfl, P1, hb⟩
  replace Pa := Pa.below hb
  replace Pb := Pb.below hb
  replace hB := below_then hB hb
  clear hb
  go_wp2_with fail
  refine (gDeg (((kx : Int) + (ky : Int))) P1 rfl (by rw [leN_wordsOf]; exact dP.out) lP.out).mono ?_
  rintro e w5 ⟨rfl, rfl⟩
  go_wp2_with fail
  refine (gAdd S Pa Pb ha.out hb'.out eS.out la lb).mono ?_
  rintro e w6 ⟨A6, c6, rfl, P2, hb⟩
  replace Pa := Pa.below hb
  replace Pb := Pb.below hb
  replace P1 := P1.below hb
  replace hB := below_then hB hb
  clear hb
  go_wp2_with fail
  refine (gDeg ((ky : Int)) P2 rfl (by rw [leN_wordsOf]; exact dS.out) lS.out).mono ?_
  rintro e w7 ⟨rfl, rfl⟩
  clear P1
  clear P2
  go_wp2_with fail
  refine (gUp n U Pa ha.out eU.out la hn).mono ?_
  rintro e w8 ⟨A8, c8, rfl, P3, hb⟩
  replace Pa := Pa.below hb
  replace Pb := Pb.below hb
  replace hB := below_then hB hb
  clear hb
  go_wp2_with fail
  refine (gDeg ((kx : Int) + (n : Int)) P3 rfl (by rw [leN_wordsOf]; exact dU.out) lU.out).mono ?_
  rintro e w9 ⟨rfl, rfl⟩
  clear P3
  go_wp2_with fail
  refine (gUp n U Pa ha.out eU.out la hn).mono ?_
  rintro e w10 ⟨A10, c10, rfl, P4, hb⟩
  replace Pa := Pa.below hb
  replace Pb := Pb.below hb
  replace hB := below_then hB hb
  clear hb
  go_wp2_with fail
  refine (cX n hn _).mono ?_
  rintro e w11 ⟨A11, c11, rfl, P5, hb⟩
  replace Pa := Pa.below hb
  replace Pb := Pb.below hb
  replace P4 := P4.below hb
  replace hB := below_then hB hb
  clear hb
  go_wp2_with fail
  refine (gMul U Pa P5 ha.out rfl (by rw [leN_wordsOf]; exact eU2.out) la lX.out).mono ?_
  rintro e w12 ⟨A12, c12, rfl, P6, hb⟩
  replace Pa := Pa.below hb
  replace Pb := Pb.below hb
  replace P4 := P4.below hb
  replace P5 := P5.below hb
  replace hB := below_then hB hb
  clear hb
  go_wp2_with fail
  refine (gSame true P4 P6 rfl rfl (sameN_self _) lU.out).mono ?_
  rintro e w13 ⟨rfl, hb⟩
  replace Pa := Pa.below hb
  replace Pb := Pb.below hb
  replace P4 := P4.below hb
  replace P5 := P5.below hb
  replace P6 := P6.below hb
  replace hB := below_then hB hb
  clear hb
  clear P4
  clear P5
  clear P6
  go_wp2_with fail
  refine (gBit kx 1 Pa ha.out (by rw [y1.out]; rfl) (by omega)).mono ?_
  rintro e w14 ⟨rfl, rfl⟩
  go_wp2_with fail
  refine (gBit k1 0 Pa ha.out (by rw [y2.out]; rfl) (by omega)).mono ?_
  rintro e w15 ⟨rfl, rfl⟩
  go_wp2_with fail
  go_ret
  exact ⟨rfl, hB⟩
set_option maxRecDepth 100000 in
set_option maxHeartbeats 4000000 in
theorem degreesLarge (A B : Option Addr) (ca cb La Lb n : Nat) (w : World) (h : 16 < La ∨ 16 < Lb) :
    Calls Try.prog 6 #[.slice A La ca, .slice B Lb cb, .int .u16 (n : Int)] w (Bl true w) := by
  go_enter Try.func6, Try.ntmps6
  have hB : Below w.heap.size w w := Below.refl _ _
  go_wp2_with fail
  refine (awake _).mono ?_
  rintro e w1 ⟨rfl, hb⟩
  replace hB := below_then hB hb
  clear hb
  go_wp2_with fail
  refine (large2Yes A B La ca Lb cb h _).mono ?_
  rintro e wL ⟨rfl, rfl⟩
  replace hB := below_alloc hB (.cells #[.slice A La ca, .slice B Lb cb] 23)
  generalize hVL : World.alloc _ _ = VL at hB ⊢
  clear hVL
  go_wp2_with fail
  go_ret
  exact ⟨rfl, hB⟩
set_option maxRecDepth 100000 in
set_option maxHeartbeats 4000000 in
theorem degreesOut (A B : Option Addr) (ca cb La Lb n : Nat) (w : World) (sa : La ≤ 16) (sb : Lb ≤ 16) (hn : 2048 < n) (hn2 : n ≤ 65535) :
    Calls Try.prog 6 #[.slice A La ca, .slice B Lb cb, .int .u16 (n : Int)] w (Bl true w) := by
  go_enter Try.func6, Try.ntmps6
  have hB : Below w.heap.size w w := Below.refl _ _
  go_wp2_with fail
  refine (awake _).mono ?_
  rintro e w1 ⟨rfl, hb⟩
  replace hB := below_then hB hb
  clear hb
  go_wp2_with fail
  refine (large2No A B La ca Lb cb sa sb _).mono ?_
  rintro e wL ⟨rfl, rfl⟩
  replace hB := below_alloc hB (.cells #[.slice A La ca, .slice B Lb cb] 23)
  generalize hVL : World.alloc _ _ = VL at hB ⊢
  clear hVL
  go_wp2_with fail
  go_ret
  exact ⟨rfl, hB⟩
end Go.Proofs.Ytmfgpijaplokiaa
