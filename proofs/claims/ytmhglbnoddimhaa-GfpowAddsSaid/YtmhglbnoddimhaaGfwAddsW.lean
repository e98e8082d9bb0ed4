/-
  GfpowAdds of layer 4 answers true for every two polynomials and every two numbers of 64 bits. Made by wip/gen/gfwlaws.py.
-/
import Derived.Test.YtmhglbnoddimhaaGfwFieldW
namespace Go.Proofs.Ytmhglbnoddimhaa
open Go.RowKit G
set_option linter.unusedVariables false

set_option maxRecDepth 100000 in
set_option maxHeartbeats 4000000 in
theorem adds_main (A B : Option Addr) (ca cb La Lb n m : Nat) (xs ys : List Nat) (d s q X Y Z V : Nat) (w : World) (Pa : Pol w A ca xs) (Pb : Pol w B cb ys) (ha : Hid (xs.length = La)) (hb' : Hid (ys.length = Lb)) (sa : La ≤ 4) (sb : Lb ≤ 4) (h0 : Hid (leN ys ≠ 0)) (dd : Hid (((len (leN ys) : Nat) : Int) - 1 = (d : Int))) (bd : d ≤ 1000) (bn : n < 18446744073709551616) (bm : m < 18446744073709551616) (n1 : ¬ ((1152921504606846976 : Int) < (n : Int))) (n2 : (n : Int) ≤ 1152921504606846976) (m1 : ¬ ((1152921504606846976 : Int) < (m : Int))) (m2 : (m : Int) ≤ 1152921504606846976) (es : ((s : Nat) : Int) = (n : Int) + (m : Int)) (bs : s < 18446744073709551616) (eX : Hid (pr (leN xs) n (leN ys) = X)) (eY : Hid (pr (leN xs) m (leN ys) = Y)) (eZ : Hid (pr (leN xs) s (leN ys) = Z)) (eM : Hid (rt (clm (leN (wordsOf X)) (leN (wordsOf Y))) (leN ys) = Z)) (eV : Hid (pr (leN (wordsOf X)) m (leN ys) = V)) (eq : Hid (n * m = q)) (bq : Hid (q < 340282366920938463463374607431768211456)) (eF : Hid (pr (leN xs) q (leN ys) = V)) (lX : Hid ((wordsOf X).length ≤ 25000)) (lY : Hid ((wordsOf Y).length ≤ 25000)) (kX : Hid ((wordsOf X).length ≤ 20000)) (lZ : Hid ((wordsOf Z).length ≤ 50000)) (lV : Hid ((wordsOf V).length ≤ 50000)) :
    Calls Try.prog 5 #[.slice A La ca, .slice B Lb cb, .int .u64 (n : Int), .int .u64 (m : Int)] w (Bl true w) := by
  go_enter Try.func5, Try.ntmps5
  have hB : Below w.heap.size w w := Below.refl _ _
  go_wp2_with fail
  refine (awake4 _).mono ?_
  rintro e w1 ⟨rfl, hb⟩
  replace Pa := Pa.below hb
  replace Pb := Pb.below hb
  replace hB := below_then hB hb
  clear hb
  go_wp2_with fail
  refine (large2No A B La ca Lb cb sa sb _).mono ?_
  rintro e wL ⟨rfl, rfl⟩
  replace Pa := Pa.alloc (.cells #[.slice A La ca, .slice B Lb cb] 23)
  replace Pb := Pb.alloc (.cells #[.slice A La ca, .slice B Lb cb] 23)
  replace hB := below_alloc hB (.cells #[.slice A La ca, .slice B Lb cb] 23)
  generalize hVL : World.alloc _ _ = VL at Pa Pb hB ⊢
  clear hVL
  go_wp2_with fail
  refine (gDeg (d : Int) Pb hb'.out dd.out (by omega)).mono ?_
  rintro e w2 ⟨rfl, rfl⟩
  go_wp2_with fail
  refine (cOf n n rfl bn _).mono ?_
  rintro e w3 ⟨rfl, hb⟩
  replace Pa := Pa.below hb
  replace Pb := Pb.below hb
  replace hB := below_then hB hb
  clear hb
  go_wp2_with fail
  refine (gPow X (wn_of (by omega)) Pa Pb ha.out hb'.out eX.out (by omega) (by omega) h0.out).mono ?_
  rintro e w4 ⟨A4, c4, rfl, Px, hb⟩
  replace Pa := Pa.below hb
  replace Pb := Pb.below hb
  replace hB := below_then hB hb
  clear hb
  go_wp2_with fail
  refine (cOf m m rfl bm _).mono ?_
  rintro e w5 ⟨rfl, hb⟩
  replace Pa := Pa.below hb
  replace Pb := Pb.below hb
  replace Px := Px.below hb
  replace hB := below_then hB hb
  clear hb
  go_wp2_with fail
  refine (gPow Y (wn_of (by omega)) Pa Pb ha.out hb'.out eY.out (by omega) (by omega) h0.out).mono ?_
  rintro e w6 ⟨A6, c6, rfl, Py, hb⟩
  replace Pa := Pa.below hb
  replace Pb := Pb.below hb
  replace Px := Px.below hb
  replace hB := below_then hB hb
  clear hb
  go_wp2_with fail
  refine (cOf s ((n : Int) + (m : Int)) es bs _).mono ?_
  rintro e w7 ⟨rfl, hb⟩
  replace Pa := Pa.below hb
  replace Pb := Pb.below hb
  replace Px := Px.below hb
  replace Py := Py.below hb
  replace hB := below_then hB hb
  clear hb
  go_wp2_with fail
  refine (gPow Z (wn_of (by omega)) Pa Pb ha.out hb'.out eZ.out (by omega) (by omega) h0.out).mono ?_
  rintro e w8 ⟨A8, c8, rfl, Pz, hb⟩
  replace Pa := Pa.below hb
  replace Pb := Pb.below hb
  replace Px := Px.below hb
  replace Py := Py.below hb
  replace hB := below_then hB hb
  clear hb
  go_wp2_with fail
  refine (gMulMod Z Px Py Pb rfl rfl hb'.out eM.out lX.out lY.out (by omega) h0.out).mono ?_
  rintro e w9 ⟨A9, c9, rfl, Pm, hb⟩
  replace Pa := Pa.below hb
  replace Pb := Pb.below hb
  replace Px := Px.below hb
  replace Py := Py.below hb
  replace Pz := Pz.below hb
  replace hB := below_then hB hb
  clear hb
  clear Py
  go_wp2_with fail
  refine (cOf m m rfl bm _).mono ?_
  rintro e w10 ⟨rfl, hb⟩
  replace Pa := Pa.below hb
  replace Pb := Pb.below hb
  replace Px := Px.below hb
  replace Pz := Pz.below hb
  replace Pm := Pm.below hb
  replace hB := below_then hB hb
  clear hb
  go_wp2_with fail
  refine (gPow V (wn_of (by omega)) Px Pb rfl hb'.out eV.out kX.out (by omega) h0.out).mono ?_
  rintro e w11 ⟨A11, c11, rfl, Pu, hb⟩
  replace Pa := Pa.below hb
  replace Pb := Pb.below hb
  replace Px := Px.below hb
  replace Pz := Pz.below hb
  replace Pm := Pm.below hb
  replace hB := below_then hB hb
  clear hb
  clear Px
  go_wp2_with fail
  refine (cFull n m q eq.out bn bm _).mono ?_
  rintro e w12 ⟨rfl, hb⟩
  replace Pa := Pa.below hb
  replace Pb := Pb.below hb
  replace Pz := Pz.below hb
  replace Pm := Pm.below hb
  replace Pu := Pu.below hb
  replace hB := below_then hB hb
  clear hb
  go_wp2_with fail
  refine (gPow V (wn_of bq.out) Pa Pb ha.out hb'.out eF.out (by omega) (by omega) h0.out).mono ?_
  rintro e w13 ⟨A13, c13, rfl, Pf, hb⟩
  replace Pa := Pa.below hb
  replace Pb := Pb.below hb
  replace Pz := Pz.below hb
  replace Pm := Pm.below hb
  replace Pu := Pu.below hb
  replace hB := below_then hB hb
  clear hb
  go_wp2_with fail
  refine (gSame true Pz Pm rfl rfl (sameN_self _) lZ.out).mono ?_
  rintro e w14 ⟨rfl, hb⟩
  replace Pa := Pa.below hb
  replace Pb := Pb.below hb
  replace Pz := Pz.below hb
  replace Pm := Pm.below hb
  replace Pu := Pu.below hb
  replace Pf := Pf.below hb
  replace hB := below_then hB hb
  clear hb
  clear Pz
  clear Pm
  go_wp2_with fail
  refine (gSame true Pu Pf rfl rfl (sameN_self _) lV.out).mono ?_
  rintro e w15 ⟨rfl, hb⟩
  replace Pa := Pa.below hb
  replace Pb := Pb.below hb
  replace Pu := Pu.below hb
  replace Pf := Pf.below hb
  replace hB := below_then hB hb
  clear hb
  clear Pu
  clear Pf
  go_wp2_with fail
  go_ret
  exact ⟨rfl, hB⟩
set_option maxRecDepth 100000 in
set_option maxHeartbeats 4000000 in
theorem adds_zero (A B : Option Addr) (ca cb La Lb n m : Nat) (xs ys : List Nat) (w : World) (Pa : Pol w A ca xs) (Pb : Pol w B cb ys) (ha : Hid (xs.length = La)) (hb' : Hid (ys.length = Lb)) (sa : La ≤ 4) (sb : Lb ≤ 4) (dd : Hid (((len (leN ys) : Nat) : Int) - 1 = -1)) :
    Calls Try.prog 5 #[.slice A La ca, .slice B Lb cb, .int .u64 (n : Int), .int .u64 (m : Int)] w (Bl true w) := by
  go_enter Try.func5, Try.ntmps5
  have hB : Below w.heap.size w w := Below.refl _ _
  go_wp2_with fail
  refine (awake4 _).mono ?_
  rintro e w1 ⟨rfl, hb⟩
  replace Pa := Pa.below hb
  replace Pb := Pb.below hb
  replace hB := below_then hB hb
  clear hb
  go_wp2_with fail
  refine (large2No A B La ca Lb cb sa sb _).mono ?_
  rintro e wL ⟨rfl, rfl⟩
  replace Pa := Pa.alloc (.cells #[.slice A La ca, .slice B Lb cb] 23)
  replace Pb := Pb.alloc (.cells #[.slice A La ca, .slice B Lb cb] 23)
  replace hB := below_alloc hB (.cells #[.slice A La ca, .slice B Lb cb] 23)
  generalize hVL : World.alloc _ _ = VL at Pa Pb hB ⊢
  clear hVL
  go_wp2_with fail
  refine (gDeg (-1) Pb hb'.out dd.out (by omega)).mono ?_
  rintro e w2 ⟨rfl, rfl⟩
  go_wp2_with fail
  go_ret
  exact ⟨rfl, hB⟩
set_option maxRecDepth 100000 in
set_option maxHeartbeats 4000000 in
theorem adds_n (A B : Option Addr) (ca cb La Lb n m : Nat) (xs ys : List Nat) (d : Nat) (w : World) (Pa : Pol w A ca xs) (Pb : Pol w B cb ys) (ha : Hid (xs.length = La)) (hb' : Hid (ys.length = Lb)) (sa : La ≤ 4) (sb : Lb ≤ 4) (dd : Hid (((len (leN ys) : Nat) : Int) - 1 = (d : Int))) (bd : d ≤ 1000) (bn : n < 18446744073709551616) (n1 : (1152921504606846976 : Int) < (n : Int)) :
    Calls Try.prog 5 #[.slice A La ca, .slice B Lb cb, .int .u64 (n : Int), .int .u64 (m : Int)] w (Bl true w) := by
  go_enter Try.func5, Try.ntmps5
  have hB : Below w.heap.size w w := Below.refl _ _
  go_wp2_with fail
  refine (awake4 _).mono ?_
  rintro e w1 ⟨rfl, hb⟩
  replace Pa := Pa.below hb
  replace Pb := Pb.below hb
  replace hB := below_then hB hb
  clear hb
  go_wp2_with fail
  refine (large2No A B La ca Lb cb sa sb _).mono ?_
  rintro e wL ⟨rfl, rfl⟩
  replace Pa := Pa.alloc (.cells #[.slice A La ca, .slice B Lb cb] 23)
  replace Pb := Pb.alloc (.cells #[.slice A La ca, .slice B Lb cb] 23)
  replace hB := below_alloc hB (.cells #[.slice A La ca, .slice B Lb cb] 23)
  generalize hVL : World.alloc _ _ = VL at Pa Pb hB ⊢
  clear hVL
  go_wp2_with fail
  refine (gDeg (d : Int) Pb hb'.out dd.out (by omega)).mono ?_
  rintro e w2 ⟨rfl, rfl⟩
  go_wp2_with fail
  go_ret
  exact ⟨rfl, hB⟩
set_option maxRecDepth 100000 in
set_option maxHeartbeats 4000000 in
theorem adds_m (A B : Option Addr) (ca cb La Lb n m : Nat) (xs ys : List Nat) (d : Nat) (w : World) (Pa : Pol w A ca xs) (Pb : Pol w B cb ys) (ha : Hid (xs.length = La)) (hb' : Hid (ys.length = Lb)) (sa : La ≤ 4) (sb : Lb ≤ 4) (dd : Hid (((len (leN ys) : Nat) : Int) - 1 = (d : Int))) (bd : d ≤ 1000) (bn : n < 18446744073709551616) (bm : m < 18446744073709551616) (n1 : ¬ ((1152921504606846976 : Int) < (n : Int))) (n3 : decide ((1152921504606846976 : Int) < (n : Int)) = false) (m1 : (1152921504606846976 : Int) < (m : Int)) :
    Calls Try.prog 5 #[.slice A La ca, .slice B Lb cb, .int .u64 (n : Int), .int .u64 (m : Int)] w (Bl true w) := by
  go_enter Try.func5, Try.ntmps5
  have hB : Below w.heap.size w w := Below.refl _ _
  go_wp2_with fail
  refine (awake4 _).mono ?_
  rintro e w1 ⟨rfl, hb⟩
  replace Pa := Pa.below hb
  replace Pb := Pb.below hb
  replace hB := below_then hB hb
  clear hb
  go_wp2_with fail
  refine (large2No A B La ca Lb cb sa sb _).mono ?_
  rintro e wL ⟨rfl, rfl⟩
  replace Pa := Pa.alloc (.cells #[.slice A La ca, .slice B Lb cb] 23)
  replace Pb := Pb.alloc (.cells #[.slice A La ca, .slice B Lb cb] 23)
  replace hB := below_alloc hB (.cells #[.slice A La ca, .slice B Lb cb] 23)
  generalize hVL : World.alloc _ _ = VL at Pa Pb hB ⊢
  clear hVL
  go_wp2_with fail
  refine (gDeg (d : Int) Pb hb'.out dd.out (by omega)).mono ?_
  rintro e w2 ⟨rfl, rfl⟩
  go_wp2_with fail
  go_ret
  exact ⟨rfl, hB⟩
set_option maxRecDepth 100000 in
set_option maxHeartbeats 4000000 in
theorem adds_large (A B : Option Addr) (ca cb La Lb n m : Nat) (w : World) (h : 4 < La ∨ 4 < Lb) :
    Calls Try.prog 5 #[.slice A La ca, .slice B Lb cb, .int .u64 (n : Int), .int .u64 (m : Int)] w (Bl true w) := by
  go_enter Try.func5, Try.ntmps5
  have hB : Below w.heap.size w w := Below.refl _ _
  go_wp2_with fail
  refine (awake4 _).mono ?_
  rintro e w1 ⟨rfl, hb⟩
  replace hB := below_then hB hb
  clear hb
  go_wp2_with fail
  refine (large2Yes A B La ca Lb cb h _).mono ?_
  rintro e wL ⟨rfl, rfl⟩
  replace hB := below_alloc hB (.cells #[.slice A La ca, .slice B Lb cb] 23)
  generalize hVL : World.alloc _ _ = VL at hB ⊢
  clear hVL
  go_wp2_with fail
  go_ret
  exact ⟨rfl, hB⟩
theorem addsWalk (A B : Option Addr) (ca cb La Lb n m : Nat) (xs ys : List Nat) (w : World) (Pa : Pol w A ca xs) (Pb : Pol w B cb ys) (ha : xs.length = La) (hb : ys.length = Lb) (bn : n < 18446744073709551616) (bm : m < 18446744073709551616) :
    Calls Try.prog 5 #[.slice A La ca, .slice B Lb cb, .int .u64 (n : Int), .int .u64 (m : Int)] w (Bl true w) := by
  by_cases h : La ≤ 4 ∧ Lb ≤ 4
  · obtain ⟨sa, sb⟩ := h
    have ly := len_pol Pb hb
    by_cases h0 : leN ys = 0
    · exact adds_zero A B ca cb La Lb n m xs ys w Pa Pb (Lib.hid ha) (Lib.hid hb) sa sb (Lib.hid (by rw [h0]; rfl))
    · obtain ⟨d, hd⟩ : ∃ d, len (leN ys) = d + 1 := ⟨len (leN ys) - 1, by have := len_pos h0; omega⟩
      have dd := Lib.hid (show ((len (leN ys) : Nat) : Int) - 1 = (d : Int) from by omega)
      by_cases n1 : 1152921504606846976 < n
      · exact adds_n A B ca cb La Lb n m xs ys d w Pa Pb (Lib.hid ha) (Lib.hid hb) sa sb dd (by omega) bn (by omega)
      · by_cases m1 : 1152921504606846976 < m
        · exact adds_m A B ca cb La Lb n m xs ys d w Pa Pb (Lib.hid ha) (Lib.hid hb) sa sb dd (by omega) bn bm (by omega) (by simp; omega) (by omega)
        · have l5 : ∀ z, (wordsOf (rt z (leN ys))).length ≤ 5 := fun z => wl_len (by have := rt_lt (a := z) h0; omega)
          have lp : ∀ k, (wordsOf (pr (leN xs) k (leN ys))).length ≤ 5 := fun k => l5 _
          have q2 : n * m ≤ 1152921504606846976 * 1152921504606846976 := Nat.mul_le_mul (by omega) (by omega)
          exact adds_main A B ca cb La Lb n m xs ys d (n + m) (n * m) _ _ _ _ w Pa Pb (Lib.hid ha) (Lib.hid hb) sa sb (Lib.hid h0) dd (by omega) bn bm (by omega) (by omega) (by omega) (by omega) (by omega) (by omega)
            (Lib.hid rfl) (Lib.hid rfl) (Lib.hid rfl) (Lib.hid (by rw [leN_wordsOf, leN_wordsOf, pr_add h0])) (Lib.hid rfl) (Lib.hid rfl) (Lib.hid (by omega)) (Lib.hid (by rw [leN_wordsOf, pr_mul h0]))
            (Lib.hid (Nat.le_trans (lp _) (by decide))) (Lib.hid (Nat.le_trans (lp _) (by decide))) (Lib.hid (Nat.le_trans (lp _) (by decide))) (Lib.hid (Nat.le_trans (lp _) (by decide))) (Lib.hid (by rw [leN_wordsOf, ← pr_mul h0]; exact Nat.le_trans (lp _) (by decide)))
  · exact adds_large A B ca cb La Lb n m w (by omega)
end Go.Proofs.Ytmhglbnoddimhaa
