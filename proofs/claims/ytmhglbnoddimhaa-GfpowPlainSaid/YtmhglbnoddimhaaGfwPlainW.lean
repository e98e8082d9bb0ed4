/-
  GfpowPlain of layer 4 answers true for every two polynomials and every number of 8 bits. Made by wip/gen/gfwlaws.py.
-/
import Derived.Test.YtmhglbnoddimhaaGfwJ
import Derived.Test.YtmhglbnoddimhaaGfwV
namespace Go.Proofs.Ytmhglbnoddimhaa
open Go.RowKit G
set_option linter.unusedVariables false

theorem sameL_self (us : List Nat) : sameL us us = true := by unfold sameL; simp
set_option maxRecDepth 100000 in
set_option maxHeartbeats 4000000 in
theorem plain_main (A B : Option Addr) (ca cb La Lb n : Nat) (xs ys : List Nat) (d X Y R : Nat) (w : World) (Pa : Pol w A ca xs) (Pb : Pol w B cb ys) (ha : Hid (xs.length = La)) (hb' : Hid (ys.length = Lb)) (a1 : ¬ ((2 : Int) < (La : Int))) (a2 : decide ((2 : Int) < (La : Int)) = false) (b1 : ¬ ((2 : Int) < (Lb : Int))) (b2 : decide ((2 : Int) < (Lb : Int)) = false) (sa : La ≤ 2) (sb : Lb ≤ 2) (bn : n ≤ 40) (n1 : ¬ ((40 : Int) < (n : Int))) (n2 : decide ((40 : Int) < (n : Int)) = false) (h0 : Hid (leN ys ≠ 0)) (y0 : Hid (Y ≠ 0)) (dd : Hid (((len (leN ys) : Nat) : Int) - 1 = (d : Int))) (bd : d ≤ 1000) (eX : Hid (leN xs = X)) (eY : Hid (leN ys = Y)) (eR : Hid (pr (leN xs) n (leN ys) = R)) (eR2 : Hid (pr X n Y = R)) (lX : Hid ((bitsOf X).length ≤ 20000)) (lY : Hid ((bitsOf Y).length ≤ 20000)) (lR : Hid ((bitsOf R).length ≤ 900000)) (kR : Hid ((wordsOf R).length ≤ 50000)) :
    Calls Try.prog 4 #[.slice A La ca, .slice B Lb cb, .int .u8 (n : Int)] w (Bl true w) := by
  go_enter Try.func4, Try.ntmps4
  have hB : Below w.heap.size w w := Below.refl _ _
  go_wp2_with fail
  refine (awake4 _).mono ?_
  rintro e w1 ⟨rfl, hb⟩
  replace Pa := Pa.below hb
  replace Pb := Pb.below hb
  replace hB := below_then hB hb
  clear hb
  go_wp2_with fail
  refine (gDeg (d : Int) Pb hb'.out dd.out (by omega)).mono ?_
  rintro e w2 ⟨rfl, rfl⟩
  go_wp2_with fail
  refine (cOf n n rfl (by omega) _).mono ?_
  rintro e w3 ⟨rfl, hb⟩
  replace Pa := Pa.below hb
  replace Pb := Pb.below hb
  replace hB := below_then hB hb
  clear hb
  go_wp2_with fail
  refine (gPow R (wn_of (by omega)) Pa Pb ha.out hb'.out eR.out (by omega) (by omega) h0.out).mono ?_
  rintro e w4 ⟨A4, c4, rfl, Px, hb⟩
  replace Pa := Pa.below hb
  replace Pb := Pb.below hb
  replace hB := below_then hB hb
  clear hb
  go_wp2_with fail
  refine (rParts X Pa ha.out eX.out (by omega)).mono ?_
  rintro e w5 ⟨A5, c5, rfl, Lx, hb⟩
  replace Pa := Pa.below hb
  replace Pb := Pb.below hb
  replace Px := Px.below hb
  replace hB := below_then hB hb
  clear hb
  go_wp2_with fail
  refine (rParts Y Pb hb'.out eY.out (by omega)).mono ?_
  rintro e w6 ⟨A6, c6, rfl, Ly, hb⟩
  replace Pa := Pa.below hb
  replace Pb := Pb.below hb
  replace Px := Px.below hb
  replace Lx := Lx.below hb
  replace hB := below_then hB hb
  clear hb
  go_wp2_with fail
  refine (rPlain n X Y R n rfl Lx Ly rfl rfl (leB_bitsOf X) rfl eR2.out lX.out lY.out (by omega) y0.out).mono ?_
  rintro e w7 ⟨A7, c7, rfl, Lr, hb⟩
  replace Pa := Pa.below hb
  replace Pb := Pb.below hb
  replace Px := Px.below hb
  replace Lx := Lx.below hb
  replace Ly := Ly.below hb
  replace hB := below_then hB hb
  clear hb
  clear Lx
  clear Ly
  go_wp2_with fail
  refine (rOf R Lr rfl (leB_bitsOf R) lR.out).mono ?_
  rintro e w8 ⟨A8, c8, rfl, Po, hb⟩
  replace Pa := Pa.below hb
  replace Pb := Pb.below hb
  replace Px := Px.below hb
  replace Lr := Lr.below hb
  replace hB := below_then hB hb
  clear hb
  clear Lr
  go_wp2_with fail
  refine (gWords true Px Po rfl rfl (sameL_self _) kR.out).mono ?_
  rintro e w9 ⟨rfl, hb⟩
  replace Pa := Pa.below hb
  replace Pb := Pb.below hb
  replace Px := Px.below hb
  replace Po := Po.below hb
  replace hB := below_then hB hb
  clear hb
  clear Px
  clear Po
  go_wp2_with fail
  go_ret
  exact ⟨rfl, hB⟩
set_option maxRecDepth 100000 in
set_option maxHeartbeats 4000000 in
theorem plain_a (A B : Option Addr) (ca cb La Lb n : Nat) (xs ys : List Nat) (w : World) (Pa : Pol w A ca xs) (Pb : Pol w B cb ys) (ha : Hid (xs.length = La)) (hb' : Hid (ys.length = Lb)) (a1 : (2 : Int) < (La : Int)) :
    Calls Try.prog 4 #[.slice A La ca, .slice B Lb cb, .int .u8 (n : Int)] w (Bl true w) := by
  go_enter Try.func4, Try.ntmps4
  have hB : Below w.heap.size w w := Below.refl _ _
  go_wp2_with fail
  refine (awake4 _).mono ?_
  rintro e w1 ⟨rfl, hb⟩
  replace Pa := Pa.below hb
  replace Pb := Pb.below hb
  replace hB := below_then hB hb
  clear hb
  go_wp2_with fail
  go_ret
  exact ⟨rfl, hB⟩
set_option maxRecDepth 100000 in
set_option maxHeartbeats 4000000 in
theorem plain_b (A B : Option Addr) (ca cb La Lb n : Nat) (xs ys : List Nat) (w : World) (Pa : Pol w A ca xs) (Pb : Pol w B cb ys) (ha : Hid (xs.length = La)) (hb' : Hid (ys.length = Lb)) (a1 : ¬ ((2 : Int) < (La : Int))) (a2 : decide ((2 : Int) < (La : Int)) = false) (b1 : (2 : Int) < (Lb : Int)) :
    Calls Try.prog 4 #[.slice A La ca, .slice B Lb cb, .int .u8 (n : Int)] w (Bl true w) := by
  go_enter Try.func4, Try.ntmps4
  have hB : Below w.heap.size w w := Below.refl _ _
  go_wp2_with fail
  refine (awake4 _).mono ?_
  rintro e w1 ⟨rfl, hb⟩
  replace Pa := Pa.below hb
  replace Pb := Pb.below hb
  replace hB := below_then hB hb
  clear hb
  go_wp2_with fail
  go_ret
  exact ⟨rfl, hB⟩
set_option maxRecDepth 100000 in
set_option maxHeartbeats 4000000 in
theorem plain_n (A B : Option Addr) (ca cb La Lb n : Nat) (xs ys : List Nat) (w : World) (Pa : Pol w A ca xs) (Pb : Pol w B cb ys) (ha : Hid (xs.length = La)) (hb' : Hid (ys.length = Lb)) (a1 : ¬ ((2 : Int) < (La : Int))) (a2 : decide ((2 : Int) < (La : Int)) = false) (b1 : ¬ ((2 : Int) < (Lb : Int))) (b2 : decide ((2 : Int) < (Lb : Int)) = false) (bn : n ≤ 255) (n1 : (40 : Int) < (n : Int)) :
    Calls Try.prog 4 #[.slice A La ca, .slice B Lb cb, .int .u8 (n : Int)] w (Bl true w) := by
  go_enter Try.func4, Try.ntmps4
  have hB : Below w.heap.size w w := Below.refl _ _
  go_wp2_with fail
  refine (awake4 _).mono ?_
  rintro e w1 ⟨rfl, hb⟩
  replace Pa := Pa.below hb
  replace Pb := Pb.below hb
  replace hB := below_then hB hb
  clear hb
  go_wp2_with fail
  go_ret
  exact ⟨rfl, hB⟩
set_option maxRecDepth 100000 in
set_option maxHeartbeats 4000000 in
theorem plain_z (A B : Option Addr) (ca cb La Lb n : Nat) (xs ys : List Nat) (w : World) (Pa : Pol w A ca xs) (Pb : Pol w B cb ys) (ha : Hid (xs.length = La)) (hb' : Hid (ys.length = Lb)) (a1 : ¬ ((2 : Int) < (La : Int))) (a2 : decide ((2 : Int) < (La : Int)) = false) (b1 : ¬ ((2 : Int) < (Lb : Int))) (b2 : decide ((2 : Int) < (Lb : Int)) = false) (bn : n ≤ 40) (n1 : ¬ ((40 : Int) < (n : Int))) (n2 : decide ((40 : Int) < (n : Int)) = false) (sb : Lb ≤ 2) (dd : Hid (((len (leN ys) : Nat) : Int) - 1 = -1)) :
    Calls Try.prog 4 #[.slice A La ca, .slice B Lb cb, .int .u8 (n : Int)] w (Bl true w) := by
  go_enter Try.func4, Try.ntmps4
  have hB : Below w.heap.size w w := Below.refl _ _
  go_wp2_with fail
  refine (awake4 _).mono ?_
  rintro e w1 ⟨rfl, hb⟩
  replace Pa := Pa.below hb
  replace Pb := Pb.below hb
  replace hB := below_then hB hb
  clear hb
  go_wp2_with fail
  refine (gDeg (-1) Pb hb'.out dd.out (by omega)).mono ?_
  rintro e w2 ⟨rfl, rfl⟩
  go_wp2_with fail
  go_ret
  exact ⟨rfl, hB⟩
theorem plainWalk (A B : Option Addr) (ca cb La Lb n : Nat) (xs ys : List Nat) (w : World) (Pa : Pol w A ca xs) (Pb : Pol w B cb ys) (ha : xs.length = La) (hb : ys.length = Lb) (bn : n ≤ 255) :
    Calls Try.prog 4 #[.slice A La ca, .slice B Lb cb, .int .u8 (n : Int)] w (Bl true w) := by
  by_cases h1 : La ≤ 2
  · by_cases h2 : Lb ≤ 2
    · by_cases h3 : n ≤ 40
      · have ly := len_pol Pb hb
        have lx := len_pol Pa ha
        by_cases h0 : leN ys = 0
        · exact plain_z A B ca cb La Lb n xs ys w Pa Pb (Lib.hid ha) (Lib.hid hb) (by omega) (by simp; omega) (by omega) (by simp; omega) h3 (by omega) (by simp; omega) h2 (Lib.hid (by rw [h0]; rfl))
        · obtain ⟨d, hd⟩ : ∃ d, len (leN ys) = d + 1 := ⟨len (leN ys) - 1, by have := len_pos h0; omega⟩
          have l5 : ∀ z, len (rt z (leN ys)) ≤ 128 := fun z => by have := rt_lt (a := z) h0; omega
          exact plain_main A B ca cb La Lb n xs ys d (leN xs) (leN ys) _ w Pa Pb (Lib.hid ha) (Lib.hid hb) (by omega) (by simp; omega) (by omega) (by simp; omega) h1 h2 h3 (by omega) (by simp; omega) (Lib.hid h0) (Lib.hid h0) (Lib.hid (by omega)) (by omega) (Lib.hid rfl) (Lib.hid rfl) (Lib.hid rfl) (Lib.hid rfl)
            (Lib.hid (by rw [bitsOf_len]; omega)) (Lib.hid (by rw [bitsOf_len]; omega)) (Lib.hid (by rw [bitsOf_len]; exact Nat.le_trans (l5 _) (by decide))) (Lib.hid (Nat.le_trans (wl_len (k := 2) (l5 _)) (by decide)))
      · exact plain_n A B ca cb La Lb n xs ys w Pa Pb (Lib.hid ha) (Lib.hid hb) (by omega) (by simp; omega) (by omega) (by simp; omega) bn (by omega)
    · exact plain_b A B ca cb La Lb n xs ys w Pa Pb (Lib.hid ha) (Lib.hid hb) (by omega) (by simp; omega) (by omega)
  · exact plain_a A B ca cb La Lb n xs ys w Pa Pb (Lib.hid ha) (Lib.hid hb) (by omega)
end Go.Proofs.Ytmhglbnoddimhaa
