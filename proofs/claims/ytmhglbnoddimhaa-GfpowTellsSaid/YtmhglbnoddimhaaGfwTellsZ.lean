/-
  GfpowTells of layer 4 answers true for every two polynomials, every number of 128 bits and every int. Made by wip/gen/gfwtells.py.
-/
import Derived.Test.YtmhglbnoddimhaaGfwP
namespace Go.Proofs.Ytmhglbnoddimhaa
open Go.RowKit G
set_option linter.unusedVariables false

set_option maxRecDepth 100000 in
set_option maxHeartbeats 4000000 in
theorem tells_large (A B : Option Addr) (ca cb La Lb : Nat) (h l m : Int) (w : World) (hl : 4 < La ∨ 4 < Lb) :
    Calls Try.prog 3 #[.slice A La ca, .slice B Lb cb, .agg #[.int .u64 h, .int .u64 l], .int .i64 m] w (Bl true w) := by
  go_enter Try.func3, Try.ntmps3
  have hB : Below w.heap.size w w := Below.refl _ _
  go_wp2_with fail
  have KU := CU.new w h l 26
  replace hB := below_alloc hB (.cells #[.int .u64 h, .int .u64 l] 26)
  generalize hV0 : World.alloc _ _ = V0 at KU hB ⊢
  clear hV0
  refine (awake4 _).mono ?_
  rintro e w1 ⟨rfl, hb⟩
  replace KU := KU.below hb
  replace hB := below_then hB hb
  clear hb
  go_wp2_with fail
  refine (large2Yes A B La ca Lb cb hl _).mono ?_
  rintro e wL ⟨rfl, rfl⟩
  replace KU := KU.alloc (.cells #[.slice A La ca, .slice B Lb cb] 23)
  replace hB := below_alloc hB (.cells #[.slice A La ca, .slice B Lb cb] 23)
  generalize hVL : World.alloc _ _ = VL at KU hB ⊢
  clear hVL
  go_wp2_with fail
  go_ret
  exact ⟨rfl, hB⟩
set_option maxRecDepth 100000 in
set_option maxHeartbeats 4000000 in
theorem tells_mid (A B : Option Addr) (ca cb La Lb : Nat) (xs ys : List Nat) (h l : Int) (m : Int) (w : World) (Pa : Pol w A ca xs) (Pb : Pol w B cb ys) (ha : Hid (xs.length = La)) (hb' : Hid (ys.length = Lb)) (sa : La ≤ 4) (sb : Lb ≤ 4) (ka : La ≤ 20000) (kb : Lb ≤ 20000) (m1 : (40 : Int) < m) (m2 : m ≤ 2048) :
    Calls Try.prog 3 #[.slice A La ca, .slice B Lb cb, .agg #[.int .u64 h, .int .u64 l], .int .i64 m] w (Bl true w) := by
  go_enter Try.func3, Try.ntmps3
  have hB : Below w.heap.size w w := Below.refl _ _
  go_wp2_with fail
  have KU := CU.new w h l 26
  replace Pa := Pa.alloc (.cells #[.int .u64 h, .int .u64 l] 26)
  replace Pb := Pb.alloc (.cells #[.int .u64 h, .int .u64 l] 26)
  replace hB := below_alloc hB (.cells #[.int .u64 h, .int .u64 l] 26)
  generalize hV0 : World.alloc _ _ = V0 at Pa Pb KU hB ⊢
  clear hV0
  refine (awake4 _).mono ?_
  rintro e w1 ⟨rfl, hb⟩
  replace Pa := Pa.below hb
  replace Pb := Pb.below hb
  replace KU := KU.below hb
  replace hB := below_then hB hb
  clear hb
  go_wp2_with fail
  refine (large2No A B La ca Lb cb sa sb _).mono ?_
  rintro e wL ⟨rfl, rfl⟩
  replace Pa := Pa.alloc (.cells #[.slice A La ca, .slice B Lb cb] 23)
  replace Pb := Pb.alloc (.cells #[.slice A La ca, .slice B Lb cb] 23)
  replace KU := KU.alloc (.cells #[.slice A La ca, .slice B Lb cb] 23)
  replace hB := below_alloc hB (.cells #[.slice A La ca, .slice B Lb cb] 23)
  generalize hVL : World.alloc _ _ = VL at Pa Pb KU hB ⊢
  clear hVL
  go_wp2_with fail
  go_ret
  exact ⟨rfl, hB⟩
set_option maxRecDepth 100000 in
set_option maxHeartbeats 4000000 in
theorem tells_zero_lo (A B : Option Addr) (ca cb La Lb : Nat) (xs ys : List Nat) (h l : Int) (m : Int) (X : Nat) (w : World) (Pa : Pol w A ca xs) (Pb : Pol w B cb ys) (ha : Hid (xs.length = La)) (hb' : Hid (ys.length = Lb)) (sa : La ≤ 4) (sb : Lb ≤ 4) (ka : La ≤ 20000) (kb : Lb ≤ 20000) (eX : Hid (leN xs = X)) (eY : Hid (leN ys = 0)) (m1 : ¬ ((40 : Int) < m)) (m1d : decide ((40 : Int) < m) = false) :
    Calls Try.prog 3 #[.slice A La ca, .slice B Lb cb, .agg #[.int .u64 h, .int .u64 l], .int .i64 m] w (Bl true w) := by
  go_enter Try.func3, Try.ntmps3
  have hB : Below w.heap.size w w := Below.refl _ _
  go_wp2_with fail
  have KU := CU.new w h l 26
  replace Pa := Pa.alloc (.cells #[.int .u64 h, .int .u64 l] 26)
  replace Pb := Pb.alloc (.cells #[.int .u64 h, .int .u64 l] 26)
  replace hB := below_alloc hB (.cells #[.int .u64 h, .int .u64 l] 26)
  generalize hV0 : World.alloc _ _ = V0 at Pa Pb KU hB ⊢
  clear hV0
  refine (awake4 _).mono ?_
  rintro e w1 ⟨rfl, hb⟩
  replace Pa := Pa.below hb
  replace Pb := Pb.below hb
  replace KU := KU.below hb
  replace hB := below_then hB hb
  clear hb
  go_wp2_with fail
  refine (large2No A B La ca Lb cb sa sb _).mono ?_
  rintro e wL ⟨rfl, rfl⟩
  replace Pa := Pa.alloc (.cells #[.slice A La ca, .slice B Lb cb] 23)
  replace Pb := Pb.alloc (.cells #[.slice A La ca, .slice B Lb cb] 23)
  replace KU := KU.alloc (.cells #[.slice A La ca, .slice B Lb cb] 23)
  replace hB := below_alloc hB (.cells #[.slice A La ca, .slice B Lb cb] 23)
  generalize hVL : World.alloc _ _ = VL at Pa Pb KU hB ⊢
  clear hVL
  obtain ⟨c0, c1⟩ := KU.c
  go_wp2_with fail
  clear c0 c1
  refine (gPowZero h l Pb hb'.out (by omega) eY.out).mono ?_
  rintro e w2 ⟨rfl, hb⟩
  replace Pa := Pa.below hb
  replace Pb := Pb.below hb
  replace KU := KU.below hb
  replace hB := below_then hB hb
  clear hb
  obtain ⟨c0, c1⟩ := KU.c
  go_wp2_with fail
  clear c0 c1
  refine (gXpZero h l Pb hb'.out kb eY.out).mono ?_
  rintro e w3 ⟨rfl, hb⟩
  replace Pa := Pa.below hb
  replace Pb := Pb.below hb
  replace KU := KU.below hb
  replace hB := below_then hB hb
  clear hb
  go_wp2_with fail
  refine (gSquaresZero m Pb hb'.out kb eY.out).mono ?_
  rintro e w4 ⟨rfl, hb⟩
  replace Pa := Pa.below hb
  replace Pb := Pb.below hb
  replace KU := KU.below hb
  replace hB := below_then hB hb
  clear hb
  go_wp2_with fail
  refine (rParts X Pa ha.out eX.out (by omega)).mono ?_
  rintro e w5 ⟨A5, c5, rfl, Lx, hb⟩
  replace Pa := Pa.below hb
  replace Pb := Pb.below hb
  replace KU := KU.below hb
  replace hB := below_then hB hb
  clear hb
  go_wp2_with fail
  refine (Calls.mono (rParts 0 Pb hb'.out eY.out (by omega)) (fun _ _ h => ansB0 h)).mono ?_
  rintro e w6 ⟨A6, c6, rfl, Ly, hb⟩
  replace Pa := Pa.below hb
  replace Pb := Pb.below hb
  replace KU := KU.below hb
  replace Lx := Lx.below hb
  replace hB := below_then hB hb
  clear hb
  go_wp2_with fail
  go_ret
  exact ⟨rfl, hB⟩
set_option maxRecDepth 100000 in
set_option maxHeartbeats 4000000 in
theorem tells_zero_hi (A B : Option Addr) (ca cb La Lb : Nat) (xs ys : List Nat) (h l : Int) (m : Int) (X : Nat) (w : World) (Pa : Pol w A ca xs) (Pb : Pol w B cb ys) (ha : Hid (xs.length = La)) (hb' : Hid (ys.length = Lb)) (sa : La ≤ 4) (sb : Lb ≤ 4) (ka : La ≤ 20000) (kb : Lb ≤ 20000) (eX : Hid (leN xs = X)) (eY : Hid (leN ys = 0)) (m1 : (40 : Int) < m) (m2 : ¬ (m ≤ 2048)) (m2d : decide (m ≤ 2048) = false) :
    Calls Try.prog 3 #[.slice A La ca, .slice B Lb cb, .agg #[.int .u64 h, .int .u64 l], .int .i64 m] w (Bl true w) := by
  go_enter Try.func3, Try.ntmps3
  have hB : Below w.heap.size w w := Below.refl _ _
  go_wp2_with fail
  have KU := CU.new w h l 26
  replace Pa := Pa.alloc (.cells #[.int .u64 h, .int .u64 l] 26)
  replace Pb := Pb.alloc (.cells #[.int .u64 h, .int .u64 l] 26)
  replace hB := below_alloc hB (.cells #[.int .u64 h, .int .u64 l] 26)
  generalize hV0 : World.alloc _ _ = V0 at Pa Pb KU hB ⊢
  clear hV0
  refine (awake4 _).mono ?_
  rintro e w1 ⟨rfl, hb⟩
  replace Pa := Pa.below hb
  replace Pb := Pb.below hb
  replace KU := KU.below hb
  replace hB := below_then hB hb
  clear hb
  go_wp2_with fail
  refine (large2No A B La ca Lb cb sa sb _).mono ?_
  rintro e wL ⟨rfl, rfl⟩
  replace Pa := Pa.alloc (.cells #[.slice A La ca, .slice B Lb cb] 23)
  replace Pb := Pb.alloc (.cells #[.slice A La ca, .slice B Lb cb] 23)
  replace KU := KU.alloc (.cells #[.slice A La ca, .slice B Lb cb] 23)
  replace hB := below_alloc hB (.cells #[.slice A La ca, .slice B Lb cb] 23)
  generalize hVL : World.alloc _ _ = VL at Pa Pb KU hB ⊢
  clear hVL
  obtain ⟨c0, c1⟩ := KU.c
  go_wp2_with fail
  clear c0 c1
  refine (gPowZero h l Pb hb'.out (by omega) eY.out).mono ?_
  rintro e w2 ⟨rfl, hb⟩
  replace Pa := Pa.below hb
  replace Pb := Pb.below hb
  replace KU := KU.below hb
  replace hB := below_then hB hb
  clear hb
  obtain ⟨c0, c1⟩ := KU.c
  go_wp2_with fail
  clear c0 c1
  refine (gXpZero h l Pb hb'.out kb eY.out).mono ?_
  rintro e w3 ⟨rfl, hb⟩
  replace Pa := Pa.below hb
  replace Pb := Pb.below hb
  replace KU := KU.below hb
  replace hB := below_then hB hb
  clear hb
  go_wp2_with fail
  refine (gSquaresZero m Pb hb'.out kb eY.out).mono ?_
  rintro e w4 ⟨rfl, hb⟩
  replace Pa := Pa.below hb
  replace Pb := Pb.below hb
  replace KU := KU.below hb
  replace hB := below_then hB hb
  clear hb
  go_wp2_with fail
  refine (rParts X Pa ha.out eX.out (by omega)).mono ?_
  rintro e w5 ⟨A5, c5, rfl, Lx, hb⟩
  replace Pa := Pa.below hb
  replace Pb := Pb.below hb
  replace KU := KU.below hb
  replace hB := below_then hB hb
  clear hb
  go_wp2_with fail
  refine (Calls.mono (rParts 0 Pb hb'.out eY.out (by omega)) (fun _ _ h => ansB0 h)).mono ?_
  rintro e w6 ⟨A6, c6, rfl, Ly, hb⟩
  replace Pa := Pa.below hb
  replace Pb := Pb.below hb
  replace KU := KU.below hb
  replace Lx := Lx.below hb
  replace hB := below_then hB hb
  clear hb
  go_wp2_with fail
  go_ret
  exact ⟨rfl, hB⟩
end Go.Proofs.Ytmhglbnoddimhaa
