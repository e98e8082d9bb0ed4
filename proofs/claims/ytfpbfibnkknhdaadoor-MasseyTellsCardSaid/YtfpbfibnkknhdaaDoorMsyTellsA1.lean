/-
  The walks of MasseyTells, kind A1. Made by wip/gen/msylaws.py.
-/
import Derived.Test.YtfpbfibnkknhdaaDoorMsyK
import Derived.Test.YtfpbfibnkknhdaaDoorGfpTc
namespace Go.Proofs.YtfpbfibnkknhdaaDoor
open Go.RowKit G
set_option linter.unusedVariables false

set_option maxRecDepth 100000 in
set_option maxHeartbeats 4000000 in
theorem tellsA1B (A Al : Option Addr) (ca cl La M : Nat) (many : Int) (xs : List Nat) (l : List Bool) (w : World) (Pa : Pol w A ca xs) (Rl_ : Brs w Al cl l) (TT : Tab w) (ha : Hid (xs.length = La)) (hl : Hid (l.length = M)) (sa : La ≤ 5) (sm : M ≤ 300) (ka : Hid (La ≤ 50000)) (k1 : Hid (La ≤ 10000)) (km : Hid (M ≤ 4611686018427387904)) (k2 : Hid (M ≤ 2048)) (k3 : Hid (M ≤ 100000)) (k4 : Hid (M ≤ 1000000)) (N K : Nat) (eN : Hid (leN xs = N)) (eK : Hid ((bitsOf N).length = K)) (kK : Hid (K ≤ 1000000)) (bK : K ≤ 400) (r : Bool) (eR : Hid (Rb r (rw_ l) M N)) (d : Nat) (sK : ¬ (K < 2)) (ed : (K : Int) - 1 = (d : Int)) (c1 : M < d) (z1 : Hid (2 ≤ len (leN xs))) (z2 : Hid (M < len (leN xs) - 1 ∨ many < 0 ∨ 2048 < many)) (t12 : 12 < M) :
    Calls Tryd.prog 3 #[.slice A La ca, .slice Al M cl, .int .i64 many] w (Bl true w) := by
  go_enter Tryd.func3, Tryd.ntmps3
  have hB : Below w.heap.size w w := Below.refl _ _
  go_wp2_with fail
  refine (awake5 _ TT).mono ?_
  rintro e w1 ⟨rfl, hb⟩
  replace Pa := Pa.below hb
  replace Rl_ := Rl_.below hb
  replace TT := TT.below hb
  replace hB := below_then hB hb
  clear hb
  go_wp2_with fail
  refine (rParts N Pa ha.out eN.out k1.out).mono ?_
  rintro e w2 ⟨A2, c2, rfl, Xx, hb⟩
  replace Pa := Pa.below hb
  replace Rl_ := Rl_.below hb
  replace TT := TT.below hb
  replace hB := below_then hB hb
  clear hb
  rw [eK.out]
  go_wp2_with fail
  refine (gGoesArg many Pa ha.out ka.out z1.out z2.out).mono ?_
  rintro e w3 ⟨rfl, hb⟩
  replace Pa := Pa.below hb
  replace Rl_ := Rl_.below hb
  replace TT := TT.below hb
  replace Xx := Xx.below hb
  replace hB := below_then hB hb
  clear hb
  go_wp2_with fail
  refine (gRule N r Pa Rl_ TT ha.out eN.out hl.out ka.out km.out eR.out).mono ?_
  rintro e w4 ⟨rfl, hb⟩
  replace Pa := Pa.below hb
  replace Rl_ := Rl_.below hb
  replace TT := TT.below hb
  replace Xx := Xx.below hb
  replace hB := below_then hB hb
  clear hb
  go_wp2_with fail
  refine (rRule N r Xx Rl_ eK.out hl.out kK.out k4.out eR.out).mono ?_
  rintro e w5 ⟨rfl, rfl⟩
  clear Xx
  clear Pa
  go_wp2_with fail
  go_ret
  exact ⟨rfl, hB⟩
set_option maxRecDepth 100000 in
set_option maxHeartbeats 4000000 in
theorem tellsA1Y (A Al : Option Addr) (ca cl La M : Nat) (many : Int) (xs : List Nat) (l : List Bool) (w : World) (Pa : Pol w A ca xs) (Rl_ : Brs w Al cl l) (TT : Tab w) (ha : Hid (xs.length = La)) (hl : Hid (l.length = M)) (sa : La ≤ 5) (sm : M ≤ 300) (ka : Hid (La ≤ 50000)) (k1 : Hid (La ≤ 10000)) (km : Hid (M ≤ 4611686018427387904)) (k2 : Hid (M ≤ 2048)) (k3 : Hid (M ≤ 100000)) (k4 : Hid (M ≤ 1000000)) (N K : Nat) (eN : Hid (leN xs = N)) (eK : Hid ((bitsOf N).length = K)) (kK : Hid (K ≤ 1000000)) (bK : K ≤ 400) (r : Bool) (eR : Hid (Rb r (rw_ l) M N)) (d : Nat) (sK : ¬ (K < 2)) (ed : (K : Int) - 1 = (d : Int)) (c1 : M < d) (z1 : Hid (2 ≤ len (leN xs))) (z2 : Hid (M < len (leN xs) - 1 ∨ many < 0 ∨ 2048 < many)) (t12 : ¬ (12 < M)) (k12 : Hid (M ≤ 12)) (Q e : Nat) (eQ : Hid (br l = Q)) (eE : Hid ((len (br l) : Int) - 1 = (e : Int))) (y1 : 2 * (e : Int) ≤ (M : Int)) (y2 : Hid (2 * len Q ≤ M + 2)) (kQ : Hid ((wordsOf Q).length ≤ 50000)) (kB : Hid ((bitsOf Q).length ≤ 900000)) :
    Calls Tryd.prog 3 #[.slice A La ca, .slice Al M cl, .int .i64 many] w (Bl true w) := by
  go_enter Tryd.func3, Tryd.ntmps3
  have hB : Below w.heap.size w w := Below.refl _ _
  go_wp2_with fail
  refine (awake5 _ TT).mono ?_
  rintro e w1 ⟨rfl, hb⟩
  replace Pa := Pa.below hb
  replace Rl_ := Rl_.below hb
  replace TT := TT.below hb
  replace hB := below_then hB hb
  clear hb
  go_wp2_with fail
  refine (rParts N Pa ha.out eN.out k1.out).mono ?_
  rintro e w2 ⟨A2, c2, rfl, Xx, hb⟩
  replace Pa := Pa.below hb
  replace Rl_ := Rl_.below hb
  replace TT := TT.below hb
  replace hB := below_then hB hb
  clear hb
  rw [eK.out]
  go_wp2_with fail
  refine (gGoesArg many Pa ha.out ka.out z1.out z2.out).mono ?_
  rintro e w3 ⟨rfl, hb⟩
  replace Pa := Pa.below hb
  replace Rl_ := Rl_.below hb
  replace TT := TT.below hb
  replace Xx := Xx.below hb
  replace hB := below_then hB hb
  clear hb
  go_wp2_with fail
  refine (gRule N r Pa Rl_ TT ha.out eN.out hl.out ka.out km.out eR.out).mono ?_
  rintro e w4 ⟨rfl, hb⟩
  replace Pa := Pa.below hb
  replace Rl_ := Rl_.below hb
  replace TT := TT.below hb
  replace Xx := Xx.below hb
  replace hB := below_then hB hb
  clear hb
  go_wp2_with fail
  refine (rRule N r Xx Rl_ eK.out hl.out kK.out k4.out eR.out).mono ?_
  rintro e w5 ⟨rfl, rfl⟩
  clear Xx
  clear Pa
  go_wp2_with fail
  refine (rLength (e : Int) Rl_ hl.out k12.out eE.out).mono ?_
  rintro e w6 ⟨rfl, hb⟩
  replace Rl_ := Rl_.below hb
  replace TT := TT.below hb
  replace hB := below_then hB hb
  clear hb
  go_wp2_with fail
  refine (gLeastYes Q Rl_ TT hl.out k2.out eQ.out y2.out).mono ?_
  rintro e w7 ⟨A7, c7, rfl, Pq, hb⟩
  replace Rl_ := Rl_.below hb
  replace TT := TT.below hb
  replace hB := below_then hB hb
  clear hb
  go_wp2_with fail
  refine (gLength (e : Int) Rl_ TT hl.out k2.out eE.out).mono ?_
  rintro e w8 ⟨rfl, hb⟩
  replace Rl_ := Rl_.below hb
  replace TT := TT.below hb
  replace Pq := Pq.below hb
  replace hB := below_then hB hb
  clear hb
  go_wp2_with fail
  refine (rLeast Q Rl_ hl.out k12.out eQ.out y2.out).mono ?_
  rintro e w9 ⟨A9, c9, rfl, Xl, hb⟩
  replace Rl_ := Rl_.below hb
  replace TT := TT.below hb
  replace Pq := Pq.below hb
  replace hB := below_then hB hb
  clear hb
  go_wp2_with fail
  refine (rOf Q Xl rfl (leB_bitsOf Q) kB.out).mono ?_
  rintro e w10 ⟨A10, c10, rfl, Pw, hb⟩
  replace Rl_ := Rl_.below hb
  replace TT := TT.below hb
  replace Pq := Pq.below hb
  replace Xl := Xl.below hb
  replace hB := below_then hB hb
  clear hb
  clear Xl
  go_wp2_with fail
  refine (gWords true Pq Pw rfl rfl (by rw [sameL_words]; exact sameN_self _) kQ.out).mono ?_
  rintro e w11 ⟨rfl, hb⟩
  replace Rl_ := Rl_.below hb
  replace TT := TT.below hb
  replace Pq := Pq.below hb
  replace Pw := Pw.below hb
  replace hB := below_then hB hb
  clear hb
  go_wp2_with fail
  go_ret
  exact ⟨rfl, hB⟩
set_option maxRecDepth 100000 in
set_option maxHeartbeats 4000000 in
theorem tellsA1N (A Al : Option Addr) (ca cl La M : Nat) (many : Int) (xs : List Nat) (l : List Bool) (w : World) (Pa : Pol w A ca xs) (Rl_ : Brs w Al cl l) (TT : Tab w) (ha : Hid (xs.length = La)) (hl : Hid (l.length = M)) (sa : La ≤ 5) (sm : M ≤ 300) (ka : Hid (La ≤ 50000)) (k1 : Hid (La ≤ 10000)) (km : Hid (M ≤ 4611686018427387904)) (k2 : Hid (M ≤ 2048)) (k3 : Hid (M ≤ 100000)) (k4 : Hid (M ≤ 1000000)) (N K : Nat) (eN : Hid (leN xs = N)) (eK : Hid ((bitsOf N).length = K)) (kK : Hid (K ≤ 1000000)) (bK : K ≤ 400) (r : Bool) (eR : Hid (Rb r (rw_ l) M N)) (d : Nat) (sK : ¬ (K < 2)) (ed : (K : Int) - 1 = (d : Int)) (c1 : M < d) (z1 : Hid (2 ≤ len (leN xs))) (z2 : Hid (M < len (leN xs) - 1 ∨ many < 0 ∨ 2048 < many)) (t12 : ¬ (12 < M)) (k12 : Hid (M ≤ 12)) (e : Nat) (be : e ≤ 12) (eE : Hid ((len (br l) : Int) - 1 = (e : Int))) (y1 : ¬ (2 * (e : Int) ≤ (M : Int))) (y2 : Hid (M + 2 < 2 * len (br l))) :
    Calls Tryd.prog 3 #[.slice A La ca, .slice Al M cl, .int .i64 many] w (Bl true w) := by
  go_enter Tryd.func3, Tryd.ntmps3
  have hB : Below w.heap.size w w := Below.refl _ _
  go_wp2_with fail
  refine (awake5 _ TT).mono ?_
  rintro e w1 ⟨rfl, hb⟩
  replace Pa := Pa.below hb
  replace Rl_ := Rl_.below hb
  replace TT := TT.below hb
  replace hB := below_then hB hb
  clear hb
  go_wp2_with fail
  refine (rParts N Pa ha.out eN.out k1.out).mono ?_
  rintro e w2 ⟨A2, c2, rfl, Xx, hb⟩
  replace Pa := Pa.below hb
  replace Rl_ := Rl_.below hb
  replace TT := TT.below hb
  replace hB := below_then hB hb
  clear hb
  rw [eK.out]
  go_wp2_with fail
  refine (gGoesArg many Pa ha.out ka.out z1.out z2.out).mono ?_
  rintro e w3 ⟨rfl, hb⟩
  replace Pa := Pa.below hb
  replace Rl_ := Rl_.below hb
  replace TT := TT.below hb
  replace Xx := Xx.below hb
  replace hB := below_then hB hb
  clear hb
  go_wp2_with fail
  refine (gRule N r Pa Rl_ TT ha.out eN.out hl.out ka.out km.out eR.out).mono ?_
  rintro e w4 ⟨rfl, hb⟩
  replace Pa := Pa.below hb
  replace Rl_ := Rl_.below hb
  replace TT := TT.below hb
  replace Xx := Xx.below hb
  replace hB := below_then hB hb
  clear hb
  go_wp2_with fail
  refine (rRule N r Xx Rl_ eK.out hl.out kK.out k4.out eR.out).mono ?_
  rintro e w5 ⟨rfl, rfl⟩
  clear Xx
  clear Pa
  go_wp2_with fail
  refine (rLength (e : Int) Rl_ hl.out k12.out eE.out).mono ?_
  rintro e w6 ⟨rfl, hb⟩
  replace Rl_ := Rl_.below hb
  replace TT := TT.below hb
  replace hB := below_then hB hb
  clear hb
  go_wp2_with fail
  refine (gLeastNo Rl_ TT hl.out k2.out y2.out).mono ?_
  rintro e w7 ⟨rfl, hb⟩
  replace Rl_ := Rl_.below hb
  replace TT := TT.below hb
  replace hB := below_then hB hb
  clear hb
  go_wp2_with fail
  refine (gLength (e : Int) Rl_ TT hl.out k2.out eE.out).mono ?_
  rintro e w8 ⟨rfl, hb⟩
  replace Rl_ := Rl_.below hb
  replace TT := TT.below hb
  replace hB := below_then hB hb
  clear hb
  go_wp2_with fail
  go_ret
  exact ⟨rfl, hB⟩
end Go.Proofs.YtfpbfibnkknhdaaDoor
