/-
  GfpowParts of layer 4 answers true for every number of 32 bits and every two of 64. Made by wip/gen/gfwlaws.py.
-/
import Derived.Test.YtmhglbnoddimhaaGfwFieldW
import Derived.Test.YtmhglbnoddimhaaGfwV
namespace Go.Proofs.Ytmhglbnoddimhaa
open Go.RowKit G
set_option linter.unusedVariables false

set_option maxRecDepth 100000 in
set_option maxHeartbeats 4000000 in
theorem parts_true_a (n p a b K M : Nat) (nn : n < 4294967296) (eP : Hid (((n : Int) % 131072) = (p : Int))) (hp : p < 18446744073709551616) (ha : a < 18446744073709551616) (hb0 : b < 18446744073709551616) (eM : Hid (clm (leN [a]) (leN [b]) = M)) (eK : Hid ((bitsOf p).length = K)) (gI : Hid (∀ (A : Option Addr) (c : Nat) (w : World), Pol w A c [p] → Calls Try.prog 28 #[.slice A 1 c] w (Bl true w))) (rI : Hid (∀ (A : Option Addr) (c : Nat) (w : World), Lst w A c (bitsOf p) → Calls Try.prog 29 #[.slice A K c] w (Bl true w))) (a2 : (a : Int) < 2) (w : World) :
    Calls Try.prog 6 #[.int .u32 (n : Int), .int .u64 (a : Int), .int .u64 (b : Int)] w (Bl true w) := by
  go_enter Try.func6, Try.ntmps6
  have hB : Below w.heap.size w w := Below.refl _ _
  go_wp2_with fail
  refine (awake4 _).mono ?_
  rintro e w1 ⟨rfl, hb⟩
  replace hB := below_then hB hb
  clear hb
  go_wp2_with fail
  rw [eP.out]
  have Pq := pol1 w1 p (p : Int) rfl hp
  replace hB := below_alloc hB (.cells #[.int .u64 (p : Int)] 24)
  have Pa := pol1 (World.alloc w1 (.cells #[.int .u64 (p : Int)] 24)) a (a : Int) rfl ha
  replace Pq := Pq.alloc (.cells #[.int .u64 (a : Int)] 24)
  replace hB := below_alloc hB (.cells #[.int .u64 (a : Int)] 24)
  simp only [World.size_alloc] at Pa
  have Pb := pol1 (World.alloc (World.alloc w1 (.cells #[.int .u64 (p : Int)] 24)) (.cells #[.int .u64 (a : Int)] 24)) b (b : Int) rfl hb0
  replace Pq := Pq.alloc (.cells #[.int .u64 (b : Int)] 24)
  replace Pa := Pa.alloc (.cells #[.int .u64 (b : Int)] 24)
  replace hB := below_alloc hB (.cells #[.int .u64 (b : Int)] 24)
  simp only [World.size_alloc] at Pb
  generalize hV0 : (World.alloc (World.alloc (World.alloc w1 (.cells #[.int .u64 (p : Int)] 24)) (.cells #[.int .u64 (a : Int)] 24)) (.cells #[.int .u64 (b : Int)] 24)) = V0 at Pq Pa Pb hB ⊢
  clear hV0
  refine (gMul M Pa Pb rfl rfl eM.out (len50 _) (len50 _)).mono ?_
  rintro e w2 ⟨A2, c2, rfl, Pm, hb⟩
  replace Pq := Pq.below hb
  replace Pa := Pa.below hb
  replace Pb := Pb.below hb
  replace hB := below_then hB hb
  clear hb
  clear Pa
  clear Pb
  go_wp2_with fail
  refine (gI.out _ _ _ Pq).mono ?_
  rintro e w3 ⟨rfl, hb⟩
  replace Pq := Pq.below hb
  replace Pm := Pm.below hb
  replace hB := below_then hB hb
  clear hb
  go_wp2_with fail
  refine (rParts p Pq rfl (leN_one p) (by simp)).mono ?_
  rintro e w4 ⟨A4, c4, rfl, Lp, hb⟩
  replace Pq := Pq.below hb
  replace Pm := Pm.below hb
  replace hB := below_then hB hb
  clear hb
  rw [eK.out]
  clear Pq
  go_wp2_with fail
  refine (rI.out _ _ _ Lp).mono ?_
  rintro e w5 ⟨rfl, hb⟩
  replace Pm := Pm.below hb
  replace Lp := Lp.below hb
  replace hB := below_then hB hb
  clear hb
  clear Lp
  go_wp2_with fail
  go_ret
  exact ⟨rfl, hB⟩
set_option maxRecDepth 100000 in
set_option maxHeartbeats 4000000 in
theorem parts_true_b (n p a b K M : Nat) (nn : n < 4294967296) (eP : Hid (((n : Int) % 131072) = (p : Int))) (hp : p < 18446744073709551616) (ha : a < 18446744073709551616) (hb0 : b < 18446744073709551616) (eM : Hid (clm (leN [a]) (leN [b]) = M)) (eK : Hid ((bitsOf p).length = K)) (gI : Hid (∀ (A : Option Addr) (c : Nat) (w : World), Pol w A c [p] → Calls Try.prog 28 #[.slice A 1 c] w (Bl true w))) (rI : Hid (∀ (A : Option Addr) (c : Nat) (w : World), Lst w A c (bitsOf p) → Calls Try.prog 29 #[.slice A K c] w (Bl true w))) (a2 : ¬ ((a : Int) < 2)) (a3 : decide ((a : Int) < 2) = false) (b2 : (b : Int) < 2) (w : World) :
    Calls Try.prog 6 #[.int .u32 (n : Int), .int .u64 (a : Int), .int .u64 (b : Int)] w (Bl true w) := by
  go_enter Try.func6, Try.ntmps6
  have hB : Below w.heap.size w w := Below.refl _ _
  go_wp2_with fail
  refine (awake4 _).mono ?_
  rintro e w1 ⟨rfl, hb⟩
  replace hB := below_then hB hb
  clear hb
  go_wp2_with fail
  rw [eP.out]
  have Pq := pol1 w1 p (p : Int) rfl hp
  replace hB := below_alloc hB (.cells #[.int .u64 (p : Int)] 24)
  have Pa := pol1 (World.alloc w1 (.cells #[.int .u64 (p : Int)] 24)) a (a : Int) rfl ha
  replace Pq := Pq.alloc (.cells #[.int .u64 (a : Int)] 24)
  replace hB := below_alloc hB (.cells #[.int .u64 (a : Int)] 24)
  simp only [World.size_alloc] at Pa
  have Pb := pol1 (World.alloc (World.alloc w1 (.cells #[.int .u64 (p : Int)] 24)) (.cells #[.int .u64 (a : Int)] 24)) b (b : Int) rfl hb0
  replace Pq := Pq.alloc (.cells #[.int .u64 (b : Int)] 24)
  replace Pa := Pa.alloc (.cells #[.int .u64 (b : Int)] 24)
  replace hB := below_alloc hB (.cells #[.int .u64 (b : Int)] 24)
  simp only [World.size_alloc] at Pb
  generalize hV0 : (World.alloc (World.alloc (World.alloc w1 (.cells #[.int .u64 (p : Int)] 24)) (.cells #[.int .u64 (a : Int)] 24)) (.cells #[.int .u64 (b : Int)] 24)) = V0 at Pq Pa Pb hB ⊢
  clear hV0
  refine (gMul M Pa Pb rfl rfl eM.out (len50 _) (len50 _)).mono ?_
  rintro e w2 ⟨A2, c2, rfl, Pm, hb⟩
  replace Pq := Pq.below hb
  replace Pa := Pa.below hb
  replace Pb := Pb.below hb
  replace hB := below_then hB hb
  clear hb
  clear Pa
  clear Pb
  go_wp2_with fail
  refine (gI.out _ _ _ Pq).mono ?_
  rintro e w3 ⟨rfl, hb⟩
  replace Pq := Pq.below hb
  replace Pm := Pm.below hb
  replace hB := below_then hB hb
  clear hb
  go_wp2_with fail
  refine (rParts p Pq rfl (leN_one p) (by simp)).mono ?_
  rintro e w4 ⟨A4, c4, rfl, Lp, hb⟩
  replace Pq := Pq.below hb
  replace Pm := Pm.below hb
  replace hB := below_then hB hb
  clear hb
  rw [eK.out]
  clear Pq
  go_wp2_with fail
  refine (rI.out _ _ _ Lp).mono ?_
  rintro e w5 ⟨rfl, hb⟩
  replace Pm := Pm.below hb
  replace Lp := Lp.below hb
  replace hB := below_then hB hb
  clear hb
  clear Lp
  go_wp2_with fail
  go_ret
  exact ⟨rfl, hB⟩
set_option maxRecDepth 100000 in
set_option maxHeartbeats 4000000 in
theorem parts_true_both (n p a b K M : Nat) (nn : n < 4294967296) (eP : Hid (((n : Int) % 131072) = (p : Int))) (hp : p < 18446744073709551616) (ha : a < 18446744073709551616) (hb0 : b < 18446744073709551616) (eM : Hid (clm (leN [a]) (leN [b]) = M)) (eK : Hid ((bitsOf p).length = K)) (gI : Hid (∀ (A : Option Addr) (c : Nat) (w : World), Pol w A c [p] → Calls Try.prog 28 #[.slice A 1 c] w (Bl true w))) (rI : Hid (∀ (A : Option Addr) (c : Nat) (w : World), Lst w A c (bitsOf p) → Calls Try.prog 29 #[.slice A K c] w (Bl true w))) (a2 : ¬ ((a : Int) < 2)) (a3 : decide ((a : Int) < 2) = false) (b2 : ¬ ((b : Int) < 2)) (b3 : decide ((b : Int) < 2) = false) (lM : Hid ((wordsOf M).length ≤ 20000)) (nM : Hid (¬ Irr (leN (wordsOf M)))) (w : World) :
    Calls Try.prog 6 #[.int .u32 (n : Int), .int .u64 (a : Int), .int .u64 (b : Int)] w (Bl true w) := by
  go_enter Try.func6, Try.ntmps6
  have hB : Below w.heap.size w w := Below.refl _ _
  go_wp2_with fail
  refine (awake4 _).mono ?_
  rintro e w1 ⟨rfl, hb⟩
  replace hB := below_then hB hb
  clear hb
  go_wp2_with fail
  rw [eP.out]
  have Pq := pol1 w1 p (p : Int) rfl hp
  replace hB := below_alloc hB (.cells #[.int .u64 (p : Int)] 24)
  have Pa := pol1 (World.alloc w1 (.cells #[.int .u64 (p : Int)] 24)) a (a : Int) rfl ha
  replace Pq := Pq.alloc (.cells #[.int .u64 (a : Int)] 24)
  replace hB := below_alloc hB (.cells #[.int .u64 (a : Int)] 24)
  simp only [World.size_alloc] at Pa
  have Pb := pol1 (World.alloc (World.alloc w1 (.cells #[.int .u64 (p : Int)] 24)) (.cells #[.int .u64 (a : Int)] 24)) b (b : Int) rfl hb0
  replace Pq := Pq.alloc (.cells #[.int .u64 (b : Int)] 24)
  replace Pa := Pa.alloc (.cells #[.int .u64 (b : Int)] 24)
  replace hB := below_alloc hB (.cells #[.int .u64 (b : Int)] 24)
  simp only [World.size_alloc] at Pb
  generalize hV0 : (World.alloc (World.alloc (World.alloc w1 (.cells #[.int .u64 (p : Int)] 24)) (.cells #[.int .u64 (a : Int)] 24)) (.cells #[.int .u64 (b : Int)] 24)) = V0 at Pq Pa Pb hB ⊢
  clear hV0
  refine (gMul M Pa Pb rfl rfl eM.out (len50 _) (len50 _)).mono ?_
  rintro e w2 ⟨A2, c2, rfl, Pm, hb⟩
  replace Pq := Pq.below hb
  replace Pa := Pa.below hb
  replace Pb := Pb.below hb
  replace hB := below_then hB hb
  clear hb
  clear Pa
  clear Pb
  go_wp2_with fail
  refine (gI.out _ _ _ Pq).mono ?_
  rintro e w3 ⟨rfl, hb⟩
  replace Pq := Pq.below hb
  replace Pm := Pm.below hb
  replace hB := below_then hB hb
  clear hb
  go_wp2_with fail
  refine (rParts p Pq rfl (leN_one p) (by simp)).mono ?_
  rintro e w4 ⟨A4, c4, rfl, Lp, hb⟩
  replace Pq := Pq.below hb
  replace Pm := Pm.below hb
  replace hB := below_then hB hb
  clear hb
  rw [eK.out]
  clear Pq
  go_wp2_with fail
  refine (rI.out _ _ _ Lp).mono ?_
  rintro e w5 ⟨rfl, hb⟩
  replace Pm := Pm.below hb
  replace Lp := Lp.below hb
  replace hB := below_then hB hb
  clear hb
  clear Lp
  go_wp2_with fail
  refine (gIrrNo Pm rfl lM.out nM.out).mono ?_
  rintro e w6 ⟨rfl, hb⟩
  replace Pm := Pm.below hb
  replace hB := below_then hB hb
  clear hb
  go_wp2_with fail
  go_ret
  exact ⟨rfl, hB⟩
set_option maxRecDepth 100000 in
set_option maxHeartbeats 4000000 in
theorem parts_false_a (n p a b K M : Nat) (nn : n < 4294967296) (eP : Hid (((n : Int) % 131072) = (p : Int))) (hp : p < 18446744073709551616) (ha : a < 18446744073709551616) (hb0 : b < 18446744073709551616) (eM : Hid (clm (leN [a]) (leN [b]) = M)) (eK : Hid ((bitsOf p).length = K)) (gI : Hid (∀ (A : Option Addr) (c : Nat) (w : World), Pol w A c [p] → Calls Try.prog 28 #[.slice A 1 c] w (Bl false w))) (rI : Hid (∀ (A : Option Addr) (c : Nat) (w : World), Lst w A c (bitsOf p) → Calls Try.prog 29 #[.slice A K c] w (Bl false w))) (a2 : (a : Int) < 2) (w : World) :
    Calls Try.prog 6 #[.int .u32 (n : Int), .int .u64 (a : Int), .int .u64 (b : Int)] w (Bl true w) := by
  go_enter Try.func6, Try.ntmps6
  have hB : Below w.heap.size w w := Below.refl _ _
  go_wp2_with fail
  refine (awake4 _).mono ?_
  rintro e w1 ⟨rfl, hb⟩
  replace hB := below_then hB hb
  clear hb
  go_wp2_with fail
  rw [eP.out]
  have Pq := pol1 w1 p (p : Int) rfl hp
  replace hB := below_alloc hB (.cells #[.int .u64 (p : Int)] 24)
  have Pa := pol1 (World.alloc w1 (.cells #[.int .u64 (p : Int)] 24)) a (a : Int) rfl ha
  replace Pq := Pq.alloc (.cells #[.int .u64 (a : Int)] 24)
  replace hB := below_alloc hB (.cells #[.int .u64 (a : Int)] 24)
  simp only [World.size_alloc] at Pa
  have Pb := pol1 (World.alloc (World.alloc w1 (.cells #[.int .u64 (p : Int)] 24)) (.cells #[.int .u64 (a : Int)] 24)) b (b : Int) rfl hb0
  replace Pq := Pq.alloc (.cells #[.int .u64 (b : Int)] 24)
  replace Pa := Pa.alloc (.cells #[.int .u64 (b : Int)] 24)
  replace hB := below_alloc hB (.cells #[.int .u64 (b : Int)] 24)
  simp only [World.size_alloc] at Pb
  generalize hV0 : (World.alloc (World.alloc (World.alloc w1 (.cells #[.int .u64 (p : Int)] 24)) (.cells #[.int .u64 (a : Int)] 24)) (.cells #[.int .u64 (b : Int)] 24)) = V0 at Pq Pa Pb hB ⊢
  clear hV0
  refine (gMul M Pa Pb rfl rfl eM.out (len50 _) (len50 _)).mono ?_
  rintro e w2 ⟨A2, c2, rfl, Pm, hb⟩
  replace Pq := Pq.below hb
  replace Pa := Pa.below hb
  replace Pb := Pb.below hb
  replace hB := below_then hB hb
  clear hb
  clear Pa
  clear Pb
  go_wp2_with fail
  refine (gI.out _ _ _ Pq).mono ?_
  rintro e w3 ⟨rfl, hb⟩
  replace Pq := Pq.below hb
  replace Pm := Pm.below hb
  replace hB := below_then hB hb
  clear hb
  go_wp2_with fail
  refine (rParts p Pq rfl (leN_one p) (by simp)).mono ?_
  rintro e w4 ⟨A4, c4, rfl, Lp, hb⟩
  replace Pq := Pq.below hb
  replace Pm := Pm.below hb
  replace hB := below_then hB hb
  clear hb
  rw [eK.out]
  clear Pq
  go_wp2_with fail
  refine (rI.out _ _ _ Lp).mono ?_
  rintro e w5 ⟨rfl, hb⟩
  replace Pm := Pm.below hb
  replace Lp := Lp.below hb
  replace hB := below_then hB hb
  clear hb
  clear Lp
  go_wp2_with fail
  go_ret
  exact ⟨rfl, hB⟩
set_option maxRecDepth 100000 in
set_option maxHeartbeats 4000000 in
theorem parts_false_b (n p a b K M : Nat) (nn : n < 4294967296) (eP : Hid (((n : Int) % 131072) = (p : Int))) (hp : p < 18446744073709551616) (ha : a < 18446744073709551616) (hb0 : b < 18446744073709551616) (eM : Hid (clm (leN [a]) (leN [b]) = M)) (eK : Hid ((bitsOf p).length = K)) (gI : Hid (∀ (A : Option Addr) (c : Nat) (w : World), Pol w A c [p] → Calls Try.prog 28 #[.slice A 1 c] w (Bl false w))) (rI : Hid (∀ (A : Option Addr) (c : Nat) (w : World), Lst w A c (bitsOf p) → Calls Try.prog 29 #[.slice A K c] w (Bl false w))) (a2 : ¬ ((a : Int) < 2)) (a3 : decide ((a : Int) < 2) = false) (b2 : (b : Int) < 2) (w : World) :
    Calls Try.prog 6 #[.int .u32 (n : Int), .int .u64 (a : Int), .int .u64 (b : Int)] w (Bl true w) := by
  go_enter Try.func6, Try.ntmps6
  have hB : Below w.heap.size w w := Below.refl _ _
  go_wp2_with fail
  refine (awake4 _).mono ?_
  rintro e w1 ⟨rfl, hb⟩
  replace hB := below_then hB hb
  clear hb
  go_wp2_with fail
  rw [eP.out]
  have Pq := pol1 w1 p (p : Int) rfl hp
  replace hB := below_alloc hB (.cells #[.int .u64 (p : Int)] 24)
  have Pa := pol1 (World.alloc w1 (.cells #[.int .u64 (p : Int)] 24)) a (a : Int) rfl ha
  replace Pq := Pq.alloc (.cells #[.int .u64 (a : Int)] 24)
  replace hB := below_alloc hB (.cells #[.int .u64 (a : Int)] 24)
  simp only [World.size_alloc] at Pa
  have Pb := pol1 (World.alloc (World.alloc w1 (.cells #[.int .u64 (p : Int)] 24)) (.cells #[.int .u64 (a : Int)] 24)) b (b : Int) rfl hb0
  replace Pq := Pq.alloc (.cells #[.int .u64 (b : Int)] 24)
  replace Pa := Pa.alloc (.cells #[.int .u64 (b : Int)] 24)
  replace hB := below_alloc hB (.cells #[.int .u64 (b : Int)] 24)
  simp only [World.size_alloc] at Pb
  generalize hV0 : (World.alloc (World.alloc (World.alloc w1 (.cells #[.int .u64 (p : Int)] 24)) (.cells #[.int .u64 (a : Int)] 24)) (.cells #[.int .u64 (b : Int)] 24)) = V0 at Pq Pa Pb hB ⊢
  clear hV0
  refine (gMul M Pa Pb rfl rfl eM.out (len50 _) (len50 _)).mono ?_
  rintro e w2 ⟨A2, c2, rfl, Pm, hb⟩
  replace Pq := Pq.below hb
  replace Pa := Pa.below hb
  replace Pb := Pb.below hb
  replace hB := below_then hB hb
  clear hb
  clear Pa
  clear Pb
  go_wp2_with fail
  refine (gI.out _ _ _ Pq).mono ?_
  rintro e w3 ⟨rfl, hb⟩
  replace Pq := Pq.below hb
  replace Pm := Pm.below hb
  replace hB := below_then hB hb
  clear hb
  go_wp2_with fail
  refine (rParts p Pq rfl (leN_one p) (by simp)).mono ?_
  rintro e w4 ⟨A4, c4, rfl, Lp, hb⟩
  replace Pq := Pq.below hb
  replace Pm := Pm.below hb
  replace hB := below_then hB hb
  clear hb
  rw [eK.out]
  clear Pq
  go_wp2_with fail
  refine (rI.out _ _ _ Lp).mono ?_
  rintro e w5 ⟨rfl, hb⟩
  replace Pm := Pm.below hb
  replace Lp := Lp.below hb
  replace hB := below_then hB hb
  clear hb
  clear Lp
  go_wp2_with fail
  go_ret
  exact ⟨rfl, hB⟩
set_option maxRecDepth 100000 in
set_option maxHeartbeats 4000000 in
theorem parts_false_both (n p a b K M : Nat) (nn : n < 4294967296) (eP : Hid (((n : Int) % 131072) = (p : Int))) (hp : p < 18446744073709551616) (ha : a < 18446744073709551616) (hb0 : b < 18446744073709551616) (eM : Hid (clm (leN [a]) (leN [b]) = M)) (eK : Hid ((bitsOf p).length = K)) (gI : Hid (∀ (A : Option Addr) (c : Nat) (w : World), Pol w A c [p] → Calls Try.prog 28 #[.slice A 1 c] w (Bl false w))) (rI : Hid (∀ (A : Option Addr) (c : Nat) (w : World), Lst w A c (bitsOf p) → Calls Try.prog 29 #[.slice A K c] w (Bl false w))) (a2 : ¬ ((a : Int) < 2)) (a3 : decide ((a : Int) < 2) = false) (b2 : ¬ ((b : Int) < 2)) (b3 : decide ((b : Int) < 2) = false) (lM : Hid ((wordsOf M).length ≤ 20000)) (nM : Hid (¬ Irr (leN (wordsOf M)))) (w : World) :
    Calls Try.prog 6 #[.int .u32 (n : Int), .int .u64 (a : Int), .int .u64 (b : Int)] w (Bl true w) := by
  go_enter Try.func6, Try.ntmps6
  have hB : Below w.heap.size w w := Below.refl _ _
  go_wp2_with fail
  refine (awake4 _).mono ?_
  rintro e w1 ⟨rfl, hb⟩
  replace hB := below_then hB hb
  clear hb
  go_wp2_with fail
  rw [eP.out]
  have Pq := pol1 w1 p (p : Int) rfl hp
  replace hB := below_alloc hB (.cells #[.int .u64 (p : Int)] 24)
  have Pa := pol1 (World.alloc w1 (.cells #[.int .u64 (p : Int)] 24)) a (a : Int) rfl ha
  replace Pq := Pq.alloc (.cells #[.int .u64 (a : Int)] 24)
  replace hB := below_alloc hB (.cells #[.int .u64 (a : Int)] 24)
  simp only [World.size_alloc] at Pa
  have Pb := pol1 (World.alloc (World.alloc w1 (.cells #[.int .u64 (p : Int)] 24)) (.cells #[.int .u64 (a : Int)] 24)) b (b : Int) rfl hb0
  replace Pq := Pq.alloc (.cells #[.int .u64 (b : Int)] 24)
  replace Pa := Pa.alloc (.cells #[.int .u64 (b : Int)] 24)
  replace hB := below_alloc hB (.cells #[.int .u64 (b : Int)] 24)
  simp only [World.size_alloc] at Pb
  generalize hV0 : (World.alloc (World.alloc (World.alloc w1 (.cells #[.int .u64 (p : Int)] 24)) (.cells #[.int .u64 (a : Int)] 24)) (.cells #[.int .u64 (b : Int)] 24)) = V0 at Pq Pa Pb hB ⊢
  clear hV0
  refine (gMul M Pa Pb rfl rfl eM.out (len50 _) (len50 _)).mono ?_
  rintro e w2 ⟨A2, c2, rfl, Pm, hb⟩
  replace Pq := Pq.below hb
  replace Pa := Pa.below hb
  replace Pb := Pb.below hb
  replace hB := below_then hB hb
  clear hb
  clear Pa
  clear Pb
  go_wp2_with fail
  refine (gI.out _ _ _ Pq).mono ?_
  rintro e w3 ⟨rfl, hb⟩
  replace Pq := Pq.below hb
  replace Pm := Pm.below hb
  replace hB := below_then hB hb
  clear hb
  go_wp2_with fail
  refine (rParts p Pq rfl (leN_one p) (by simp)).mono ?_
  rintro e w4 ⟨A4, c4, rfl, Lp, hb⟩
  replace Pq := Pq.below hb
  replace Pm := Pm.below hb
  replace hB := below_then hB hb
  clear hb
  rw [eK.out]
  clear Pq
  go_wp2_with fail
  refine (rI.out _ _ _ Lp).mono ?_
  rintro e w5 ⟨rfl, hb⟩
  replace Pm := Pm.below hb
  replace Lp := Lp.below hb
  replace hB := below_then hB hb
  clear hb
  clear Lp
  go_wp2_with fail
  refine (gIrrNo Pm rfl lM.out nM.out).mono ?_
  rintro e w6 ⟨rfl, hb⟩
  replace Pm := Pm.below hb
  replace hB := below_then hB hb
  clear hb
  go_wp2_with fail
  go_ret
  exact ⟨rfl, hB⟩
theorem parts_true (n p a b K M : Nat) (nn : n < 4294967296) (eP : Hid (((n : Int) % 131072) = (p : Int))) (hp : p < 18446744073709551616) (ha : a < 18446744073709551616) (hb0 : b < 18446744073709551616) (eM : Hid (clm (leN [a]) (leN [b]) = M)) (eK : Hid ((bitsOf p).length = K)) (gI : Hid (∀ (A : Option Addr) (c : Nat) (w : World), Pol w A c [p] → Calls Try.prog 28 #[.slice A 1 c] w (Bl true w))) (rI : Hid (∀ (A : Option Addr) (c : Nat) (w : World), Lst w A c (bitsOf p) → Calls Try.prog 29 #[.slice A K c] w (Bl true w))) (w : World) :
    Calls Try.prog 6 #[.int .u32 (n : Int), .int .u64 (a : Int), .int .u64 (b : Int)] w (Bl true w) := by
  by_cases a2 : a < 2
  · exact parts_true_a n p a b K M nn eP hp ha hb0 eM eK gI rI (by omega) w
  · by_cases b2 : b < 2
    · exact parts_true_b n p a b K M nn eP hp ha hb0 eM eK gI rI (by omega) (by simp; omega) (by omega) w
    · have l1 := two_of_ne (q := a) (by omega) (by omega)
      have l2 := two_of_ne (q := b) (by omega) (by omega)
      have k1 : len a ≤ 64 := len_le (k := 64) ha
      have k2 : len b ≤ 64 := len_le (k := 64) hb0
      have eM2 : clm a b = M := by have := eM.out; rwa [leN_one, leN_one] at this
      exact parts_true_both n p a b K M nn eP hp ha hb0 eM eK gI rI (by omega) (by simp; omega) (by omega) (by simp; omega) (Lib.hid (by rw [← eM2]; exact Nat.le_trans (wl_len (k := 2) (by have := len_le (clm_lt (len_lt a) (len_lt b)); omega)) (by decide))) (Lib.hid (by rw [leN_wordsOf, ← eM2]; exact product_not l1 l2)) w
theorem parts_false (n p a b K M : Nat) (nn : n < 4294967296) (eP : Hid (((n : Int) % 131072) = (p : Int))) (hp : p < 18446744073709551616) (ha : a < 18446744073709551616) (hb0 : b < 18446744073709551616) (eM : Hid (clm (leN [a]) (leN [b]) = M)) (eK : Hid ((bitsOf p).length = K)) (gI : Hid (∀ (A : Option Addr) (c : Nat) (w : World), Pol w A c [p] → Calls Try.prog 28 #[.slice A 1 c] w (Bl false w))) (rI : Hid (∀ (A : Option Addr) (c : Nat) (w : World), Lst w A c (bitsOf p) → Calls Try.prog 29 #[.slice A K c] w (Bl false w))) (w : World) :
    Calls Try.prog 6 #[.int .u32 (n : Int), .int .u64 (a : Int), .int .u64 (b : Int)] w (Bl true w) := by
  by_cases a2 : a < 2
  · exact parts_false_a n p a b K M nn eP hp ha hb0 eM eK gI rI (by omega) w
  · by_cases b2 : b < 2
    · exact parts_false_b n p a b K M nn eP hp ha hb0 eM eK gI rI (by omega) (by simp; omega) (by omega) w
    · have l1 := two_of_ne (q := a) (by omega) (by omega)
      have l2 := two_of_ne (q := b) (by omega) (by omega)
      have k1 : len a ≤ 64 := len_le (k := 64) ha
      have k2 : len b ≤ 64 := len_le (k := 64) hb0
      have eM2 : clm a b = M := by have := eM.out; rwa [leN_one, leN_one] at this
      exact parts_false_both n p a b K M nn eP hp ha hb0 eM eK gI rI (by omega) (by simp; omega) (by omega) (by simp; omega) (Lib.hid (by rw [← eM2]; exact Nat.le_trans (wl_len (k := 2) (by have := len_le (clm_lt (len_lt a) (len_lt b)); omega)) (by decide))) (Lib.hid (by rw [leN_wordsOf, ← eM2]; exact product_not l1 l2)) w
theorem powPartsWalk (n a b : Nat) (nn : n < 4294967296) (ha : a < 18446744073709551616) (hb0 : b < 18446744073709551616) (w : World) :
    Calls Try.prog 6 #[.int .u32 (n : Int), .int .u64 (a : Int), .int .u64 (b : Int)] w (Bl true w) := by
  obtain ⟨p, hp⟩ : ∃ p, n % 131072 = p := ⟨_, rfl⟩
  have p17 : p < 2 ^ 17 := by rw [← hp]; exact Nat.mod_lt _ (by decide)
  have lp := len_le p17
  have lK := bitsOf_len p
  have eP := Lib.hid (show ((n : Int) % 131072) = (p : Int) from by omega)
  have p64 : p < 18446744073709551616 := Nat.lt_trans p17 (by decide)
  by_cases h : Irr p
  · refine parts_true n p a b (bitsOf p).length _ nn eP p64 ha hb0 (Lib.hid rfl) (Lib.hid rfl) (Lib.hid fun A c w P => gIrrYes P rfl (by decide) (by rw [leN_one]; exact h) (by rw [leN_one]; omega)) (Lib.hid fun A c w P => ?_) w
    exact rIrrWalk p true (Lib.hid P) (Lib.hid rfl) (by rw [lK]; exact h.1) (by omega) (Lib.hid (.inl ⟨rfl, (irr_tried h.1 lp).1 h⟩))
  · refine parts_false n p a b (bitsOf p).length _ nn eP p64 ha hb0 (Lib.hid rfl) (Lib.hid rfl) (Lib.hid fun A c w P => gIrrNo P rfl (by decide) (by rw [leN_one]; exact h)) (Lib.hid fun A c w P => ?_) w
    by_cases s : len p < 2
    · exact rIrrShort (by omega)
    · exact rIrrWalk p false (Lib.hid P) (Lib.hid rfl) (by omega) (by omega) (Lib.hid (.inr ⟨rfl, fun k => h ((irr_tried (by omega) lp).2 k)⟩))
end Go.Proofs.Ytmhglbnoddimhaa
