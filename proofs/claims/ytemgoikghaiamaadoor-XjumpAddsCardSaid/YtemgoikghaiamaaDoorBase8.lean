/-
  Part 8 of what the statements of this seat stand on: XjumpAddsW.
-/
import Derived.Test.YtemgoikghaiamaaDoorBase7
/-
  The statement's own walk: jumps add up, and go as sums do. Made by wip/gen/xjumpadds.py.
-/
namespace Go.Proofs.YtemgoikghaiamaaDoor
open Go.RowKit G
set_option linter.unusedVariables false
set_option maxRecDepth 100000

set_option maxHeartbeats 8000000 in
theorem addsW (X : JX) (aw : Hid (∀ W, Tab W → Calls Tryd.prog 8 #[] W (Bl true W))) (a b c d a' b' c' d' g0 g1 g2 g3 : Nat) (h1 l1 h2 l2 : Int) (N M : Nat) (hs : (⟨a, b, c, d⟩ : St).Ok) (ht : (⟨a', b', c', d'⟩ : St).Ok) (eu : addS ⟨a, b, c, d⟩ ⟨a', b', c', d'⟩ = ⟨g0, g1, g2, g3⟩) (i : Wn h1 l1 N) (j : Wn h2 l2 M) (w : World) (TB : Tab w) :
    Calls Tryd.prog 5 #[.agg #[.int .u64 (a : Int), .int .u64 (b : Int), .int .u64 (c : Int), .int .u64 (d : Int)], .agg #[.int .u64 (a' : Int), .int .u64 (b' : Int), .int .u64 (c' : Int), .int .u64 (d' : Int)], .agg #[.int .u64 h1, .int .u64 l1], .agg #[.int .u64 h2, .int .u64 l2]] w (Bl true w) := by
  have hB : Below w.heap.size w w := Below.refl _ _
  have HT := Lib.hid TB
  have hu : (⟨g0, g1, g2, g3⟩ : St).Ok := by rw [← eu]; exact hs.add ht
  have CA : Hid (∀ W, Calls Tryd.prog 20 #[.agg #[.int .u64 (a : Int), .int .u64 (b : Int), .int .u64 (c : Int), .int .u64 (d : Int)], .agg #[.int .u64 (a' : Int), .int .u64 (b' : Int), .int .u64 (c' : Int), .int .u64 (d' : Int)]] W (fun e w' => e = .returned (.agg #[.int .u64 (g0 : Int), .int .u64 (g1 : Int), .int .u64 (g2 : Int), .int .u64 (g3 : Int)]) ∧ Below W.heap.size W w')) := Lib.hid (fun W => by
    have := xAdd _ _ hs ht W
    unfold AnsS at this
    rw [eu] at this; exact this)
  obtain ⟨rs, hrs⟩ : ∃ r, r = !decide ((⟨a, b, c, d⟩ : St) = St.zero) := ⟨_, rfl⟩
  obtain ⟨rt', hrt⟩ : ∃ r, r = !decide ((⟨a', b', c', d'⟩ : St) = St.zero) := ⟨_, rfl⟩
  obtain ⟨ru, hru⟩ : ∃ r, r = !decide ((⟨g0, g1, g2, g3⟩ : St) = St.zero) := ⟨_, rfl⟩
  have R1 : Hid (∀ W, Calls Tryd.prog 21 #[.agg #[.int .u64 (a : Int), .int .u64 (b : Int), .int .u64 (c : Int), .int .u64 (d : Int)]] W (fun e w' => e = .returned (.bool rs) ∧ Below W.heap.size W w')) := Lib.hid (fun W => by rw [hrs]; exact xRight ⟨a, b, c, d⟩ W)
  have R2 : Hid (∀ W, Calls Tryd.prog 21 #[.agg #[.int .u64 (a' : Int), .int .u64 (b' : Int), .int .u64 (c' : Int), .int .u64 (d' : Int)]] W (fun e w' => e = .returned (.bool rt') ∧ Below W.heap.size W w')) := Lib.hid (fun W => by rw [hrt]; exact xRight ⟨a', b', c', d'⟩ W)
  have R3 : Hid (∀ W, Calls Tryd.prog 21 #[.agg #[.int .u64 (g0 : Int), .int .u64 (g1 : Int), .int .u64 (g2 : Int), .int .u64 (g3 : Int)]] W (fun e w' => e = .returned (.bool ru) ∧ Below W.heap.size W w')) := Lib.hid (fun W => by rw [hru]; exact xRight ⟨g0, g1, g2, g3⟩ W)
  have HS := Lib.hid (And.intro hs (And.intro ht (And.intro hu (And.intro eu (And.intro hrs (And.intro hrt hru))))))
  clear TB hs ht hu eu hrs hrt hru
  go_enter Tryd.func5, Tryd.ntmps5
  go_wp2_with fail
  have U1 := Bx.new w ⟨a, b, c, d⟩ 24
  have s1 : (w.alloc (.cells #[.int .u64 (a : Int), .int .u64 (b : Int), .int .u64 (c : Int), .int .u64 (d : Int)] 24)).heap.size = w.heap.size + 1 := Array.size_push _
  replace hB := below_alloc hB (.cells #[.int .u64 (a : Int), .int .u64 (b : Int), .int .u64 (c : Int), .int .u64 (d : Int)] 24)
  simp only at U1
  generalize w.alloc _ = V1 at U1 hB s1 ⊢
  have U2 := Bx.new V1 ⟨a', b', c', d'⟩ 24
  have s2 : (V1.alloc (.cells #[.int .u64 (a' : Int), .int .u64 (b' : Int), .int .u64 (c' : Int), .int .u64 (d' : Int)] 24)).heap.size = w.heap.size + 1 + 1 := (Array.size_push _).trans (by rw [s1])
  rw [s1] at U2
  simp only at U2
  replace U1 := U1.alloc (.cells #[.int .u64 (a' : Int), .int .u64 (b' : Int), .int .u64 (c' : Int), .int .u64 (d' : Int)] 24)
  replace hB := below_alloc hB (.cells #[.int .u64 (a' : Int), .int .u64 (b' : Int), .int .u64 (c' : Int), .int .u64 (d' : Int)] 24)
  generalize V1.alloc _ = V2 at U1 U2 hB s2 ⊢
  have N1 := CU.new V2 h1 l1 26
  have s3 : (V2.alloc (.cells #[.int .u64 h1, .int .u64 l1] 26)).heap.size = w.heap.size + 1 + 1 + 1 := (Array.size_push _).trans (by rw [s2])
  rw [s2] at N1
  replace U1 := U1.alloc (.cells #[.int .u64 h1, .int .u64 l1] 26)
  replace U2 := U2.alloc (.cells #[.int .u64 h1, .int .u64 l1] 26)
  replace hB := below_alloc hB (.cells #[.int .u64 h1, .int .u64 l1] 26)
  generalize V2.alloc _ = V3 at U1 U2 N1 hB s3 ⊢
  have N2 := CU.new V3 h2 l2 26
  rw [s3] at N2
  replace U1 := U1.alloc (.cells #[.int .u64 h2, .int .u64 l2] 26)
  replace U2 := U2.alloc (.cells #[.int .u64 h2, .int .u64 l2] 26)
  replace N1 := N1.alloc (.cells #[.int .u64 h2, .int .u64 l2] 26)
  replace hB := below_alloc hB (.cells #[.int .u64 h2, .int .u64 l2] 26)
  clear s1 s2 s3
  generalize V3.alloc _ = V4 at U1 U2 N1 N2 hB ⊢
  generalize w.heap.size + 1 + 1 + 1 = c3 at N2 ⊢
  generalize w.heap.size + 1 + 1 = c2 at N1 ⊢
  generalize w.heap.size + 1 = c1 at U2 ⊢
  refine (aw.out _ (HT.out.below hB)).mono ?_
  rintro e W0 ⟨rfl, hb⟩
  replace U1 := U1.below hb
  replace U2 := U2.below hb
  replace N1 := N1.below hb
  replace N2 := N2.below hb
  replace hB := below_then hB hb
  clear hb
  obtain ⟨uN1, vN1⟩ := N1.c
  obtain ⟨uN2, vN2⟩ := N2.c
  go_wp2_with fail
  clear uN1 vN1 uN2 vN2
  refine (Wd.wAdd h1 l1 h2 l2 i.h0 i.h1 i.l0 i.l1 j.h0 j.h1 j.l0 j.l1 _).mono ?_
  rintro e W1 ⟨hk, lk, over, ⟨hi, hc⟩, rfl, hb⟩
  replace U1 := U1.below hb
  replace U2 := U2.below hb
  replace N1 := N1.below hb
  replace N2 := N2.below hb
  replace hB := below_then hB hb
  clear hb
  have HI := Lib.hid (And.intro hi hc)
  clear hi hc
  go_upto_region 4 with fail
  have N3 := CU.new W1 hk lk 26
  have LB : Below W1.heap.size W1 (W1.alloc (.cells #[.int .u64 hk, .int .u64 lk] 26)) := below_alloc (Below.refl _ _) _
  replace U1 := U1.below LB
  replace U2 := U2.below LB
  replace N1 := N1.below LB
  replace N2 := N2.below LB
  replace hB := below_then hB LB
  clear LB
  generalize W1.alloc _ = V5 at U1 U2 N1 N2 N3 hB ⊢
  obtain ⟨xU1, yU1, zU1, wU1⟩ := U1.cells
  simp only at xU1 yU1 zU1 wU1
  obtain ⟨xU2, yU2, zU2, wU2⟩ := U2.cells
  simp only at xU2 yU2 zU2 wU2
  go_wp2_with fail
  clear xU1 yU1 zU1 wU1 xU2 yU2 zU2 wU2
  refine (CA.out _).mono ?_
  rintro e W2 ⟨rfl, hb⟩
  replace U1 := U1.below hb
  replace U2 := U2.below hb
  replace N1 := N1.below hb
  replace N2 := N2.below hb
  replace N3 := N3.below hb
  replace hB := below_then hB hb
  clear hb
  go_upto_region 5 with fail
  have U3 := Bx.new W2 ⟨g0, g1, g2, g3⟩ 24
  have LB : Below W2.heap.size W2 (W2.alloc (.cells #[.int .u64 (g0 : Int), .int .u64 (g1 : Int), .int .u64 (g2 : Int), .int .u64 (g3 : Int)] 24)) := below_alloc (Below.refl _ _) _
  replace U1 := U1.below LB
  replace U2 := U2.below LB
  replace N1 := N1.below LB
  replace N2 := N2.below LB
  replace N3 := N3.below LB
  replace hB := below_then hB LB
  simp only at U3
  clear LB
  generalize W2.alloc _ = V6 at U1 U2 N1 N2 N3 U3 hB ⊢
  cases over
  case true =>
    go_wp2
    go_ret
    exact ⟨rfl, hB⟩
  obtain ⟨xU1, yU1, zU1, wU1⟩ := U1.cells
  simp only at xU1 yU1 zU1 wU1
  go_wp2_with fail
  clear xU1 yU1 zU1 wU1
  refine (R1.out _).mono ?_
  rintro e X1 ⟨rfl, hb⟩
  replace U1 := U1.below hb
  replace U2 := U2.below hb
  replace N1 := N1.below hb
  replace N2 := N2.below hb
  replace N3 := N3.below hb
  replace U3 := U3.below hb
  replace hB := below_then hB hb
  clear hb
  cases rs
  case false =>
    go_wp2
    go_ret
    exact ⟨rfl, hB⟩
  obtain ⟨xU2, yU2, zU2, wU2⟩ := U2.cells
  simp only at xU2 yU2 zU2 wU2
  go_wp2_with fail
  clear xU2 yU2 zU2 wU2
  refine (R2.out _).mono ?_
  rintro e X2 ⟨rfl, hb⟩
  replace U1 := U1.below hb
  replace U2 := U2.below hb
  replace N1 := N1.below hb
  replace N2 := N2.below hb
  replace N3 := N3.below hb
  replace U3 := U3.below hb
  replace hB := below_then hB hb
  clear hb
  cases rt'
  case false =>
    go_wp2
    go_ret
    exact ⟨rfl, hB⟩
  obtain ⟨xU3, yU3, zU3, wU3⟩ := U3.cells
  simp only at xU3 yU3 zU3 wU3
  go_wp2_with fail
  clear xU3 yU3 zU3 wU3
  refine (R3.out _).mono ?_
  rintro e X3 ⟨rfl, hb⟩
  replace U1 := U1.below hb
  replace U2 := U2.below hb
  replace N1 := N1.below hb
  replace N2 := N2.below hb
  replace N3 := N3.below hb
  replace U3 := U3.below hb
  replace hB := below_then hB hb
  clear hb
  cases ru
  case false =>
    go_wp2
    go_ret
    exact ⟨rfl, hB⟩
  obtain ⟨hs, ht, hu, eu, hrs, hrt, hru⟩ := HS.out
  have s0 : (⟨a, b, c, d⟩ : St) ≠ St.zero := fun e => by rw [e] at hrs; simp at hrs
  have t0 : (⟨a', b', c', d'⟩ : St) ≠ St.zero := fun e => by rw [e] at hrt; simp at hrt
  have u0 : (⟨g0, g1, g2, g3⟩ : St) ≠ St.zero := fun e => by rw [e] at hru; simp at hru
  obtain ⟨hi, hc⟩ := HI.out
  have i3 : Wn hk lk (N + M) := by
    have := i.eq; have := j.eq; have := i.h0; have := i.l0; have := j.h0; have := j.l0
    have hc' := of_decide_eq_false hc.symm
    refine wn_is hi ?_
    rw [Int.emod_eq_of_lt (by omega) (by omega)]; omega
  have k1 := iterS_add ⟨a, b, c, d⟩ N M
  have k2 := iterS_lin hs ht N
  rw [eu] at k2
  have okA := hs.iter N
  have okD := ht.iter N
  have neA : iterS ⟨a, b, c, d⟩ N ≠ St.zero := fun e => s0 ((iter_right hs N).1 e)
  have J1 := Lib.hid (fun W => X.jumpY ⟨a, b, c, d⟩ h1 l1 N W hs s0 i)
  have J2 := Lib.hid (fun W => X.jumpY (iterS ⟨a, b, c, d⟩ N) h2 l2 M W okA neA j)
  have J3 := Lib.hid (fun W => X.jumpY ⟨a, b, c, d⟩ hk lk (N + M) W hs s0 i3)
  have J4 := Lib.hid (fun W => X.jumpY ⟨a', b', c', d'⟩ h1 l1 N W ht t0 i)
  have J5 := Lib.hid (fun W => X.jumpY ⟨g0, g1, g2, g3⟩ h1 l1 N W hu u0 i)
  rw [k1] at J3
  rw [k2] at J5
  have CB := Lib.hid (xAdd (iterS ⟨a, b, c, d⟩ N) (iterS ⟨a', b', c', d'⟩ N) okA okD)
  clear k1 k2 okA okD neA i3 hi hc s0 t0 u0 hs ht hu eu hrs hrt hru HS HI R1 R2 R3 CA
  generalize iterS ⟨a, b, c, d⟩ N = YA at J1 J2 J3 J5 CB
  generalize iterS ⟨a', b', c', d'⟩ N = YD at J4 J5 CB
  generalize iterS YA M = YB at J2 J3
  generalize addS YA YD = YK at J5 CB
  obtain ⟨p0, p1, p2, p3⟩ := YA
  obtain ⟨q0, q1, q2, q3⟩ := YB
  obtain ⟨r0, r1, r2, r3⟩ := YD
  obtain ⟨s0, s1, s2, s3⟩ := YK
  have CC : Hid (∀ W : World, Calls Tryd.prog 20 #[.agg #[.int .u64 (p0 : Int), .int .u64 (p1 : Int), .int .u64 (p2 : Int), .int .u64 (p3 : Int)], .agg #[.int .u64 (r0 : Int), .int .u64 (r1 : Int), .int .u64 (r2 : Int), .int .u64 (r3 : Int)]] W (fun e w' => e = .returned (.agg #[.int .u64 (s0 : Int), .int .u64 (s1 : Int), .int .u64 (s2 : Int), .int .u64 (s3 : Int)]) ∧ Below W.heap.size W w')) := CB
  have HQ : Hid (∀ (x0 x1 x2 x3 : Nat) (W : World), Sem.run Tryd.prog (Op.equalIn 10000 24 (.agg #[.int .u64 (x0 : Int), .int .u64 (x1 : Int), .int .u64 (x2 : Int), .int .u64 (x3 : Int)]) (.agg #[.int .u64 (x0 : Int), .int .u64 (x1 : Int), .int .u64 (x2 : Int), .int .u64 (x3 : Int)])) W = .ok true W) := Lib.hid (fun x0 x1 x2 x3 W => by
    have := sameS ⟨x0, x1, x2, x3⟩ ⟨x0, x1, x2, x3⟩ W
    rwa [decide_eq_true rfl] at this)
  clear CB
  obtain ⟨xU1, yU1, zU1, wU1⟩ := U1.cells
  simp only at xU1 yU1 zU1 wU1
  obtain ⟨uN1, vN1⟩ := N1.c
  go_wp2_with fail
  clear xU1 yU1 zU1 wU1 uN1 vN1
  refine (J1.out _ (HT.out.below hB)).mono ?_
  rintro e Z0 ⟨rfl, hb⟩
  replace U1 := U1.below hb
  replace U2 := U2.below hb
  replace N1 := N1.below hb
  replace N2 := N2.below hb
  replace N3 := N3.below hb
  replace U3 := U3.below hb
  replace hB := below_then hB hb
  clear hb
  go_upto_region 8 with fail
  have YA_ := Bx.new Z0 ⟨p0, p1, p2, p3⟩ 24
  have LB : Below Z0.heap.size Z0 (Z0.alloc (.cells #[.int .u64 (p0 : Int), .int .u64 (p1 : Int), .int .u64 (p2 : Int), .int .u64 (p3 : Int)] 24)) := below_alloc (Below.refl _ _) _
  replace U1 := U1.below LB
  replace U2 := U2.below LB
  replace N1 := N1.below LB
  replace N2 := N2.below LB
  replace N3 := N3.below LB
  replace U3 := U3.below LB
  replace hB := below_then hB LB
  simp only at YA_
  clear LB
  generalize Z0.alloc _ = T0 at U1 U2 N1 N2 N3 U3 YA_ hB ⊢
  obtain ⟨xYA_, yYA_, zYA_, wYA_⟩ := YA_.cells
  simp only at xYA_ yYA_ zYA_ wYA_
  obtain ⟨uN2, vN2⟩ := N2.c
  go_wp2_with fail
  clear xYA_ yYA_ zYA_ wYA_ uN2 vN2
  refine (J2.out _ (HT.out.below hB)).mono ?_
  rintro e Z1 ⟨rfl, hb⟩
  replace U1 := U1.below hb
  replace U2 := U2.below hb
  replace N1 := N1.below hb
  replace N2 := N2.below hb
  replace N3 := N3.below hb
  replace U3 := U3.below hb
  replace YA_ := YA_.below hb
  replace hB := below_then hB hb
  clear hb
  go_upto_region 9 with fail
  have YB_ := Bx.new Z1 ⟨q0, q1, q2, q3⟩ 24
  have LB : Below Z1.heap.size Z1 (Z1.alloc (.cells #[.int .u64 (q0 : Int), .int .u64 (q1 : Int), .int .u64 (q2 : Int), .int .u64 (q3 : Int)] 24)) := below_alloc (Below.refl _ _) _
  replace U1 := U1.below LB
  replace U2 := U2.below LB
  replace N1 := N1.below LB
  replace N2 := N2.below LB
  replace N3 := N3.below LB
  replace U3 := U3.below LB
  replace YA_ := YA_.below LB
  replace hB := below_then hB LB
  simp only at YB_
  clear LB
  generalize Z1.alloc _ = T1 at U1 U2 N1 N2 N3 U3 YA_ YB_ hB ⊢
  obtain ⟨xU1, yU1, zU1, wU1⟩ := U1.cells
  simp only at xU1 yU1 zU1 wU1
  obtain ⟨uN3, vN3⟩ := N3.c
  go_wp2_with fail
  clear xU1 yU1 zU1 wU1 uN3 vN3
  refine (J3.out _ (HT.out.below hB)).mono ?_
  rintro e Z2 ⟨rfl, hb⟩
  replace U1 := U1.below hb
  replace U2 := U2.below hb
  replace N1 := N1.below hb
  replace N2 := N2.below hb
  replace N3 := N3.below hb
  replace U3 := U3.below hb
  replace YA_ := YA_.below hb
  replace YB_ := YB_.below hb
  replace hB := below_then hB hb
  clear hb
  go_upto_region 10 with fail
  have YC_ := Bx.new Z2 ⟨q0, q1, q2, q3⟩ 24
  have LB : Below Z2.heap.size Z2 (Z2.alloc (.cells #[.int .u64 (q0 : Int), .int .u64 (q1 : Int), .int .u64 (q2 : Int), .int .u64 (q3 : Int)] 24)) := below_alloc (Below.refl _ _) _
  replace U1 := U1.below LB
  replace U2 := U2.below LB
  replace N1 := N1.below LB
  replace N2 := N2.below LB
  replace N3 := N3.below LB
  replace U3 := U3.below LB
  replace YA_ := YA_.below LB
  replace YB_ := YB_.below LB
  replace hB := below_then hB LB
  simp only at YC_
  clear LB
  generalize Z2.alloc _ = T2 at U1 U2 N1 N2 N3 U3 YA_ YB_ YC_ hB ⊢
  obtain ⟨xU2, yU2, zU2, wU2⟩ := U2.cells
  simp only at xU2 yU2 zU2 wU2
  obtain ⟨uN1, vN1⟩ := N1.c
  go_wp2_with fail
  clear xU2 yU2 zU2 wU2 uN1 vN1
  refine (J4.out _ (HT.out.below hB)).mono ?_
  rintro e Z3 ⟨rfl, hb⟩
  replace U1 := U1.below hb
  replace U2 := U2.below hb
  replace N1 := N1.below hb
  replace N2 := N2.below hb
  replace N3 := N3.below hb
  replace U3 := U3.below hb
  replace YA_ := YA_.below hb
  replace YB_ := YB_.below hb
  replace YC_ := YC_.below hb
  replace hB := below_then hB hb
  clear hb
  go_upto_region 11 with fail
  have YD_ := Bx.new Z3 ⟨r0, r1, r2, r3⟩ 24
  have LB : Below Z3.heap.size Z3 (Z3.alloc (.cells #[.int .u64 (r0 : Int), .int .u64 (r1 : Int), .int .u64 (r2 : Int), .int .u64 (r3 : Int)] 24)) := below_alloc (Below.refl _ _) _
  replace U1 := U1.below LB
  replace U2 := U2.below LB
  replace N1 := N1.below LB
  replace N2 := N2.below LB
  replace N3 := N3.below LB
  replace U3 := U3.below LB
  replace YA_ := YA_.below LB
  replace YB_ := YB_.below LB
  replace YC_ := YC_.below LB
  replace hB := below_then hB LB
  simp only at YD_
  clear LB
  generalize Z3.alloc _ = T3 at U1 U2 N1 N2 N3 U3 YA_ YB_ YC_ YD_ hB ⊢
  obtain ⟨xU3, yU3, zU3, wU3⟩ := U3.cells
  simp only at xU3 yU3 zU3 wU3
  obtain ⟨uN1, vN1⟩ := N1.c
  go_wp2_with fail
  clear xU3 yU3 zU3 wU3 uN1 vN1
  refine (J5.out _ (HT.out.below hB)).mono ?_
  rintro e Z4 ⟨rfl, hb⟩
  replace U1 := U1.below hb
  replace U2 := U2.below hb
  replace N1 := N1.below hb
  replace N2 := N2.below hb
  replace N3 := N3.below hb
  replace U3 := U3.below hb
  replace YA_ := YA_.below hb
  replace YB_ := YB_.below hb
  replace YC_ := YC_.below hb
  replace YD_ := YD_.below hb
  replace hB := below_then hB hb
  clear hb
  go_upto_region 12 with fail
  have YK_ := Bx.new Z4 ⟨s0, s1, s2, s3⟩ 24
  have LB : Below Z4.heap.size Z4 (Z4.alloc (.cells #[.int .u64 (s0 : Int), .int .u64 (s1 : Int), .int .u64 (s2 : Int), .int .u64 (s3 : Int)] 24)) := below_alloc (Below.refl _ _) _
  replace U1 := U1.below LB
  replace U2 := U2.below LB
  replace N1 := N1.below LB
  replace N2 := N2.below LB
  replace N3 := N3.below LB
  replace U3 := U3.below LB
  replace YA_ := YA_.below LB
  replace YB_ := YB_.below LB
  replace YC_ := YC_.below LB
  replace YD_ := YD_.below LB
  replace hB := below_then hB LB
  simp only at YK_
  clear LB
  generalize Z4.alloc _ = T4 at U1 U2 N1 N2 N3 U3 YA_ YB_ YC_ YD_ YK_ hB ⊢
  refine wp_region_class (fun w' => Below T4.heap.size T4 w') (by kernel_rfl) (by kernel_rfl) (Below.refl _ _).drew ?_
  iterate 31
    (refine WQ.yes ?_ (by rfl) (fun w' hC => ?_) ?_
     rotate_left
     · (obtain ⟨a1_, a2_, a3_, a4_⟩ := (YA_.below hC).cells
        obtain ⟨b1_, b2_, b3_, b4_⟩ := (YB_.below hC).cells
        obtain ⟨c1_, c2_, c3_, c4_⟩ := (YC_.below hC).cells
        obtain ⟨d1_, d2_, d3_, d4_⟩ := (YD_.below hC).cells
        obtain ⟨k1_, k2_, k3_, k4_⟩ := (YK_.below hC).cells
        simp only at a1_ a2_ a3_ a4_ b1_ b2_ b3_ b4_ c1_ c2_ c3_ c4_ d1_ d2_ d3_ d4_ k1_ k2_ k3_ k4_
        have q := HQ.out
        go_simp
        first | done | with_reducible rfl | exact ⟨rfl, rfl⟩ | (go_at_call 20; (with_reducible exact quietA4 (CC.out _) hC)))
     (try simp only [Act.put, List.setIfInBounds_toArray, List.set_cons_zero, List.set_cons_succ]))
  refine WQ.nil ?_
  intro wz hX
  go_wp2
  go_ret
  exact ⟨rfl, below_then hB hX⟩
theorem xjumpAdds (X : JX) (aw : Hid (∀ W, Tab W → Calls Tryd.prog 8 #[] W (Bl true W))) (s t : St) {h1 l1 h2 l2 : Int} {N M : Nat} (hs : s.Ok) (ht : t.Ok) (i : Wn h1 l1 N) (j : Wn h2 l2 M) (w : World) (TB : Tab w) :
    Calls Tryd.prog 5 #[s.val, t.val, .agg #[.int .u64 h1, .int .u64 l1], .agg #[.int .u64 h2, .int .u64 l2]] w (Bl true w) :=
  addsW X aw s.a s.b s.c s.d t.a t.b t.c t.d _ _ _ _ h1 l1 h2 l2 N M hs ht rfl i j w TB
end Go.Proofs.YtemgoikghaiamaaDoor
