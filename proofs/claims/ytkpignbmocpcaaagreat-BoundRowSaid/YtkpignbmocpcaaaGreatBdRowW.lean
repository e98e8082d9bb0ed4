/-
  The walk of BoundRow.
-/
import Derived.Test.YtkpignbmocpcaaaGreatBdS
namespace Go.Proofs.YtkpignbmocpcaaaGreat
open Go.RowKit
set_option linter.unusedVariables false
set_option maxRecDepth 100000

theorem ix0 (a b : Int) (w : World) : Sem.run Tryz.prog (Instr.index 37 (.agg #[.int .u64 a, .int .u64 b]) (.int .i64 0)) w = .ok (.int .u64 a) w := by kernel_rfl
theorem ix1 (a b : Int) (w : World) : Sem.run Tryz.prog (Instr.index 37 (.agg #[.int .u64 a, .int .u64 b]) (.int .i64 1)) w = .ok (.int .u64 b) w := by kernel_rfl
/-- What one word's call answers, as the walk wants it. -/
structure Wk (y : Int) (v b L H : Int) (u : Int) (t : Bool) : Prop where
  c : ∀ w : World, Calls Tryz.prog 6 #[.int .u64 y, .int .u64 b] w (fun e w' => e = .returned (.tuple #[.int .u64 u, .bool t]) ∧ Below w.heap.size w w')
  k : (t = true ∧ u = v) ↔ (L ≤ y ∧ y ≤ H)
theorem Wk.of (bx : BX) {y v b : Nat} (hy : y < N64) (hb : b < N64) (h0 : 0 < b) : Wk (y : Int) (v : Int) (b : Int) ((lowB N64 v b : Nat) : Int) ((highB N64 v b : Nat) : Int) ((acV y b : Nat) : Int) (takenB N64 y b) := by
  refine ⟨bx.acc y b hy hb, ?_⟩
  have h := word_known (y := y) (v := v) h0
  constructor
  · rintro ⟨h1, h2⟩
    have := h.1 ⟨h1, by omega⟩
    omega
  · rintro ⟨h1, h2⟩
    have := h.2 ⟨by omega, by omega⟩
    exact ⟨this.1, by rw [this.2]⟩
/-- The numbers of the row. -/
structure Rw (bx : BX) (L H D v b : Nat) : Prop where
  le : L ≤ H
  hi : H < N64
  d : D = H - L
  many : (D + 1) * b ≤ N64
  more : N64 < (D + 1) * b + b
theorem Rw.of (bx : BX) {v b : Nat} (hb : b < N64) (hv : v < b) : Rw bx (lowB N64 v b) (highB N64 v b) (highB N64 v b - lowB N64 v b) v b := by
  have h0 : 0 < b := by omega
  have a := low_le_high (N := N64) (v := v) h0 (Nat.le_of_lt hb)
  have c := row_many (N := N64) (v := v) h0 (Nat.le_of_lt hb)
  have e : highB N64 v b - lowB N64 v b + 1 = N64 / b := by omega
  exact ⟨a, high_lt (by decide) hv, rfl, by rw [e]; exact many_le _ _, by rw [e]; exact many_gt h0⟩
set_option maxHeartbeats 8000000 in
theorem rowYes (AW : Hid (∀ w, Calls Tryz.prog 5 #[] w (fun e w' => e = .returned (.bool true) ∧ Below w.heap.size w w'))) (bx : BX) {x b v L H D : Nat} (hx : x < N64) (hb : b < N64) (hv : v < b) (r : Rw bx L H D v b)
    (CR : Hid (∀ w, Calls Tryz.prog 8 #[.int .u64 (v : Int), .int .u64 (b : Int)] w (fun e w' => e = .returned (.tuple #[.int .u64 (L : Int), .int .u64 (H : Int), .int .i64 0]) ∧ Below w.heap.size w w')))
    (KW : Hid (∀ y : Nat, y < N64 → ∃ u t, Wk (y : Int) v b L H u t)) (w : World) : Calls Tryz.prog 4 #[.int .u64 (b : Int), .int .u64 (v : Int), .int .u64 (x : Int)] w (fun e w' => e = .returned (.bool true) ∧ Below w.heap.size w w') := by
  have r1 := r.le
  have r2 : H < 18446744073709551616 := r.hi
  have r3 := r.d
  have hb' : b < 18446744073709551616 := hb
  have hx' : x < 18446744073709551616 := hx
  have z1 : ((b : Int) == 0) = false := by simp; omega
  have z2 : ¬ (b : Int) ≤ (v : Int) := by omega
  have z3 : ¬ (H : Int) < (L : Int) := by omega
  have w1 : IntKind.u64.wrap ((H : Int) - (L : Int)) = (D : Int) := by rw [IntKind.wrap_u64]; omega
  have CD := Lib.hid (cOfL (L := D) (by omega))
  have CA := Lib.hid (cAddO (k := D) (by show D < 18446744073709551616; omega))
  have CB := Lib.hid (cOfL (L := b) hb')
  have CM := Lib.hid (cMulN (x := D + 1) (b := b) (by show D + 1 ≤ 18446744073709551616; omega) hb r.many)
  have CP := Lib.hid (cAddN (M := (D + 1) * b) (N := b) r.many hb)
  have q1 : (D + 1) * b ≤ 18446744073709551616 := r.many
  have q2 : 18446744073709551616 < (D + 1) * b + b := r.more
  have CX := Lib.hid (cCmpT (M := (D + 1) * b) (by show _ < 340282366920938463463374607431768211456; omega))
  have CY := Lib.hid (cCmpT (M := (D + 1) * b + b) (by show _ < 340282366920938463463374607431768211456; omega))
  have g1 : ¬ (0 : Int) < cmpN ((D + 1) * b) N64 := by
    show ¬ (0 : Int) < cmpN ((D + 1) * b) 18446744073709551616
    unfold cmpN; split <;> (try split) <;> omega
  have g2 : ¬ cmpN ((D + 1) * b + b) N64 ≤ 0 := by
    show ¬ cmpN ((D + 1) * b + b) 18446744073709551616 ≤ 0
    unfold cmpN; split <;> (try split) <;> omega
  generalize cmpN ((D + 1) * b) N64 = c1 at CX g1
  generalize cmpN ((D + 1) * b + b) N64 = c2 at CY g2
  generalize ((hiW (D + 1) : Nat) : Int) = m0 at CA CM
  generalize ((loW (D + 1) : Nat) : Int) = m1 at CA CM
  generalize ((hiW ((D + 1) * b + b) : Nat) : Int) = p0 at CP CY
  generalize ((loW ((D + 1) * b + b) : Nat) : Int) = p1 at CP CY
  generalize ((hiW ((D + 1) * b) : Nat) : Int) = a0 at CM CP CX
  generalize ((loW ((D + 1) * b) : Nat) : Int) = a1 at CM CP CX
  have HR := Lib.hid (And.intro r1 (And.intro r2 (And.intro r3 (And.intro hb' (And.intro hx' hv)))))
  clear q1 q2 r r1 r2 r3 hb' hb hx hx' hv
  go_enter Tryz.func4, Tryz.ntmps4
  go_wp2_with fail
  refine (AW.out _).mono ?_
  rintro e V1 ⟨rfl, hb⟩
  have B := Lib.hid hb
  clear hb AW
  go_wp2_with fail
  refine (CR.out _).mono ?_
  rintro e V2 ⟨rfl, hb⟩
  replace B := Lib.hid (below_then B.out hb)
  clear hb CR
  go_wp2_with fail
  refine (CD.out _).mono ?_
  rintro e V3 ⟨rfl, hb⟩
  replace B := Lib.hid (below_then B.out hb)
  clear hb CD
  go_wp2_with fail
  refine (cOne _).mono ?_
  rintro e V4 ⟨rfl, hb⟩
  replace B := Lib.hid (below_then B.out hb)
  clear hb
  go_wp2_with fail
  refine (CA.out _).mono ?_
  rintro e V5 ⟨rfl, hb⟩
  have U5 := UB.new V5 m0 m1 31
  replace B := Lib.hid (below_then (below_then B.out hb) (below_allocs V5 (.cells #[.int .u64 m0, .int .u64 m1] 31)))
  clear hb CA
  go_upto_region 11 with fail
  generalize V5.alloc _ = W5 at U5 B ⊢
  generalize V5.heap.size = bt at U5 ⊢
  go_cut [12] (CutM W5 a0 a1)
  case first =>
    have b0 : Below W5.heap.size W5 W5.drew := below_drew W5
    have lc := U5.lt
    have p0' : bt ≠ W5.heap.size := Nat.ne_of_lt lc
    have q0' := p0'.symm
    obtain ⟨k1, k2⟩ := U5.cells
    go_region_held3 (fun w' => w'.cell? ⟨bt, 0, none⟩ = some (.int .u64 m0) ∧ w'.cell? ⟨bt, 1, none⟩ = some (.int .u64 m1)) (go_keep) (first
      | (go_at_call 10; (with_reducible refine (CB.out _).mono ?_); rintro e y1 ⟨rfl, hb1⟩; (first | (have b1 := below_then (below_alloc b0 _) hb1; have z : UB 31 y1 W5.heap.size 0 0 := (UB.new W5.drew 0 0 31).below hb1) | (have b1 := below_then b0 hb1; replace z := z.below hb1) | (have b1 := below_then b0 hb1)); (try obtain ⟨zc1, zd1⟩ := z.cells); (try obtain ⟨zf1, zg1⟩ := z.free); obtain ⟨i1, j1⟩ := (U5.below b1).cells; have p1 : bt ≠ y1.heap.size := Nat.ne_of_lt (Nat.lt_of_lt_of_le lc b1.size); have q1 := p1.symm; clear hb1)
      | (go_at_call 11; (with_reducible refine (CM.out _).mono ?_); rintro e y2 ⟨rfl, hb2⟩; (first | (have b2 := below_then (below_alloc b1 _) hb2; have z  := (UB.new y1 0 0 31).below hb2) | (have b2 := below_then b1 hb2; replace z := z.below hb2) | (have b2 := below_then b1 hb2)); (try obtain ⟨zc2, zd2⟩ := z.cells); (try obtain ⟨zf2, zg2⟩ := z.free); obtain ⟨i2, j2⟩ := (U5.below b2).cells; have p2 : bt ≠ y2.heap.size := Nat.ne_of_lt (Nat.lt_of_lt_of_le lc b2.size); have q2 := p2.symm; clear hb2))
    all_goals
      go_wp2_with fail
      go_meet
      first
        | exact CutM.late b2
        | exact CutM.early b2 z (Nat.le_refl _)
        | exact CutM.early b2 z b1.size
  obtain ⟨bu, rfl, U6, hB⟩ := hcut
  replace B := Lib.hid (below_then B.out hB)
  clear U5 hB CM
  go_upto_region 12 with fail
  generalize hW6 : wc = W6 at U6 B ⊢
  clear hW6
  go_cut [13] (CutM W6 p0 p1)
  case first =>
    have b0 : Below W6.heap.size W6 W6.drew := below_drew W6
    have lc := U6.lt
    have p0' : bu ≠ W6.heap.size := Nat.ne_of_lt lc
    have q0' := p0'.symm
    obtain ⟨k1, k2⟩ := U6.cells
    go_region_held3 (fun w' => w'.cell? ⟨bu, 0, none⟩ = some (.int .u64 a0) ∧ w'.cell? ⟨bu, 1, none⟩ = some (.int .u64 a1)) (go_keep) (first
      | (go_at_call 10; (with_reducible refine (CB.out _).mono ?_); rintro e y1 ⟨rfl, hb1⟩; (first | (have b1 := below_then (below_alloc b0 _) hb1; have z : UB 31 y1 W6.heap.size 0 0 := (UB.new W6.drew 0 0 31).below hb1) | (have b1 := below_then b0 hb1; replace z := z.below hb1) | (have b1 := below_then b0 hb1)); (try obtain ⟨zc1, zd1⟩ := z.cells); (try obtain ⟨zf1, zg1⟩ := z.free); obtain ⟨i1, j1⟩ := (U6.below b1).cells; have p1 : bu ≠ y1.heap.size := Nat.ne_of_lt (Nat.lt_of_lt_of_le lc b1.size); have q1 := p1.symm; clear hb1)
      | (go_at_call 9; (with_reducible refine (CP.out _).mono ?_); rintro e y2 ⟨rfl, hb2⟩; (first | (have b2 := below_then (below_alloc b1 _) hb2; have z  := (UB.new y1 0 0 31).below hb2) | (have b2 := below_then b1 hb2; replace z := z.below hb2) | (have b2 := below_then b1 hb2)); (try obtain ⟨zc2, zd2⟩ := z.cells); (try obtain ⟨zf2, zg2⟩ := z.free); obtain ⟨i2, j2⟩ := (U6.below b2).cells; have p2 : bu ≠ y2.heap.size := Nat.ne_of_lt (Nat.lt_of_lt_of_le lc b2.size); have q2 := p2.symm; clear hb2))
    all_goals
      go_wp2_with fail
      go_meet
      first
        | exact CutM.late b2
        | exact CutM.early b2 z (Nat.le_refl _)
        | exact CutM.early b2 z b1.size
  obtain ⟨bv, rfl, U7, hB⟩ := hcut
  replace B := Lib.hid (below_then B.out hB)
  replace U6 := U6.below hB
  clear hB CP CB
  go_upto_region 13 with fail
  have L8 := below_allocs wc (.cells #[.int .u64 1, .int .u64 0] 31)
  have T8 := UB.new wc 1 0 31
  have K8 := Lib.hid (And.intro (U6.below L8) (And.intro (U7.below L8) (And.intro T8 (below_then B.out L8))))
  clear U6 U7 T8 B L8
  go_upto_region 14 with fail
  generalize hW8 : wc.alloc _ = W8 at K8 ⊢
  clear hW8
  generalize wc.heap.size = bw at K8 ⊢
  obtain ⟨k1, k2⟩ := K8.out.1.cells
  obtain ⟨k3, k4⟩ := K8.out.2.2.1.cells
  obtain ⟨k5, k6⟩ := K8.out.2.1.cells
  go_wp2_with fail
  refine (CX.out _).mono ?_
  rintro e V9 ⟨rfl, hb⟩
  have K9 := Lib.hid (And.intro (K8.out.2.1.below hb) (And.intro (K8.out.2.2.1.below hb) (below_then K8.out.2.2.2 hb)))
  clear hb K8 CX k1 k2 k3 k4 k5 k6
  obtain ⟨k1, k2⟩ := K9.out.1.cells
  obtain ⟨k3, k4⟩ := K9.out.2.1.cells
  go_wp2_with fail
  refine (CY.out _).mono ?_
  rintro e V10 ⟨rfl, hb⟩
  have B := Lib.hid (below_then K9.out.2.2 hb)
  clear hb K9 CY k1 k2 k3 k4
  go_upto_region 17 with fail
  obtain ⟨tt, htt⟩ : ∃ tt : Bool, tt = decide ((D : Int) < 18446744073709551615) := ⟨_, rfl⟩
  have HT := Lib.hid htt
  clear htt
  go_cut [101] (fun z wr => z = .bool tt ∧ wr = V10)
  case first =>
    clear HR KW
    go_wp2_with fail
    go_meet
    exact ⟨by rw [HT.out], rfl⟩
  obtain ⟨rfl, h12⟩ := hcut
  obtain ⟨V12, h13⟩ : ∃ V12, V12 = wc := ⟨_, rfl⟩
  rw [← h12, ← h13] at B
  rw [← h13]
  clear h12 h13
  go_upto_if 101 with fail
  go_cut [16] (fun z wr => (∃ y : Nat, y < N64 ∧ L ≤ y ∧ y ≤ H ∧ z = .int .u64 (y : Int)) ∧ Below V12.heap.size V12 wr)
  case first =>
    obtain ⟨h1, h2, h3, h4, h5, h6⟩ := HR.out
    have b0 := Lib.hid (Below.refl V12.heap.size V12)
    cases tt with
    | true =>
      have d1 : D < 18446744073709551615 := by have := of_decide_eq_true HT.out.symm; omega
      have d2 : IntKind.u64.wrap ((D : Int) + 1) = (D : Int) + 1 := by rw [IntKind.wrap_u64]; omega
      have d3 : ¬ (D : Int) + 1 = 0 := by omega
      have d4 : (x : Int) % ((D : Int) + 1) = ((x % (D + 1) : Nat) : Int) := by rw [Int.natCast_emod]; rfl
      have d5 : x % (D + 1) < D + 1 := Nat.mod_lt _ (Nat.succ_pos D)
      generalize x % (D + 1) = m at d4 d5
      have d6 : IntKind.u64.wrap ((L : Int) + (m : Int)) = ((L + m : Nat) : Int) := by rw [IntKind.wrap_u64]; omega
      have HY := Lib.hid (show L + m < N64 ∧ L ≤ L + m ∧ L + m ≤ H from ⟨by show _ < 18446744073709551616; omega, by omega, by omega⟩)
      clear h1 h2 h3 h4 h5 h6 d1 d5 HR KW HT
      go_wp2_with fail
      go_meet
      exact ⟨⟨L + m, HY.out.1, HY.out.2.1, HY.out.2.2, by rw [Int.natCast_add]⟩, b0.out⟩
    | false =>
      have d1 : ¬ D < 18446744073709551615 := by have := of_decide_eq_false HT.out.symm; omega
      have HY := Lib.hid (show x < N64 ∧ L ≤ x ∧ x ≤ H from ⟨h5, by omega, by omega⟩)
      clear h1 h2 h3 h4 h5 h6 d1 HR KW HT
      go_wp2_with fail
      go_meet
      exact ⟨⟨x, HY.out.1, HY.out.2.1, HY.out.2.2, rfl⟩, b0.out⟩
  obtain ⟨⟨y0, n0, n1, n2, rfl⟩, hB⟩ := hcut
  replace B := Lib.hid (below_then B.out hB)
  clear hB HT
  obtain ⟨u0, t0, W0⟩ := KW.out y0 n0
  obtain ⟨e0, e1⟩ := W0.k.2 ⟨by omega, by omega⟩
  subst e0 e1
  have C0 := Lib.hid W0.c
  clear W0 n1 n2
  go_wp2_with fail
  refine (C0.out _).mono ?_
  rintro e V11 ⟨rfl, hb⟩
  replace B := Lib.hid (below_then B.out hb)
  clear hb C0
  go_upto_region 22 with fail
  obtain ⟨h1, h2, h3, h4, h5, h6⟩ := HR.out
  obtain ⟨ya, ea⟩ : ∃ ya : Nat, IntKind.u64.wrap ((L : Int) - 1) = (ya : Int) ∧ ya < N64 := ⟨(L + 18446744073709551615) % 18446744073709551616, by rw [IntKind.wrap_u64]; omega, Nat.mod_lt _ (by decide)⟩
  obtain ⟨yb, eb⟩ : ∃ yb : Nat, IntKind.u64.wrap ((H : Int) + 1) = (yb : Int) ∧ yb < N64 := ⟨(H + 1) % 18446744073709551616, by rw [IntKind.wrap_u64]; omega, Nat.mod_lt _ (by decide)⟩
  obtain ⟨ua, ta, Wa⟩ := KW.out ya ea.2
  obtain ⟨ub, tb, Wb⟩ := KW.out yb eb.2
  obtain ⟨ux, tx, Wx⟩ := KW.out x h5
  have ea1 := ea.1
  have eb1 := eb.1
  have WA := Lib.hid Wa
  have WB := Lib.hid Wb
  have WX := Lib.hid Wx
  clear h1 h2 h3 h4 h5 h6 ea eb Wa Wb Wx KW HR
  go_wp2_with fail
  clear ea1 eb1
  go_loopg [128] 2 (fun g i wr => ∃ k : Nat, k + g = 2 ∧ i = .int .i64 k ∧ Hid (Below w.heap.size w wr))
  case atStart => exact ⟨0, by omega, rfl, B⟩
  case round =>
    obtain ⟨k, hk, rfl, F⟩ := hrel
    clear B
    have hk' : k = 0 ∨ k = 1 ∨ k = 2 := by omega
    rcases hk' with rfl | rfl | rfl
    · have q0 := ix0 (ya : Int) (yb : Int)
      have C1 := Lib.hid WA.out.c
      have K1 := Lib.hid WA.out.k
      go_wp2_with fail
      refine (C1.out _).mono ?_
      rintro e w2 ⟨rfl, hb⟩
      have B2 := Lib.hid (below_then F.out hb)
      clear hb C1 F q0
      cases ta with
      | false =>
        clear K1
        go_wp2
        go_roundg 1
        case measure => omega
        case rel => exact ⟨1, by omega, rfl, B2⟩
      | true =>
        by_cases hu : ua = (v : Int)
        · obtain ⟨n1, n2⟩ := K1.out.1 ⟨rfl, hu⟩
          have n3 : ¬ (ya : Int) < (L : Int) := by omega
          have n4 : ¬ (H : Int) < (ya : Int) := by omega
          clear K1 n1 n2
          subst hu
          go_wp2
          go_roundg 1
          case measure => omega
          case rel => exact ⟨1, by omega, rfl, B2⟩
        · have n3 : (ua == (v : Int)) = false := by simpa using hu
          clear K1 hu
          go_wp2
          go_roundg 1
          case measure => omega
          case rel => exact ⟨1, by omega, rfl, B2⟩
    · have q0 := ix1 (ya : Int) (yb : Int)
      have C1 := Lib.hid WB.out.c
      have K1 := Lib.hid WB.out.k
      go_wp2_with fail
      refine (C1.out _).mono ?_
      rintro e w2 ⟨rfl, hb⟩
      have B2 := Lib.hid (below_then F.out hb)
      clear hb C1 F q0
      cases tb with
      | false =>
        clear K1
        go_wp2
        go_roundg 0
        case measure => omega
        case rel => exact ⟨2, by omega, rfl, B2⟩
      | true =>
        by_cases hu : ub = (v : Int)
        · obtain ⟨n1, n2⟩ := K1.out.1 ⟨rfl, hu⟩
          have n3 : ¬ (yb : Int) < (L : Int) := by omega
          have n4 : ¬ (H : Int) < (yb : Int) := by omega
          clear K1 n1 n2
          subst hu
          go_wp2
          go_roundg 0
          case measure => omega
          case rel => exact ⟨2, by omega, rfl, B2⟩
        · have n3 : (ub == (v : Int)) = false := by simpa using hu
          clear K1 hu
          go_wp2
          go_roundg 0
          case measure => omega
          case rel => exact ⟨2, by omega, rfl, B2⟩
    · have C1 := Lib.hid WX.out.c
      have K1 := Lib.hid WX.out.k
      go_wp2_with fail
      refine (C1.out _).mono ?_
      rintro e w2 ⟨rfl, hb⟩
      have B2 := Lib.hid (below_then F.out hb)
      clear hb C1 F
      cases tx with
      | false =>
        clear K1
        go_wp2
        go_ret
        exact ⟨by simp, B2.out⟩
      | true =>
        by_cases hu : ux = (v : Int)
        · obtain ⟨n1, n2⟩ := K1.out.1 ⟨rfl, hu⟩
          clear K1
          subst hu
          go_wp2
          go_ret
          exact ⟨by simp, B2.out⟩
        · have n3 : (ux == (v : Int)) = false := by simpa using hu
          by_cases n1 : (L : Int) ≤ (x : Int)
          · have n2 : ¬ (x : Int) ≤ (H : Int) := fun h => hu (K1.out.2 ⟨n1, h⟩).2
            have n4 := Lib.hid (show H < x by omega)
            clear K1 hu
            go_wp2
            go_ret
            exact ⟨by simp [n4.out], B2.out⟩
          · clear K1 hu
            go_wp2
            go_ret
            exact ⟨by simp, B2.out⟩
set_option maxHeartbeats 2000000 in
theorem rowZero (AW : Hid (∀ w, Calls Tryz.prog 5 #[] w (fun e w' => e = .returned (.bool true) ∧ Below w.heap.size w w'))) (x v : Int)
    (CR : Hid (∀ w, Calls Tryz.prog 8 #[.int .u64 v, .int .u64 0] w (fun e w' => e = .returned (.tuple #[.int .u64 0, .int .u64 0, .int .i64 8]) ∧ Below w.heap.size w w'))) (w : World) : Calls Tryz.prog 4 #[.int .u64 0, .int .u64 v, .int .u64 x] w (fun e w' => e = .returned (.bool true) ∧ Below w.heap.size w w') := by
  go_enter Tryz.func4, Tryz.ntmps4
  go_wp2_with fail
  refine (AW.out _).mono ?_
  rintro e V1 ⟨rfl, hb⟩
  have B := Lib.hid hb
  clear hb AW
  go_wp2_with fail
  refine (CR.out _).mono ?_
  rintro e V2 ⟨rfl, hb⟩
  replace B := Lib.hid (below_then B.out hb)
  clear hb CR
  go_wp2_with fail
  go_ret
  exact ⟨rfl, B.out⟩
set_option maxHeartbeats 2000000 in
theorem rowArg (AW : Hid (∀ w, Calls Tryz.prog 5 #[] w (fun e w' => e = .returned (.bool true) ∧ Below w.heap.size w w'))) (x : Int) {v b : Nat} (h0 : 0 < b) (hv : b ≤ v)
    (CR : Hid (∀ w, Calls Tryz.prog 8 #[.int .u64 (v : Int), .int .u64 (b : Int)] w (fun e w' => e = .returned (.tuple #[.int .u64 0, .int .u64 0, .int .i64 1]) ∧ Below w.heap.size w w'))) (w : World) : Calls Tryz.prog 4 #[.int .u64 (b : Int), .int .u64 (v : Int), .int .u64 x] w (fun e w' => e = .returned (.bool true) ∧ Below w.heap.size w w') := by
  have z1 : ((b : Int) == 0) = false := by simp; omega
  have z2 : (b : Int) ≤ (v : Int) := by omega
  clear h0 hv
  go_enter Tryz.func4, Tryz.ntmps4
  go_wp2_with fail
  refine (AW.out _).mono ?_
  rintro e V1 ⟨rfl, hb⟩
  have B := Lib.hid hb
  clear hb AW
  go_wp2_with fail
  refine (CR.out _).mono ?_
  rintro e V2 ⟨rfl, hb⟩
  replace B := Lib.hid (below_then B.out hb)
  clear hb CR
  go_wp2_with fail
  go_ret
  exact ⟨rfl, B.out⟩
/-- BoundRow, for all numbers. -/
theorem boundRow (AW : Hid (∀ w, Calls Tryz.prog 5 #[] w (fun e w' => e = .returned (.bool true) ∧ Below w.heap.size w w'))) (bx : BX) {b v x : Nat} (hb : b < N64) (hv : v < N64) (hx : x < N64) (w : World) :
    Calls Tryz.prog 4 #[.int .u64 (b : Int), .int .u64 (v : Int), .int .u64 (x : Int)] w (fun e w' => e = .returned (.bool true) ∧ Below w.heap.size w w') := by
  have CR := bx.rng v b hv hb
  rcases Nat.eq_zero_or_pos b with rfl | h0
  · rw [show rgL v 0 = 0 from if_pos (Or.inl rfl), show rgH v 0 = 0 from if_pos (Or.inl rfl), show rgE v 0 = 8 from if_pos rfl] at CR
    exact rowZero AW x v (Lib.hid CR) w
  · rcases Nat.lt_or_ge v b with h1 | h1
    · have hn : ¬ (b = 0 ∨ b ≤ v) := by omega
      rw [show rgL v b = lowB N64 v b from if_neg hn, show rgH v b = highB N64 v b from if_neg hn, show rgE v b = 0 by unfold rgE; rw [if_neg (by omega), if_neg (by omega)]] at CR
      exact rowYes AW bx hx hb h1 (Rw.of bx hb h1) (Lib.hid CR) (Lib.hid fun y hy => ⟨_, _, Wk.of bx hy hb h0⟩) w
    · rw [show rgL v b = 0 from if_pos (Or.inr h1), show rgH v b = 0 from if_pos (Or.inr h1), show rgE v b = 1 by unfold rgE; rw [if_neg (by omega), if_pos h1]] at CR
      exact rowArg AW x h0 h1 (Lib.hid CR) w
end Go.Proofs.YtkpignbmocpcaaaGreat
