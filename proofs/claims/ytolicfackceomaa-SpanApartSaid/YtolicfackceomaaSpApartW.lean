/-
  The walk of SpanApart.
-/
import Derived.Test.YtolicfackceomaaSpAp
import Derived.Test.YtolicfackceomaaSpQ
import Derived.Test.YtolicfackceomaaSpC
namespace Go.Proofs.Ytolicfackceomaa
open Go.RowKit
set_option linter.unusedVariables false
set_option maxRecDepth 100000

theorem sumS_succ (l : List Sp) (k : Nat) (h : k < l.length) : sumS (l.take (k + 1)) = sumS (l.take k) + lenS (l.getD k default) := by
  rw [take_succ_getD l k h]
  generalize l.take k = a
  induction a with
  | nil => simp [sumS]
  | cons u a ih => simp only [List.cons_append, sumS, ih]; omega
theorem hadS_succ (l : List Sp) (k a : Nat) (h : k < l.length) : hadS (l.take (k + 1)) a = hadS (l.take k) a + (if hasS (l.getD k default) a = true then 1 else 0) := by
  rw [take_succ_getD l k h]
  unfold hadS
  rw [List.filter_append, List.length_append]
  generalize l.getD k default = s
  by_cases c : hasS s a = true
  · rw [if_pos c]; simp [c]
  · rw [if_neg c]; simp [c]
def allR (l : List Sp) : Bool := l.all (fun s => decide (s.f ≤ s.t))
theorem allR_succ (l : List Sp) (k : Nat) (h : k < l.length) : allR (l.take (k + 1)) = (allR (l.take k) && decide ((l.getD k default).f ≤ (l.getD k default).t)) := by
  rw [take_succ_getD l k h]
  unfold allR
  simp
theorem hadS_le (l : List Sp) (a : Nat) : hadS l a ≤ l.length := List.length_filter_le _ _
/-- Where SpanApart's blocks lie while it counts. -/
structure ApL (w : World) (y ab : Nat) (m l p q r t a0 a1 : Int) (wr : World) : Prop where
  at_ : UB 24 wr w.heap.size m l
  sb : SB 26 wr y p q r t
  ub : UB 24 wr ab a0 a1
  below : Below w.heap.size w wr
theorem ApL.far {w wr w' : World} {y ab : Nat} {m l p q r t a0 a1 : Int} (h : ApL w y ab m l p q r t a0 a1 wr) (hb : Below wr.heap.size wr w') : ApL w y ab m l p q r t a0 a1 w' := ⟨h.at_.below hb, h.sb.below hb, h.ub.below hb, below_then h.below hb⟩
theorem ApL.put {w wr : World} {y ab : Nat} {m l p q r t a0 a1 b0 b1 : Int} (h : ApL w y ab m l p q r t a0 a1 wr) (hy : y ≠ ab) (hw : w.heap.size ≠ ab) (hl : w.heap.size ≤ ab) :
    ApL w y ab m l p q r t b0 b1 ((wr.setCell ⟨ab, 0, none⟩ (.int .u64 b0)).setCell ⟨ab, 1, none⟩ (.int .u64 b1)) := ⟨h.at_.far2 hw _ _, h.sb.far2 hy _ _, h.ub.put, below_put2 h.below hl _ _⟩
theorem ApL.drew {w wr : World} {y ab : Nat} {m l p q r t a0 a1 : Int} (h : ApL w y ab m l p q r t a0 a1 wr) : ApL w y ab m l p q r t a0 a1 wr.drew := ⟨h.at_, h.sb, h.ub, h.below.drew⟩
set_option maxHeartbeats 16000000 in
theorem spanApart (AW : Hid (∀ w, Calls Try.prog 7 #[] w (fun e w' => e = .returned (.bool true) ∧ Below w.heap.size w w'))) (A : Option Addr) (cap : Nat) (l : List Sp) {m k0 : Int} {a : Nat} (ha : Wn m k0 a) (w : World) (h : SL w A cap l) :
    Calls Try.prog 5 #[.slice A l.length cap, .agg #[.int .u64 m, .int .u64 k0]] w (fun e w' => e = .returned (.bool true) ∧ Below w.heap.size w w') := by
  have H := Lib.hid h
  have HA := Lib.hid ha
  have hcap1 := h.cap1
  have hcap2 := h.cap2
  have B0 := below_allocs w (.cells #[.int .u64 m, .int .u64 k0] 24)
  have K := Lib.hid (And.intro (UB.new w m k0 24) B0)
  clear h ha B0
  by_cases hn : l.length ≤ 30
  · have hn' : ¬ (30 : Int) < ((l.length : Nat) : Int) := by omega
    go_enter Try.func5, Try.ntmps5
    go_wp2_with fail
    refine (AW.out _).mono ?_
    rintro er V1 ⟨rfl, hb⟩
    have B1 := below_allocs V1 (.cells #[.int .u64 0, .int .u64 0] 24)
    have K1 := Lib.hid (And.intro ((K.out.1.below hb).below B1) (And.intro (UB.new V1 0 0 24) (below_then (below_then K.out.2 hb) B1)))
    have hab : w.heap.size ≠ V1.heap.size ∧ w.heap.size ≤ V1.heap.size := by have := (K.out.1.below hb).lt; omega
    clear hb K B1
    go_upto_region 6 with fail
    generalize World.alloc V1 _ = V2 at K1 ⊢
    generalize V1.heap.size = ab at K1 hab ⊢
    go_wp2_with fail
    go_loopg [6, 7, 8, 23] l.length (fun gk ov ri hd i wr => ∃ (k : Nat), k + gk = l.length ∧ i = .int .i64 k ∧ ov = .bool (decide (Q ≤ sumS (l.take k))) ∧ ri = .bool (allR (l.take k)) ∧ hd = .int .i64 ((hadS (l.take k) a : Nat) : Int) ∧
      Hid (UB 24 wr w.heap.size m k0 ∧ UB 24 wr ab ((hiW (sumS (l.take k) % Q) : Nat) : Int) ((loW (sumS (l.take k) % Q) : Nat) : Int) ∧ Below w.heap.size w wr))
    case atStart => exact ⟨0, by omega, rfl, rfl, rfl, rfl, Lib.hid (by have := K1.out; rw [List.take_zero]; exact this)⟩
    case round =>
      clear K1
      obtain ⟨k, hk, rfl, rfl, rfl, rfl, K⟩ := hrel
      by_cases hlt : k < l.length
      · have hlt' : (k : Int) < l.length := by omega
        obtain ⟨b, o, p, q, r, t, rfl, hl, HS, c0, c1, c2, c3⟩ := (H.out.below K.out.2.2).at4 hlt
        have E1 := sumS_succ l k hlt
        have E2 := Lib.hid (hadS_succ l k a hlt)
        have E3 := Lib.hid (allR_succ l k hlt)
        have hle := hadS_le (l.take k) a
        rw [List.length_take] at hle
        generalize l.getD k default = s at HS E1 E2 E3
        generalize sumS (l.take k) = S at E1 K ⊢
        generalize hadS (l.take k) a = D at E2 hle ⊢
        generalize allR (l.take k) = R at E3 ⊢
        have hls := lenS_lt HS.out.ok
        have LC := Lib.hid (sLen HS.out)
        have AC := Lib.hid (fun W => cAdd (wn_of (N := S % Q) (Nat.mod_lt _ (by decide))) (wn_of hls) W)
        have RC := Lib.hid (sRight HS.out)
        have HC := Lib.hid (sHas HS.out HA.out)
        unfold AnsWB at AC
        have X1 : (S % Q + lenS s) % Q = sumS (l.take (k + 1)) % Q := by rw [E1, Nat.mod_add_mod]
        have X2 : (decide (Q ≤ S) || decide (Q ≤ S % Q + lenS s)) = decide (Q ≤ sumS (l.take (k + 1))) := by
          rw [E1, Bool.eq_iff_iff]
          simp only [Bool.or_eq_true, decide_eq_true_eq]
          show (340282366920938463463374607431768211456 ≤ S ∨ 340282366920938463463374607431768211456 ≤ S % 340282366920938463463374607431768211456 + lenS s) ↔ 340282366920938463463374607431768211456 ≤ S + lenS s
          omega
        rw [X1] at AC
        have X3 := Lib.hid X2
        clear X1 X2 E1 hls
        generalize decide (Q ≤ S % Q + lenS s) = mo at AC X3
        generalize decide (Q ≤ S) = ov at X3 ⊢
        generalize ((hiW (S % Q) : Nat) : Int) = a0 at AC K
        generalize ((loW (S % Q) : Nat) : Int) = a1 at AC K
        generalize ((hiW (lenS s) : Nat) : Int) = e0 at LC AC
        generalize ((loW (lenS s) : Nat) : Int) = e1 at LC AC
        obtain ⟨b0, hb0⟩ : ∃ b0, ((hiW (sumS (l.take (k + 1)) % Q) : Nat) : Int) = b0 := ⟨_, rfl⟩
        obtain ⟨b1, hb1⟩ : ∃ b1, ((loW (sumS (l.take (k + 1)) % Q) : Nat) : Int) = b1 := ⟨_, rfl⟩
        have EB := Lib.hid (And.intro hb0 hb1)
        rw [hb0, hb1] at AC
        clear hb0 hb1
        have LB := below_allocs wr (.cells #[.int .u64 p, .int .u64 q, .int .u64 r, .int .u64 t] 26)
        have KA : Hid (ApL w wr.heap.size ab m k0 p q r t a0 a1 (wr.alloc (.cells #[.int .u64 p, .int .u64 q, .int .u64 r, .int .u64 t] 26))) := Lib.hid ⟨K.out.1.below LB, SB.new wr p q r t _, K.out.2.1.below LB, below_then K.out.2.2 LB⟩
        have ny : wr.heap.size ≠ ab := by have := K.out.2.1.lt; omega
        clear LB K
        go_upto_region 10 with fail
        clear c0 c1 c2 c3 hl
        generalize World.alloc wr _ = W1 at KA ⊢
        generalize wr.heap.size = y at KA ny ⊢
        go_cut [11] (fun u wr => u = .bool mo ∧ ApL w y ab m k0 p q r t b0 b1 wr)
        case first =>
          obtain ⟨s0, s1, s2, s3⟩ := KA.out.sb.cells
          obtain ⟨v0, v1⟩ := KA.out.ub.cells
          go_region_with (first
            | (go_at_call 15; (refine (LC.out _).mono ?_); rintro e W3 ⟨rfl, hb3⟩; have KC : Hid (ApL w y ab m k0 p q r t a0 a1 W3) := Lib.hid (by first | exact KA.out.far hb3 | exact KA.out.drew.far hb3); clear hb3; obtain ⟨i0, i1⟩ := KC.out.ub.cells)
            | (go_at_call 32; (refine (AC.out _).mono ?_); rintro e W4 ⟨rfl, hb4⟩; have KD := Lib.hid (KC.out.far hb4); clear hb4; obtain ⟨j0, j1⟩ := KD.out.ub.cells; obtain ⟨f0, f1⟩ := KD.out.ub.free))
          all_goals
            go_wp2_with fail
            go_meet
            exact ⟨rfl, KD.out.put ny hab.1 hab.2⟩
        obtain ⟨rfl, KN⟩ := hcut
        have KE := Lib.hid KN
        clear KN KA LC AC
        cases hh : hasS s a with
        | false =>
          rw [hh] at HC
          have E4 := E2.out
          rw [hh] at E4
          replace E2 := Lib.hid E4
          clear hh E4
          cases R with
          | false =>
            cases ov with
            | false =>
              obtain ⟨s0, s1, s2, s3⟩ := KE.out.sb.cells
              obtain ⟨z0, z1⟩ := KE.out.at_.cells
              go_wp2_with fail
              refine (HC.out _).mono ?_
              rintro e W6 ⟨rfl, hb6⟩
              have KG := Lib.hid (KE.out.far hb6)
              clear hb6 s0 s1 s2 s3 z0 z1 KE
              go_wp2_with fail
              go_roundg (gk - 1)
              case measure => omega
              case rel => exact ⟨k + 1, by omega, by go_num, by rw [← X3.out]; rfl, by rw [E3.out]; rfl, by rw [E2.out]; first | rfl | (show Value.int .i64 _ = Value.int .i64 _; congr 1; try rw [wrap64_i64 _ (by omega) (by omega)]; simp) | go_num, Lib.hid ⟨KG.out.at_, by rw [EB.out.1, EB.out.2]; exact KG.out.ub, KG.out.below⟩⟩
            | true =>
              obtain ⟨s0, s1, s2, s3⟩ := KE.out.sb.cells
              obtain ⟨z0, z1⟩ := KE.out.at_.cells
              go_wp2_with fail
              refine (HC.out _).mono ?_
              rintro e W6 ⟨rfl, hb6⟩
              have KG := Lib.hid (KE.out.far hb6)
              clear hb6 s0 s1 s2 s3 z0 z1 KE
              go_wp2_with fail
              go_roundg (gk - 1)
              case measure => omega
              case rel => exact ⟨k + 1, by omega, by go_num, by rw [← X3.out]; rfl, by rw [E3.out]; rfl, by rw [E2.out]; first | rfl | (show Value.int .i64 _ = Value.int .i64 _; congr 1; try rw [wrap64_i64 _ (by omega) (by omega)]; simp) | go_num, Lib.hid ⟨KG.out.at_, by rw [EB.out.1, EB.out.2]; exact KG.out.ub, KG.out.below⟩⟩
          | true =>
            cases ov with
            | false =>
              obtain ⟨s0, s1, s2, s3⟩ := KE.out.sb.cells
              obtain ⟨z0, z1⟩ := KE.out.at_.cells
              go_wp2_with fail
              refine (RC.out _).mono ?_
              rintro e W5 ⟨rfl, hb5⟩
              have KF := Lib.hid (KE.out.far hb5)
              clear hb5 s0 s1 s2 s3 z0 z1 KE
              obtain ⟨s0, s1, s2, s3⟩ := KF.out.sb.cells
              obtain ⟨z0, z1⟩ := KF.out.at_.cells
              go_wp2_with fail
              refine (HC.out _).mono ?_
              rintro e W6 ⟨rfl, hb6⟩
              have KG := Lib.hid (KF.out.far hb6)
              clear hb6 s0 s1 s2 s3 z0 z1 KF
              go_wp2_with fail
              go_roundg (gk - 1)
              case measure => omega
              case rel => exact ⟨k + 1, by omega, by go_num, by rw [← X3.out]; rfl, by rw [E3.out]; rfl, by rw [E2.out]; first | rfl | (show Value.int .i64 _ = Value.int .i64 _; congr 1; try rw [wrap64_i64 _ (by omega) (by omega)]; simp) | go_num, Lib.hid ⟨KG.out.at_, by rw [EB.out.1, EB.out.2]; exact KG.out.ub, KG.out.below⟩⟩
            | true =>
              obtain ⟨s0, s1, s2, s3⟩ := KE.out.sb.cells
              obtain ⟨z0, z1⟩ := KE.out.at_.cells
              go_wp2_with fail
              refine (RC.out _).mono ?_
              rintro e W5 ⟨rfl, hb5⟩
              have KF := Lib.hid (KE.out.far hb5)
              clear hb5 s0 s1 s2 s3 z0 z1 KE
              obtain ⟨s0, s1, s2, s3⟩ := KF.out.sb.cells
              obtain ⟨z0, z1⟩ := KF.out.at_.cells
              go_wp2_with fail
              refine (HC.out _).mono ?_
              rintro e W6 ⟨rfl, hb6⟩
              have KG := Lib.hid (KF.out.far hb6)
              clear hb6 s0 s1 s2 s3 z0 z1 KF
              go_wp2_with fail
              go_roundg (gk - 1)
              case measure => omega
              case rel => exact ⟨k + 1, by omega, by go_num, by rw [← X3.out]; rfl, by rw [E3.out]; rfl, by rw [E2.out]; first | rfl | (show Value.int .i64 _ = Value.int .i64 _; congr 1; try rw [wrap64_i64 _ (by omega) (by omega)]; simp) | go_num, Lib.hid ⟨KG.out.at_, by rw [EB.out.1, EB.out.2]; exact KG.out.ub, KG.out.below⟩⟩
        | true =>
          rw [hh] at HC
          have E4 := E2.out
          rw [hh] at E4
          replace E2 := Lib.hid E4
          clear hh E4
          cases R with
          | false =>
            cases ov with
            | false =>
              obtain ⟨s0, s1, s2, s3⟩ := KE.out.sb.cells
              obtain ⟨z0, z1⟩ := KE.out.at_.cells
              go_wp2_with fail
              refine (HC.out _).mono ?_
              rintro e W6 ⟨rfl, hb6⟩
              have KG := Lib.hid (KE.out.far hb6)
              clear hb6 s0 s1 s2 s3 z0 z1 KE
              go_wp2_with fail
              go_roundg (gk - 1)
              case measure => omega
              case rel => exact ⟨k + 1, by omega, by go_num, by rw [← X3.out]; rfl, by rw [E3.out]; rfl, by rw [E2.out]; first | rfl | (show Value.int .i64 _ = Value.int .i64 _; congr 1; try rw [wrap64_i64 _ (by omega) (by omega)]; simp) | go_num, Lib.hid ⟨KG.out.at_, by rw [EB.out.1, EB.out.2]; exact KG.out.ub, KG.out.below⟩⟩
            | true =>
              obtain ⟨s0, s1, s2, s3⟩ := KE.out.sb.cells
              obtain ⟨z0, z1⟩ := KE.out.at_.cells
              go_wp2_with fail
              refine (HC.out _).mono ?_
              rintro e W6 ⟨rfl, hb6⟩
              have KG := Lib.hid (KE.out.far hb6)
              clear hb6 s0 s1 s2 s3 z0 z1 KE
              go_wp2_with fail
              go_roundg (gk - 1)
              case measure => omega
              case rel => exact ⟨k + 1, by omega, by go_num, by rw [← X3.out]; rfl, by rw [E3.out]; rfl, by rw [E2.out]; first | rfl | (show Value.int .i64 _ = Value.int .i64 _; congr 1; try rw [wrap64_i64 _ (by omega) (by omega)]; simp) | go_num, Lib.hid ⟨KG.out.at_, by rw [EB.out.1, EB.out.2]; exact KG.out.ub, KG.out.below⟩⟩
          | true =>
            cases ov with
            | false =>
              obtain ⟨s0, s1, s2, s3⟩ := KE.out.sb.cells
              obtain ⟨z0, z1⟩ := KE.out.at_.cells
              go_wp2_with fail
              refine (RC.out _).mono ?_
              rintro e W5 ⟨rfl, hb5⟩
              have KF := Lib.hid (KE.out.far hb5)
              clear hb5 s0 s1 s2 s3 z0 z1 KE
              obtain ⟨s0, s1, s2, s3⟩ := KF.out.sb.cells
              obtain ⟨z0, z1⟩ := KF.out.at_.cells
              go_wp2_with fail
              refine (HC.out _).mono ?_
              rintro e W6 ⟨rfl, hb6⟩
              have KG := Lib.hid (KF.out.far hb6)
              clear hb6 s0 s1 s2 s3 z0 z1 KF
              go_wp2_with fail
              go_roundg (gk - 1)
              case measure => omega
              case rel => exact ⟨k + 1, by omega, by go_num, by rw [← X3.out]; rfl, by rw [E3.out]; rfl, by rw [E2.out]; first | rfl | (show Value.int .i64 _ = Value.int .i64 _; congr 1; try rw [wrap64_i64 _ (by omega) (by omega)]; simp) | go_num, Lib.hid ⟨KG.out.at_, by rw [EB.out.1, EB.out.2]; exact KG.out.ub, KG.out.below⟩⟩
            | true =>
              obtain ⟨s0, s1, s2, s3⟩ := KE.out.sb.cells
              obtain ⟨z0, z1⟩ := KE.out.at_.cells
              go_wp2_with fail
              refine (RC.out _).mono ?_
              rintro e W5 ⟨rfl, hb5⟩
              have KF := Lib.hid (KE.out.far hb5)
              clear hb5 s0 s1 s2 s3 z0 z1 KE
              obtain ⟨s0, s1, s2, s3⟩ := KF.out.sb.cells
              obtain ⟨z0, z1⟩ := KF.out.at_.cells
              go_wp2_with fail
              refine (HC.out _).mono ?_
              rintro e W6 ⟨rfl, hb6⟩
              have KG := Lib.hid (KF.out.far hb6)
              clear hb6 s0 s1 s2 s3 z0 z1 KF
              go_wp2_with fail
              go_roundg (gk - 1)
              case measure => omega
              case rel => exact ⟨k + 1, by omega, by go_num, by rw [← X3.out]; rfl, by rw [E3.out]; rfl, by rw [E2.out]; first | rfl | (show Value.int .i64 _ = Value.int .i64 _; congr 1; try rw [wrap64_i64 _ (by omega) (by omega)]; simp) | go_num, Lib.hid ⟨KG.out.at_, by rw [EB.out.1, EB.out.2]; exact KG.out.ub, KG.out.below⟩⟩
      · obtain rfl : k = l.length := by omega
        have hl : l.take l.length = l := List.take_length
        rw [hl] at K ⊢
        clear hlt
        obtain ⟨N, hNQ⟩ : ∃ N, N + 1 = Q := ⟨340282366920938463463374607431768211455, rfl⟩
        have N1 : ∀ s ∈ l, s.t ≤ N := fun s hs => by have := (H.out.ok s hs).2; omega
        have hNlt : N < Q := by omega
        clear hNQ
        have F1 : apartB l = true → allR l = true ∧ hadS l a ≤ 1 := fun h => by
          obtain ⟨h1, h2⟩ := (apartB_iff l).1 h
          exact ⟨by unfold allR; rw [List.all_eq_true]; intro s hs; exact decide_eq_true (h1 s hs), had_one l a h2⟩
        have F2 : ¬ Q ≤ sumS l → apartB l = (allR l && decide (covN l N = sumS l % Q)) := fun h => by
          rw [Nat.mod_eq_of_lt (by omega : sumS l < Q), Bool.eq_iff_iff, apartB_iff, Bool.and_eq_true, decide_eq_true_eq, (cov_sum l N N1).2]
          unfold allR
          rw [List.all_eq_true]
          simp
        have cvlt : covN l N < Q := Nat.lt_of_le_of_lt (Mt.cnt_le _ N) hNlt
        have E0 := fun w => eqU ((hiW (covN l N) : Nat) : Int) ((loW (covN l N) : Nat) : Int) ((hiW (sumS l % Q) : Nat) : Int) ((loW (sumS l % Q) : Nat) : Int) w
        rw [wn_same (wn_of cvlt) (wn_of (N := sumS l % Q) (Nat.mod_lt _ (by decide)))] at E0
        have AP := Lib.hid (cApart A cap l wr (H.out.below K.out.2.2) (by omega))
        have COV0 : Hid (∀ W, Below w.heap.size w W → Calls Try.prog 27 #[.slice A l.length cap] W (fun e w' => e = .returned (.agg #[.int .u64 ((hiW (covN l N) : Nat) : Int), .int .u64 ((loW (covN l N) : Nat) : Int)]) ∧ Below W.heap.size W w')) :=
          Lib.hid fun W hb => cCoverN A cap l W (H.out.below hb) (by omega) N N1 hNlt
        have TW : Hid (∀ W, Below w.heap.size w W → Calls Try.prog 25 #[.slice A l.length cap] W (AnsL (tw (cntL l) l) W)) := Lib.hid fun W hb => cTwice A cap l W (H.out.below hb) (by omega)
        have SH := Lib.hid (tw_short (l := l))
        have hD := hadS_le l a
        obtain ⟨ap, hap⟩ : ∃ ap, apartB l = ap := ⟨_, rfl⟩
        obtain ⟨R, hR⟩ : ∃ R, allR l = R := ⟨_, rfl⟩
        obtain ⟨ee, hee⟩ : ∃ ee, decide (covN l N = sumS l % Q) = ee := ⟨_, rfl⟩
        obtain ⟨D, hDD⟩ : ∃ D, hadS l a = D := ⟨_, rfl⟩
        have F2' : decide (Q ≤ sumS l) = false → ap = (R && ee) := fun h => by rw [← hap, ← hR, ← hee]; exact F2 (of_decide_eq_false h)
        obtain ⟨ov, hov⟩ : ∃ ov, decide (Q ≤ sumS l) = ov := ⟨_, rfl⟩
        rw [hap, hR, hDD] at F1
        rw [hov] at F2'
        rw [hap] at AP
        have SH2 : Hid (ap = true → ∀ s ∈ tw (cntL l) l, lenS s = 0) := Lib.hid fun h => SH.out (hap.trans h)
        rw [hee] at E0
        rw [hDD] at hD
        have FF := Lib.hid (And.intro F1 F2')
        rw [hov, hR, hDD]
        clear F1 F2 F2' hap hR hee hDD hov SH N1 cvlt
        generalize ((hiW (covN l N) : Nat) : Int) = q0 at E0 COV0
        generalize ((loW (covN l N) : Nat) : Int) = q1 at E0 COV0
        generalize ((hiW (sumS l % Q) : Nat) : Int) = p0 at E0 K
        generalize ((loW (sumS l % Q) : Nat) : Int) = p1 at E0 K
        go_wp2_with fail
        refine AP.out.mono ?_
        rintro er V3 ⟨rfl, hb⟩
        have K3 := Lib.hid (And.intro (K.out.1.below hb) (And.intro (K.out.2.1.below hb) (below_then K.out.2.2 hb)))
        have COV : Hid (∀ W, Below V3.heap.size V3 W → Calls Try.prog 27 #[.slice A l.length cap] W (fun e w' => e = .returned (.agg #[.int .u64 q0, .int .u64 q1]) ∧ Below W.heap.size W w')) := Lib.hid fun W hW => COV0.out W (below_then K3.out.2.2 hW)
        clear hb K AP COV0
        go_upto_region 17 with fail
        go_cut [77] (fun u wr => u = .bool false ∧ Below w.heap.size w wr)
        case first =>
          clear AW HA H TW SH2 hcap1 hcap2 hn hn'
          refine wp_region_class (fun w' => Below V3.heap.size V3 w') (by kernel_rfl) (by kernel_rfl) (Below.refl _ _).drew ?_
          cases ov with
          | true =>
            cases ap with
            | false =>
              iterate 3
                (refine WQ.yes ?_ (by kernel_rfl) (fun w' hC => ?_) ?_
                 rotate_left
                 · (obtain ⟨v0, v1⟩ := (K3.out.2.1.below hC).cells
                    go_simp
                    first | done | with_reducible rfl | exact ⟨rfl, rfl⟩ | (go_at_call 27; (with_reducible exact quietA (COV.out _ hC) hC)))
                 (try simp only [Act.put, List.setIfInBounds_toArray, List.set_cons_zero, List.set_cons_succ]))
              iterate 9
                (refine WQ.no (by kernel_rfl) ?_; (try simp only [Act.put, List.setIfInBounds_toArray, List.set_cons_zero, List.set_cons_succ]))
              iterate 4
                (refine WQ.yes ?_ (by kernel_rfl) (fun w' hC => ?_) ?_
                 rotate_left
                 · (obtain ⟨v0, v1⟩ := (K3.out.2.1.below hC).cells
                    go_simp
                    first | done | with_reducible rfl | exact ⟨rfl, rfl⟩ | (go_at_call 27; (with_reducible exact quietA (COV.out _ hC) hC)))
                 (try simp only [Act.put, List.setIfInBounds_toArray, List.set_cons_zero, List.set_cons_succ]))
              iterate 2
                (refine WQ.no (by kernel_rfl) ?_; (try simp only [Act.put, List.setIfInBounds_toArray, List.set_cons_zero, List.set_cons_succ]))
              iterate 5
                (refine WQ.yes ?_ (by kernel_rfl) (fun w' hC => ?_) ?_
                 rotate_left
                 · (obtain ⟨v0, v1⟩ := (K3.out.2.1.below hC).cells
                    go_simp
                    first | done | with_reducible rfl | exact ⟨rfl, rfl⟩ | (go_at_call 27; (with_reducible exact quietA (COV.out _ hC) hC)))
                 (try simp only [Act.put, List.setIfInBounds_toArray, List.set_cons_zero, List.set_cons_succ]))
              iterate 2
                (refine WQ.no (by kernel_rfl) ?_; (try simp only [Act.put, List.setIfInBounds_toArray, List.set_cons_zero, List.set_cons_succ]))
              iterate 2
                (refine WQ.yes ?_ (by kernel_rfl) (fun w' hC => ?_) ?_
                 rotate_left
                 · (obtain ⟨v0, v1⟩ := (K3.out.2.1.below hC).cells
                    go_simp
                    first | done | with_reducible rfl | exact ⟨rfl, rfl⟩ | (go_at_call 27; (with_reducible exact quietA (COV.out _ hC) hC)))
                 (try simp only [Act.put, List.setIfInBounds_toArray, List.set_cons_zero, List.set_cons_succ]))
              refine WQ.nil ?_
              intro wz hX
              go_wp2_with fail
              go_meet
              exact ⟨rfl, below_then K3.out.2.2 hX⟩
            | true =>
              obtain ⟨rfl, h1⟩ := FF.out.1 (by simp)
              have h1' : ¬ (1 : Int) < (D : Int) := by omega
              clear FF h1
              iterate 3
                (refine WQ.yes ?_ (by kernel_rfl) (fun w' hC => ?_) ?_
                 rotate_left
                 · (obtain ⟨v0, v1⟩ := (K3.out.2.1.below hC).cells
                    go_simp
                    first | done | with_reducible rfl | exact ⟨rfl, rfl⟩ | (go_at_call 27; (with_reducible exact quietA (COV.out _ hC) hC)))
                 (try simp only [Act.put, List.setIfInBounds_toArray, List.set_cons_zero, List.set_cons_succ]))
              iterate 9
                (refine WQ.no (by kernel_rfl) ?_; (try simp only [Act.put, List.setIfInBounds_toArray, List.set_cons_zero, List.set_cons_succ]))
              iterate 15
                (refine WQ.yes ?_ (by kernel_rfl) (fun w' hC => ?_) ?_
                 rotate_left
                 · (obtain ⟨v0, v1⟩ := (K3.out.2.1.below hC).cells
                    go_simp
                    first | done | with_reducible rfl | exact ⟨rfl, rfl⟩ | (go_at_call 27; (with_reducible exact quietA (COV.out _ hC) hC)))
                 (try simp only [Act.put, List.setIfInBounds_toArray, List.set_cons_zero, List.set_cons_succ]))
              refine WQ.nil ?_
              intro wz hX
              go_wp2_with fail
              go_meet
              exact ⟨rfl, below_then K3.out.2.2 hX⟩
          | false =>
            have h2 := FF.out.2 (by simp)
            cases R with
            | false =>
              obtain rfl : ap = false := by simpa using h2
              clear FF h2
              iterate 6
                (refine WQ.yes ?_ (by kernel_rfl) (fun w' hC => ?_) ?_
                 rotate_left
                 · (obtain ⟨v0, v1⟩ := (K3.out.2.1.below hC).cells
                    go_simp
                    first | done | with_reducible rfl | exact ⟨rfl, rfl⟩ | (go_at_call 27; (with_reducible exact quietA (COV.out _ hC) hC)))
                 (try simp only [Act.put, List.setIfInBounds_toArray, List.set_cons_zero, List.set_cons_succ]))
              iterate 4
                (refine WQ.no (by kernel_rfl) ?_; (try simp only [Act.put, List.setIfInBounds_toArray, List.set_cons_zero, List.set_cons_succ]))
              iterate 6
                (refine WQ.yes ?_ (by kernel_rfl) (fun w' hC => ?_) ?_
                 rotate_left
                 · (obtain ⟨v0, v1⟩ := (K3.out.2.1.below hC).cells
                    go_simp
                    first | done | with_reducible rfl | exact ⟨rfl, rfl⟩ | (go_at_call 27; (with_reducible exact quietA (COV.out _ hC) hC)))
                 (try simp only [Act.put, List.setIfInBounds_toArray, List.set_cons_zero, List.set_cons_succ]))
              iterate 2
                (refine WQ.no (by kernel_rfl) ?_; (try simp only [Act.put, List.setIfInBounds_toArray, List.set_cons_zero, List.set_cons_succ]))
              iterate 5
                (refine WQ.yes ?_ (by kernel_rfl) (fun w' hC => ?_) ?_
                 rotate_left
                 · (obtain ⟨v0, v1⟩ := (K3.out.2.1.below hC).cells
                    go_simp
                    first | done | with_reducible rfl | exact ⟨rfl, rfl⟩ | (go_at_call 27; (with_reducible exact quietA (COV.out _ hC) hC)))
                 (try simp only [Act.put, List.setIfInBounds_toArray, List.set_cons_zero, List.set_cons_succ]))
              iterate 2
                (refine WQ.no (by kernel_rfl) ?_; (try simp only [Act.put, List.setIfInBounds_toArray, List.set_cons_zero, List.set_cons_succ]))
              iterate 2
                (refine WQ.yes ?_ (by kernel_rfl) (fun w' hC => ?_) ?_
                 rotate_left
                 · (obtain ⟨v0, v1⟩ := (K3.out.2.1.below hC).cells
                    go_simp
                    first | done | with_reducible rfl | exact ⟨rfl, rfl⟩ | (go_at_call 27; (with_reducible exact quietA (COV.out _ hC) hC)))
                 (try simp only [Act.put, List.setIfInBounds_toArray, List.set_cons_zero, List.set_cons_succ]))
              refine WQ.nil ?_
              intro wz hX
              go_wp2_with fail
              go_meet
              exact ⟨rfl, below_then K3.out.2.2 hX⟩
            | true =>
              obtain rfl : ap = ee := by simpa using h2
              clear h2
              cases ap with
              | false =>
                clear FF
                iterate 16
                  (refine WQ.yes ?_ (by kernel_rfl) (fun w' hC => ?_) ?_
                   rotate_left
                   · (obtain ⟨v0, v1⟩ := (K3.out.2.1.below hC).cells
                      go_simp
                      first | done | with_reducible rfl | exact ⟨rfl, rfl⟩ | (go_at_call 27; (with_reducible exact quietA (COV.out _ hC) hC)))
                   (try simp only [Act.put, List.setIfInBounds_toArray, List.set_cons_zero, List.set_cons_succ]))
                iterate 2
                  (refine WQ.no (by kernel_rfl) ?_; (try simp only [Act.put, List.setIfInBounds_toArray, List.set_cons_zero, List.set_cons_succ]))
                iterate 5
                  (refine WQ.yes ?_ (by kernel_rfl) (fun w' hC => ?_) ?_
                   rotate_left
                   · (obtain ⟨v0, v1⟩ := (K3.out.2.1.below hC).cells
                      go_simp
                      first | done | with_reducible rfl | exact ⟨rfl, rfl⟩ | (go_at_call 27; (with_reducible exact quietA (COV.out _ hC) hC)))
                   (try simp only [Act.put, List.setIfInBounds_toArray, List.set_cons_zero, List.set_cons_succ]))
                iterate 2
                  (refine WQ.no (by kernel_rfl) ?_; (try simp only [Act.put, List.setIfInBounds_toArray, List.set_cons_zero, List.set_cons_succ]))
                iterate 2
                  (refine WQ.yes ?_ (by kernel_rfl) (fun w' hC => ?_) ?_
                   rotate_left
                   · (obtain ⟨v0, v1⟩ := (K3.out.2.1.below hC).cells
                      go_simp
                      first | done | with_reducible rfl | exact ⟨rfl, rfl⟩ | (go_at_call 27; (with_reducible exact quietA (COV.out _ hC) hC)))
                   (try simp only [Act.put, List.setIfInBounds_toArray, List.set_cons_zero, List.set_cons_succ]))
                refine WQ.nil ?_
                intro wz hX
                go_wp2_with fail
                go_meet
                exact ⟨rfl, below_then K3.out.2.2 hX⟩
              | true =>
                obtain ⟨_, h1⟩ := FF.out.1 (by simp)
                have h1' : ¬ (1 : Int) < (D : Int) := by omega
                clear FF h1
                iterate 27
                  (refine WQ.yes ?_ (by kernel_rfl) (fun w' hC => ?_) ?_
                   rotate_left
                   · (obtain ⟨v0, v1⟩ := (K3.out.2.1.below hC).cells
                      go_simp
                      first | done | with_reducible rfl | exact ⟨rfl, rfl⟩ | (go_at_call 27; (with_reducible exact quietA (COV.out _ hC) hC)))
                   (try simp only [Act.put, List.setIfInBounds_toArray, List.set_cons_zero, List.set_cons_succ]))
                refine WQ.nil ?_
                intro wz hX
                go_wp2_with fail
                go_meet
                exact ⟨rfl, below_then K3.out.2.2 hX⟩
        obtain ⟨rfl, hBz⟩ := hcut
        have HBz := Lib.hid hBz
        clear hBz K3 COV E0 FF
        go_wp2_with fail
        refine (TW.out _ HBz.out).mono ?_
        rintro er V4 ⟨A2, k2, rfl, hs, hb⟩
        have KT := Lib.hid (And.intro hs (below_then HBz.out hb))
        have hc1 := hs.cap1
        have hc2 := hs.cap2
        clear hs hb TW HBz
        obtain ⟨tl, htl⟩ : ∃ tl, tw (cntL l) l = tl := ⟨_, rfl⟩
        rw [htl] at KT SH2 hc1 ⊢
        clear htl
        go_wp2_with fail
        go_loopg [81] tl.length (fun gk i wr => ∃ k : Nat, k + gk = tl.length ∧ i = .int .i64 k ∧ Hid (SL wr A2 k2 tl ∧ Below w.heap.size w wr))
        case atStart => exact ⟨0, by omega, rfl, KT⟩
        case round =>
          clear KT
          obtain ⟨k, hk, rfl, K⟩ := hrel
          by_cases hlt : k < tl.length
          · have hlt' : (k : Int) < tl.length := by omega
            obtain ⟨b, o, p, q, r, t, rfl, hl2, HS, c0, c1, c2, c3⟩ := K.out.1.at4 hlt
            have hmem : tl.getD k default ∈ tl := by rw [List.getD_eq_getElem?_getD, List.getElem?_eq_getElem hlt]; exact List.getElem_mem hlt
            have Z : Hid (ap = true → lenS (tl.getD k default) = 0) := Lib.hid fun h => SH2.out h _ hmem
            have LC := Lib.hid (sLen HS.out)
            have LB := below_allocs wr (.cells #[.int .u64 p, .int .u64 q, .int .u64 r, .int .u64 t] 26)
            have KA := Lib.hid (And.intro (SB.new wr p q r t 26) (And.intro (K.out.1.below LB) (below_then K.out.2 LB)))
            clear LB K hmem
            go_upto_region 22 with fail
            clear c0 c1 c2 c3 hl2
            generalize World.alloc wr _ = W1 at KA ⊢
            generalize wr.heap.size = y at KA ⊢
            cases ap with
            | false =>
              go_wp2_with fail
              go_roundg (gk - 1)
              case measure => omega
              case rel => exact ⟨k + 1, by omega, by go_num, Lib.hid KA.out.2⟩
            | true =>
              have L2 := LC.out
              rw [Z.out rfl] at L2
              have L3 : Hid (TU 15 #[.agg #[.int .u64 p, .int .u64 q, .int .u64 r, .int .u64 t]] 0 0) := Lib.hid L2
              clear L2 LC Z
              obtain ⟨s0, s1, s2, s3⟩ := KA.out.1.cells
              go_wp2_with fail
              refine (L3.out _).mono ?_
              rintro er W3 ⟨rfl, hb3⟩
              have KB := Lib.hid (And.intro (KA.out.2.1.below hb3) (below_then KA.out.2.2 hb3))
              clear hb3 KA s0 s1 s2 s3
              go_wp2_with fail
              go_roundg (gk - 1)
              case measure => omega
              case rel => exact ⟨k + 1, by omega, by go_num, KB⟩
          · obtain rfl : k = tl.length := by omega
            go_wp2_with fail
            go_ret
            exact ⟨rfl, K.out.2⟩
  · have hn' : (30 : Int) < ((l.length : Nat) : Int) := by omega
    go_enter Try.func5, Try.ntmps5
    go_wp2_with fail
    refine (AW.out _).mono ?_
    rintro er V1 ⟨rfl, hb⟩
    have HB := Lib.hid (below_then K.out.2 hb)
    clear hb K
    go_wp2_with fail
    go_ret
    exact ⟨rfl, HB.out⟩
end Go.Proofs.Ytolicfackceomaa
