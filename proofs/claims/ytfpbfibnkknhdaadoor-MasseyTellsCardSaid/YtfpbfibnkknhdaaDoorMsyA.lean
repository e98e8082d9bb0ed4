/-
  What math/bits.TrailingZeros64 and the closure of package massey's call oddAt answer: whether of the bits that a polynomial names, from a place on, an odd number is 1.
-/
import Derived.Test.YtfpbfibnkknhdaaDoorMsyM
import Derived.Test.YtfpbfibnkknhdaaDoorGfdB
import Derived.Test.YtfpbfibnkknhdaaDoorGfpK
import Derived.Shelf.Spec.TrailingZeros
import Derived.Deep.RegionHeld3
namespace Go.Proofs.YtfpbfibnkknhdaaDoor
open Go.RowKit G
set_option linter.unusedVariables false

/-- A slice (its address, its capacity) that holds these bools. -/
structure Brs (w : World) (A : Option Addr) (cap : Nat) (l : List Bool) : Prop where
  cap1 : l.length ≤ cap
  cap2 : cap ≤ 9223372036854775807
  cell : ∀ i, i < l.length → ∃ b o, A = some ⟨b, o, none⟩ ∧ w.cell? ⟨b, o + i, none⟩ = some (.bool (l.getD i false))
theorem Brs.below {w w' : World} {A : Option Addr} {cap : Nat} {l : List Bool} (h : Brs w A cap l) (hb : Below w.heap.size w w') : Brs w' A cap l :=
  ⟨h.cap1, h.cap2, fun i hi => by
    obtain ⟨b, o, e, hc⟩ := h.cell i hi
    exact ⟨b, o, e, (hb.cell (p := ⟨b, o + i, none⟩) (World.block_lt_of_cell? w _ hc)).trans hc⟩⟩
theorem Brs.nil (w : World) (A : Option Addr) (cap : Nat) (h : cap ≤ 9223372036854775807) : Brs w A cap [] := ⟨Nat.zero_le _, h, fun i hi => (by cases hi)⟩
theorem Brs.take {w : World} {A : Option Addr} {cap : Nat} {l : List Bool} (h : Brs w A cap l) (n : Nat) : Brs w A cap (l.take n) :=
  ⟨by rw [List.length_take]; exact Nat.le_trans (Nat.min_le_right _ _) h.cap1, h.cap2, fun i hi => by
    rw [List.length_take] at hi
    obtain ⟨b, o, e, hc⟩ := h.cell i (by omega)
    refine ⟨b, o, e, ?_⟩
    rw [hc]
    simp only [List.getD_eq_getElem?_getD, List.getElem?_take]
    rw [if_pos (by omega)]⟩
/-- The table of math/bits, as its initialiser lays it. -/
def Tab (w : World) : Prop := ∀ j, j < 64 → w.cell? ⟨0, j, none⟩ = some (.int .u8 ((Lib.deBruijn64tab.getD j 0 : Nat) : Int))
theorem Tab.below {w w' : World} (h : Tab w) (hb : Below w.heap.size w w') : Tab w' := fun j hj =>
  (hb.cell (p := ⟨0, j, none⟩) (World.block_lt_of_cell? w _ (h j hj))).trans (h j hj)
/-- This program's numbers for the library's contract. -/
def ren29 : Go.Shelf.Ren := ⟨fun | 29 => 35 | n => n, fun | 0 => 0 | 3 => 3 | 4 => 4 | 5 => 5 | 22 => 50 | 25 => 68 | 54 => 71 | n => n, fun | 1 => 0 | n => n⟩
theorem lays29 : Lays7.n29 Tryd.prog ren29 := {
  mixed := by kernel_rfl
  f29 := Tryd.func35.trans (congrArg some (by kernel_rfl))
  t0 := Tryd.underlying0
  a0 := Tryd.isAgg0
  z0 := Tryd.sizeOf0
  v0 := Tryd.zeroValue0
  i0 := by kernel_rfl
  t3 := Tryd.underlying3
  a3 := Tryd.isAgg3
  z3 := Tryd.sizeOf3
  v3 := Tryd.zeroValue3
  i3 := by kernel_rfl
  t4 := Tryd.underlying4
  a4 := Tryd.isAgg4
  z4 := Tryd.sizeOf4
  v4 := Tryd.zeroValue4
  i4 := by kernel_rfl
  t5 := Tryd.underlying5
  a5 := Tryd.isAgg5
  z5 := Tryd.sizeOf5
  v5 := Tryd.zeroValue5
  i5 := by kernel_rfl
  t22 := Tryd.underlying50
  a22 := Tryd.isAgg50
  z22 := Tryd.sizeOf50
  v22 := Tryd.zeroValue50
  i22 := by kernel_rfl
  t25 := Tryd.underlying68
  a25 := Tryd.isAgg68
  z25 := Tryd.sizeOf68
  v25 := Tryd.zeroValue68
  i25 := by kernel_rfl
  t54 := Tryd.underlying71
  a54 := Tryd.isAgg71
  z54 := Tryd.sizeOf71
  g1 := by kernel_rfl }
theorem cTz (x : Nat) (hx : x < 18446744073709551616) (h0 : x ≠ 0) (w : World) (T : Tab w) :
    Calls Tryd.prog 35 #[.int .u64 (x : Int)] w fun e w' => e = .returned (.int .i64 ((Lib.ctz 64 x : Nat) : Int)) ∧ w' = w :=
  Any7.bits_TrailingZeros64 lays29 x hx w (fun _ j hj => T j hj)

/-- The lowest bit of a number. -/
theorem ctz_bits (y : Nat) (hy : y < 18446744073709551616) (h0 : y ≠ 0) : Lib.ctz 64 y < 64 ∧ y.testBit (Lib.ctz 64 y) = true ∧ (∀ k, k < Lib.ctz 64 y → y.testBit k = false) ∧ ∀ k, (y &&& (y - 1)).testBit k = (y.testBit k && decide (k ≠ Lib.ctz 64 y)) := by
  obtain ⟨m, e, hc⟩ := Lib.ctzFrom_spec 64 y (by omega) hy
  have ec : Lib.ctz 64 y = Lib.ctzFrom 64 y := by unfold Lib.ctz; rw [if_neg h0]
  rw [← ec] at e hc
  generalize Lib.ctz 64 y = c at e hc ⊢
  have low : ∀ k, k < c → y.testBit k = false := fun k hk => by rw [e, Nat.testBit_two_pow_mul, show decide (k ≥ c) = false from by simp; omega]; rfl
  refine ⟨hc, by rw [e, Nat.testBit_two_pow_mul]; simp [Nat.testBit_zero], low, fun k => ?_⟩
  rw [Nat.testBit_and]
  by_cases hk : k < c
  · rw [low k hk]; simp
  · have e1 : y - 1 = 2 ^ c * (2 * m) + (2 ^ c - 1) := by
      have := Nat.two_pow_pos c
      rw [e, Nat.mul_add, Nat.mul_one]; omega
    have e2 := Nat.testBit_two_pow_mul_add (2 * m) (b := 2 ^ c - 1) (i := c) (by have := Nat.two_pow_pos c; omega) k
    rw [if_neg hk] at e2
    rw [e1, e2, e, Nat.testBit_two_pow_mul, show decide (k ≥ c) = true from by simp; omega, Bool.true_and]
    by_cases hc : k = c
    · subst hc; simp [Nat.testBit_zero]
    · obtain ⟨j, hj⟩ : ∃ j, k - c = j + 1 := ⟨k - c - 1, by omega⟩
      rw [hj, Nat.testBit_succ, Nat.testBit_succ, show (2 * m + 1) / 2 = m from by omega, show 2 * m / 2 = m from by omega, show decide (k ≠ c) = true from by simp; exact hc]
      simp
/-- What is left of a word: its bits from t on. -/
def Left (x y t : Nat) : Prop := ∀ k, y.testBit k = (decide (t ≤ k) && x.testBit k)
theorem Left.start (x : Nat) : Left x x 0 := fun k => by simp
theorem odN_skip (s : Nat → Bool) (p i : Nat) {m n : Nat} (h : m ≤ n) (z : ∀ k, m ≤ k → k < n → p.testBit k = false) : odN s p i n = odN s p i m := by
  induction n with
  | zero => obtain rfl : m = 0 := by omega
            rfl
  | succ n ih =>
    by_cases e : m = n + 1
    · rw [e]
    · rw [odN, ih (by omega) (fun k a b => z k a (by omega)), z n (by omega) (by omega)]; simp
/-- One bit of what is left of word i is taken. -/
theorem left_step {s : Nat → Bool} {N p i x y t : Nat} (hx : ∀ k, k < 64 → N.testBit (64 * i + k) = x.testBit k) (hy : y < 18446744073709551616) (h0 : y ≠ 0) (ht : t ≤ 64) (L : Left x y t) :
    t ≤ Lib.ctz 64 y ∧ Lib.ctz 64 y < 64 ∧ 64 * i + Lib.ctz 64 y < len N ∧ Left x (y &&& (y - 1)) (Lib.ctz 64 y + 1) ∧ odN s N p (64 * i + (Lib.ctz 64 y + 1)) = (odN s N p (64 * i + t) ^^ s (p + (64 * i + Lib.ctz 64 y))) := by
  obtain ⟨c64, cb, cl, ca⟩ := ctz_bits y hy h0
  generalize Lib.ctz 64 y = c at c64 cb cl ca ⊢
  have h1 := L c
  rw [cb] at h1
  have tc : t ≤ c := by
    refine Decidable.byContradiction fun h => ?_
    rw [show decide (t ≤ c) = false from by simp; omega] at h1
    simp at h1
  have xc : x.testBit c = true := by
    rw [show decide (t ≤ c) = true from by simp; omega] at h1
    simpa using h1.symm
  have Nc : N.testBit (64 * i + c) = true := by rw [hx c c64]; exact xc
  refine ⟨tc, c64, ?_, fun k => ?_, ?_⟩
  · refine Decidable.byContradiction fun h => ?_
    rw [len_bit_out (by omega)] at Nc; cases Nc
  · rw [ca k, L k]
    by_cases e1 : k < c
    · have z := cl k e1
      rw [L k] at z
      rw [z, show decide (c + 1 ≤ k) = false from by simp; omega]; rfl
    · by_cases e2 : k = c
      · subst e2; rw [show decide (k ≠ k) = false from by simp, show decide (k + 1 ≤ k) = false from by simp]; simp
      · rw [show decide (k ≠ c) = true from by simp; exact e2, show decide (c + 1 ≤ k) = true from by simp; omega, show decide (t ≤ k) = true from by simp; omega]; simp
  · rw [← Nat.add_assoc, odN, Nc, Bool.true_and, odN_skip s N p (m := 64 * i + t) (n := 64 * i + c) (by omega) (fun k a b => ?_)]
    obtain ⟨j, rfl⟩ : ∃ j, k = 64 * i + j := ⟨k - 64 * i, by omega⟩
    have z := cl j (by omega)
    rw [L j, show decide (t ≤ j) = true from by simp; omega, Bool.true_and] at z
    rw [hx j (by omega)]; exact z
theorem left_end {s : Nat → Bool} {N p i x t : Nat} (hx : ∀ k, k < 64 → N.testBit (64 * i + k) = x.testBit k) (ht : t ≤ 64) (L : Left x 0 t) : odN s N p (64 * (i + 1)) = odN s N p (64 * i + t) := by
  refine odN_skip s N p (by omega) (fun k a b => ?_)
  obtain ⟨j, rfl⟩ : ∃ j, k = 64 * i + j := ⟨k - 64 * i, by omega⟩
  have z := L j
  rw [Nat.zero_testBit, show decide (t ≤ j) = true from by simp; omega, Bool.true_and] at z
  rw [hx j (by omega)]; exact z.symm
theorem and_lt {y : Nat} (hy : y < 18446744073709551616) : y &&& (y - 1) < 18446744073709551616 := Nat.lt_of_le_of_lt Nat.and_le_left hy
theorem bne_xor (a b : Bool) : (a != b) = (a ^^ b) := by cases a <;> cases b <;> rfl

/-- The row as a function of the place. -/
def rw_ (l : List Bool) (i : Nat) : Bool := l.getD i false
set_option maxRecDepth 100000 in
set_option maxHeartbeats 4000000 in
theorem oddWalk (bK bP bL K N place M ca cl L0 : Nat) (A Al : Option Addr) (xs : List Nat) (l : List Bool) (r : Bool) (hL : Hid (xs.length = L0)) (hN : Hid (leN xs = N)) (hl : Hid (l.length = M)) (hK : Hid (len N ≤ 64 * K)) (hKL : K ≤ L0) (b1 : L0 ≤ 50000) (b2 : M ≤ 4611686018427387904) (hp : Hid (place + len N ≤ M))
    (hr : Hid (od (rw_ l) N place = r)) (w : World) (T : Hid (Tab w)) (BK : Hid (Box w bK 3 (.int .i64 (K : Int)))) (BP : Hid (Box w bP 23 (.slice A L0 ca))) (BL : Hid (Box w bL 24 (.slice Al M cl))) (P : Hid (Pol w A ca xs)) (R : Hid (Brs w Al cl l)) :
    Calls Tryd.prog 34 #[.int .i64 (place : Int), .pointer (some ⟨bK, 0, none⟩), .pointer (some ⟨bP, 0, none⟩), .pointer (some ⟨bL, 0, none⟩)] w (fun e w' => e = .returned (.bool r) ∧ ∃ n, w' = w.drewN n) := by
  have k1 := BK.out.cell
  have p1 := BP.out.cell
  have l1 := BL.out.cell
  have mp : place ≤ 4611686018427387904 := by have := hp.out; omega
  go_enter Tryd.func34, Tryd.ntmps34
  go_wp2_with fail
  go_loopg [6, 10] K (fun g v i wr => ∃ k q : Nat, k + g = K ∧ i = .int .i64 k ∧ v = .bool (odN (rw_ l) N place (64 * k)) ∧ wr = w.drewN q)
  case atStart => exact ⟨0, 0, by omega, rfl, rfl, rfl⟩
  case round =>
    obtain ⟨k, q, hk, rfl, rfl, rfl⟩ := hrel
    by_cases hlt : k < K
    · have kl : (k : Int) < (K : Int) := by omega
      have k0 : (0 : Int) ≤ (k : Int) := by omega
      have kL : (k : Int) < (L0 : Int) := by omega
      have p2 : (w.drewN q).cell? ⟨bP, 0, none⟩ = some (.slice A L0 ca) := p1
      obtain ⟨b, o, rfl, hc⟩ := P.out.cell k (by rw [hL.out]; omega)
      have hc2 : (w.drewN q).cell? ⟨b, o + k, none⟩ = some (.int .u64 ((xs.getD k 0 : Nat) : Int)) := hc
      have hx := P.out.word.get k
      have HX := Lib.hid (show ∀ j, j < 64 → N.testBit (64 * k + j) = (xs.getD k 0).testBit j from fun j hj => by
        rw [← hN.out, bit_leN xs _ P.out.word, show (64 * k + j) / 64 = k from by omega, show (64 * k + j) % 64 = j from by omega])
      generalize xs.getD k 0 = x at hc hc2 hx HX
      generalize hv0 : odN (rw_ l) N place (64 * k) = v0
      have HV := Lib.hid hv0
      clear hv0
      have hpM := hp.out
      have hlL := hl.out
      go_wp2_with fail
      obtain ⟨go, rfl⟩ : ∃ go, go = gk := ⟨_, rfl⟩
      obtain ⟨qo, rfl⟩ : ∃ qo, qo = q := ⟨_, rfl⟩
      clear hc hc2
      go_loopg [6, 8] 64 (fun g v y' wr => ∃ t y q : Nat, t + g = 64 ∧ v = .bool (odN (rw_ l) N place (64 * k + t)) ∧ y' = .int .u64 y ∧ y < 18446744073709551616 ∧ Hid (Left x y t) ∧ wr = w.drewN q)
      case atStart => exact ⟨0, x, qo, by omega, by rw [Nat.add_zero, HV.out], rfl, hx, Lib.hid (Left.start x), rfl⟩
      case round =>
        obtain ⟨t, y, q, ht, rfl, rfl, hy, HL, rfl⟩ := hrel
        by_cases h0 : y = 0
        · subst h0
          have e := left_end (s := rw_ l) (p := place) HX.out (by omega) HL.out
          rw [← e]
          generalize hv1 : odN (rw_ l) N place (64 * (k + 1)) = v1
          have HV1 := Lib.hid hv1
          clear hv1 e
          go_wp2_with fail
          go_roundg (go - 1)
          case measure => omega
          case rel => exact ⟨k + 1, q, by omega, by go_num, by rw [HV1.out], rfl⟩
        · obtain ⟨e1, e2, e3, e4, e5⟩ := left_step (s := rw_ l) (p := place) HX.out hy h0 (by omega) HL.out
          have TZ := Lib.hid (fun n => cTz y hy h0 ((w.drewN q).drewN n) T.out)
          obtain ⟨c, hc⟩ : ∃ c, c = Lib.ctz 64 y := ⟨_, rfl⟩
          rw [← hc] at e1 e2 e3 e4 e5 TZ
          obtain ⟨a, ha⟩ : ∃ a, a = 64 * k := ⟨_, rfl⟩
          rw [← ha] at e3 e5
          obtain ⟨d, hd⟩ : ∃ d, d = place + a := ⟨_, rfl⟩
          obtain ⟨j, hj⟩ : ∃ j, j = place + (a + c) := ⟨_, rfl⟩
          have r0 : (k : Int) * 64 = (a : Int) := by omega
          have ba : a ≤ 4611686018427387904 ∧ d ≤ 4611686018427387904 ∧ j ≤ 4611686018427387904 := by omega
          have r1 : (place : Int) + (a : Int) = (d : Int) := by omega
          have r2 : (d : Int) + (c : Int) = (j : Int) := by omega
          have r3 : (j : Int) < (M : Int) := by omega
          have r4 : (0 : Int) ≤ (j : Int) := by omega
          obtain ⟨bb, ob, rfl, q1⟩ := R.out.cell j (by omega)
          have hy0 : ((y : Int) == 0) = false := by
            have : (y : Int) ≠ 0 := by omega
            simpa using this
          have hyn : (y == 0) = false := by simpa using h0
          have hyi : ((y : Int) != 0) = true := by
            have : (y : Int) ≠ 0 := by omega
            simpa using this
          have hyb : (y != 0) = true := by simpa using h0
          have s1 : (y : Int) - 1 = ((y - 1 : Nat) : Int) := by omega
          have s2 := bits_and_u64_nat y (y - 1) hy (by omega)
          have hz := and_lt hy
          obtain ⟨y1, hy1⟩ : ∃ y1, y1 = y - 1 := ⟨_, rfl⟩
          rw [← hy1] at s1 s2 hz e4
          obtain ⟨z, hzz⟩ : ∃ z, z = y &&& y1 := ⟨_, rfl⟩
          rw [← hzz] at s2 hz e4
          have s3 : y1 < 18446744073709551616 := by omega
          rw [← hj, show (rw_ l j) = l.getD j false from rfl, ← bne_xor] at e5
          rw [ha] at e5
          generalize l.getD j false = u at q1 e5
          generalize odN (rw_ l) N place (64 * k + t) = v1 at e5 ⊢
          have E5 := Lib.hid (show odN (rw_ l) N place (64 * k + (c + 1)) = (!(v1 == u)) from by rw [e5]; cases v1 <;> cases u <;> rfl)
          have E4 := Lib.hid e4
          have HJ := Lib.hid (show c + 1 ≤ 64 ∧ t ≤ c from ⟨by omega, by omega⟩)
          clear e5 e4 hy1 hzz hd hj hc e1 e2 e3
          clear hx ha
          have l2 : (w.drewN q).cell? ⟨bL, 0, none⟩ = some (.slice (some ⟨bb, ob, none⟩) M cl) := l1
          have q2 : (w.drewN q).cell? ⟨bb, ob + j, none⟩ = some (.bool u) := q1
          generalize hw1 : w.drewN q = w1 at l2 q2 TZ ⊢
          have HW := Lib.hid hw1
          clear hw1
          go_wp2_with fail
          go_quiet ((go_at_call 35; (with_reducible exact Calls.quiet_of_same ((TZ.out _).mono fun _ _ ⟨a, b⟩ => ⟨a, b⟩))))
          go_wp2_with fail
          go_roundg (64 - (c + 1))
          case measure => have := HJ.out; omega
          case rel => exact ⟨c + 1, z, q + nq, by have := HJ.out; omega, by rw [E5.out], rfl, hz, E4, by rw [← HW.out, World.drewN_drewN]⟩
    · obtain rfl : k = K := by omega
      have kl : ¬ ((k : Int) < (k : Int)) := by omega
      have e : odN (rw_ l) N place (64 * k) = r := by rw [← hr.out]; exact odN_more _ _ _ _ hK.out
      rw [e]
      go_wp2_with fail
      go_ret
      exact ⟨rfl, q, rfl⟩
end Go.Proofs.YtfpbfibnkknhdaaDoor
