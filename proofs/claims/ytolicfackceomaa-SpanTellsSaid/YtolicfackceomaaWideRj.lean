/-
  Plain facts on what goes to the left and to the right, on the low bits, and on how many bits a number has.
-/
import Derived.Test.YtolicfackceomaaWideN
import Derived.Test.YtolicfackceomaaWideA
import Derived.Deep.AppendLies
import Derived.Deep.RegionHeld3
import Derived.Test.YtolicfackceomaaWideD
import Derived.BigQuiet
namespace Go.Proofs.Ytolicfackceomaa.Wd
set_option linter.unusedVariables false

theorem p2 (k : Nat) : (0 : Int) < 2 ^ k := Int.pow_pos (by decide)
theorem md_md (a b : Int) : md (a * md b) = md (a * b) := by
  unfold md; rw [Int.mul_emod, Int.emod_emod, ← Int.mul_emod]
theorem md_md' (a b : Int) : md (md a * b) = md (a * b) := by
  unfold md; rw [Int.mul_emod, Int.emod_emod, ← Int.mul_emod]
theorem e_mul (A : Int) (n : Int) : md (A * md (1 * 2 ^ n.toNat)) = md (A * 2 ^ n.toNat) := by rw [md_md, Int.one_mul]
theorem e_left (A n m : Int) (hn : 0 ≤ n) (hm : 0 ≤ m) : md (md (A * 2 ^ n.toNat) * 2 ^ m.toNat) = md (A * 2 ^ (n + m).toNat) := by
  rw [md_md', Int.mul_assoc, ← Int.pow_add, show n.toNat + m.toNat = (n + m).toNat from by omega]
theorem e_right (A n m : Int) (hn : 0 ≤ n) (hm : 0 ≤ m) : A / 2 ^ n.toNat / 2 ^ m.toNat = A / 2 ^ (n + m).toNat := by
  rw [Int.ediv_ediv_of_nonneg (Int.le_of_lt (p2 _)), ← Int.pow_add, show n.toNat + m.toNat = (n + m).toNat from by omega]
theorem e_bit (A n m : Int) (hn : 0 ≤ n) (hm : 0 ≤ m) : bitOf (A / 2 ^ n.toNat) m = bitOf A (n + m) := by
  unfold bitOf; rw [if_neg (by omega), if_neg (by omega), e_right A n m hn hm]
theorem e_low (A n : Int) (h : Rng A) : md (A - md (A / 2 ^ n.toNat * 2 ^ n.toNat)) = A % 2 ^ n.toNat := by
  obtain ⟨h0, h1⟩ := h
  have hp := p2 n.toNat
  have e := Int.emod_add_mul_ediv A (2 ^ n.toNat)
  have r0 := Int.emod_nonneg A (Int.ne_of_gt hp)
  have q0 : 0 ≤ A / 2 ^ n.toNat := Int.ediv_nonneg h0 (Int.le_of_lt hp)
  have k0 : 0 ≤ 2 ^ n.toNat * (A / 2 ^ n.toNat) := Int.mul_nonneg (Int.le_of_lt hp) q0
  rw [Int.mul_comm (A / 2 ^ n.toNat)]
  generalize 2 ^ n.toNat * (A / 2 ^ n.toNat) = x at *
  generalize A % 2 ^ n.toNat = r at *
  unfold md
  omega
theorem pow128 (k : Nat) (h : 128 ≤ k) : (340282366920938463463374607431768211456 : Int) ≤ 2 ^ k := by
  obtain ⟨d, rfl⟩ := Nat.exists_eq_add_of_le h
  rw [Int.pow_add]
  have h2 := p2 d
  have : (2 : Int) ^ 128 * 1 ≤ 2 ^ 128 * 2 ^ d := Int.mul_le_mul_of_nonneg_left (by omega) (by decide)
  have e : (2 : Int) ^ 128 = 340282366920938463463374607431768211456 := by decide +kernel
  rw [e] at this ⊢
  omega
theorem pow127 (k : Nat) (h : k < 128) : (2 : Int) ^ k < 340282366920938463463374607431768211456 := by
  have : (2 : Nat) ^ k < 2 ^ 128 := Nat.pow_lt_pow_right (by omega) h
  have e : ((2 ^ k : Nat) : Int) = (2 : Int) ^ k := by rw [Int.natCast_pow]; rfl
  have e2 : (2 : Nat) ^ 128 = 340282366920938463463374607431768211456 := by decide +kernel
  omega
theorem e_low_far (A n : Int) (h : Rng A) (hn : 128 ≤ n) : A % 2 ^ n.toNat = A :=
  Int.emod_eq_of_lt h.1 (Int.lt_of_lt_of_le h.2 (pow128 _ (by omega)))
theorem e_cmp (A n : Int) (h0 : 0 ≤ n) (hn : n < 128) : cmpOf (A % 2 ^ n.toNat) (md (1 * 2 ^ n.toNat)) = -1 := by
  have hp := p2 n.toNat
  have hl := pow127 n.toNat (by omega)
  rw [Int.one_mul, md_of _ ⟨Int.le_of_lt hp, hl⟩]
  have := Int.emod_lt_of_pos A hp
  unfold cmpOf
  rw [if_neg (by omega), if_pos this]
theorem rng_low (A n : Int) (h : Rng A) : Rng (A % 2 ^ n.toNat) := by rw [← e_low A n h]; exact rng_md _

theorem len_nat (x : Nat) (h : x < 18446744073709551616) (h0 : x ≠ 0) : (x : Int) < 2 ^ Lib.bitLen x ∧ (2 : Int) ^ Lib.bitLen x ≤ 2 * x ∧ 1 ≤ Lib.bitLen x ∧ Lib.bitLen x ≤ 64 := by
  obtain ⟨a, b, _, d⟩ := bitLen_bd x h
  have e : ((2 ^ Lib.bitLen x : Nat) : Int) = (2 : Int) ^ Lib.bitLen x := by rw [Int.natCast_pow]; rfl
  have b' := b h0
  exact ⟨by omega, by omega, d h0, bitLen_le x⟩
theorem len_spec (A : Int) (h : Rng A) (h0 : A ≠ 0) : 1 ≤ lenN A ∧ lenN A ≤ 128 ∧ A < 2 ^ (lenN A).toNat ∧ 2 ^ (lenN A).toNat ≤ 2 * A := by
  have hh0 := hi0 h
  have hh1 := hi1 h
  have hl0 := lo0 A
  have hl1 := lo1 A
  have e := hilo A
  unfold lenN lenOf
  by_cases q : hi A = 0
  · rw [if_pos q]
    obtain ⟨x, hx⟩ := Int.eq_ofNat_of_zero_le hl0
    obtain ⟨a, b, c, d⟩ := len_nat x (by omega) (by omega)
    rw [hx, Int.toNat_natCast, Int.toNat_natCast]
    refine ⟨by omega, by omega, ?_, ?_⟩ <;> omega
  · rw [if_neg q]
    obtain ⟨x, hx⟩ := Int.eq_ofNat_of_zero_le hh0
    obtain ⟨a, b, c, d⟩ := len_nat x (by omega) (by omega)
    rw [hx, Int.toNat_natCast, show ((64 : Int) + (Lib.bitLen x : Int)).toNat = 64 + Lib.bitLen x from by omega, Int.pow_add, show (2 : Int) ^ 64 = 18446744073709551616 from by decide +kernel]
    refine ⟨by omega, by omega, ?_, ?_⟩ <;> omega
theorem len_bit (A : Int) (h : Rng A) (h0 : A ≠ 0) : bitOf A (lenN A - 1) = 1 := by
  obtain ⟨a, b, c, d⟩ := len_spec A h h0
  obtain ⟨k, hk⟩ : ∃ k : Nat, (lenN A).toNat = k + 1 := ⟨(lenN A).toNat - 1, by omega⟩
  rw [hk, Int.pow_succ] at c d
  unfold bitOf
  rw [if_neg (by omega), show (lenN A - 1).toNat = k from by omega]
  have hp := p2 k
  have e : A / 2 ^ k = 1 := by
    have h1 : 2 ^ k * 1 ≤ A := by omega
    have h2 : A < 2 ^ k * 2 := c
    have g1 : 1 ≤ A / 2 ^ k := (Int.le_ediv_iff_mul_le hp).2 (by omega)
    have g2 : A / 2 ^ k < 2 := (Int.ediv_lt_iff_lt_mul hp).2 (by omega)
    omega
  rw [e]; decide
theorem len_out (A : Int) (h : Rng A) (h0 : A ≠ 0) : A / 2 ^ (lenN A).toNat = 0 := by
  obtain ⟨a, b, c, d⟩ := len_spec A h h0
  exact Int.ediv_eq_zero_of_lt h.1 c
theorem len_zero : lenN 0 = 0 := by decide +kernel

theorem nRightAs (n k r : Int) (hn : Rng n) (e : n / 2 ^ k.toNat = r) (w : World) :
    Calls Try.prog 34 #[.agg #[.int .u64 (hi n), .int .u64 (lo n)], .int .i64 k] w (N1 r w) := by subst e; exact nRight n k hn w
theorem nSubAs (n m r : Int) (hn : Rng n) (hm : Rng m) (e : md (n - m) = r) (w : World) :
    Calls Try.prog 29 #[.agg #[.int .u64 (hi n), .int .u64 (lo n)], .agg #[.int .u64 (hi m), .int .u64 (lo m)]] w (N2 r (decide (n < m)) w) := by subst e; exact nSub n m hn hm w
theorem nCmpAs (n m r : Int) (hn : Rng n) (hm : Rng m) (e : cmpOf n m = r) (w : World) :
    Calls Try.prog 30 #[.agg #[.int .u64 (hi n), .int .u64 (lo n)], .agg #[.int .u64 (hi m), .int .u64 (lo m)]] w (NI r w) := by subst e; exact nCmp n m hn hm w
theorem r1 : Rng 1 := ⟨by decide, by decide⟩
theorem h00 : hi 0 = 0 := by decide
theorem l00 : lo 0 = 0 := by decide
end Go.Proofs.Ytolicfackceomaa.Wd
/-
  What Bits of the reference of layer 1 answers: the 64 bits of a word, the lowest one first.
-/
namespace Go.Proofs.Ytolicfackceomaa.Wd
open Go.RowKit
set_option linter.unusedVariables false

/-- So many bits of a number, the lowest one first. -/
def bitsK : Nat → Int → List Int
  | 0, _ => []
  | k + 1, v => bitsK k v ++ [v / 2 ^ k % 2]
theorem bitsK_length : ∀ (k : Nat) (v : Int), (bitsK k v).length = k
  | 0, _ => rfl
  | k + 1, v => by simp [bitsK, bitsK_length k v]
theorem infoInt : (Try.prog.info? 3).map (fun i => (i.zero, i.size, i.bytes)) = some (some (.int .i64 0), 1, 8) := by kernel_rfl

/-- An answer that is a new list of ints. -/
def Row (xs : List Int) (w : World) (e : Ending) (w' : World) : Prop :=
  ∃ v, e = .returned v ∧ w'.ownsRow w.heap.size 3 1 v xs.length (xs.map (Value.int .i64)) ∧ Below w.heap.size w w'

theorem new1 (wr : World) (x : Value) (t : TypeId) : ∀ (j : Nat) (u : Value), [x][j]? = some u → (wr.alloc (.cells #[x] t)).cell? ((⟨wr.heap.size, 0, none⟩ : Addr).add j) = some u := by
  intro j u h
  cases j with
  | zero => simp at h; subst h; simp [Addr.add]
  | succ j => simp at h
structure BitsInv (w : World) (n : Int) (k : Nat) (v : Value) (wr : World) : Prop where
  own : wr.ownsRow w.heap.size 3 1 v (bitsK k n).length ((bitsK k n).map (Value.int .i64))
  below : Below w.heap.size w wr

theorem bits_start (w : World) (n : Int) : BitsInv w n 0 (.slice (some ⟨w.heap.size, 0, none⟩) 0 0) (w.alloc (.cells #[] 3)) :=
  ⟨World.ownsRow_made w #[] 0 (Nat.le_refl _) (by decide) rfl, below_alloc (Below.refl _ _) _⟩
theorem bits_step {w : World} {n : Int} {k : Nat} {v v' : Value} {wr w1 : World} {o : Obj} (inv : BitsInv w n k v wr)
    (hown' : w1.ownsRow w.heap.size 3 1 v' ((bitsK k n).length + 1) ((bitsK k n).map (Value.int .i64) ++ [.int .i64 (n / 2 ^ k % 2)])) (hgrow : (wr.alloc o).grownBy w1 v.ownBlock) : BitsInv w n (k + 1) v' w1 := by
  refine ⟨?_, (below_alloc inv.below o).grown hgrow (by have := inv.below.size; simp; omega) (fun j hj => (inv.own.lt j hj).1)⟩
  simpa [bitsK] using hown'

set_option maxRecDepth 100000 in
set_option maxHeartbeats 1000000 in
theorem rBits (n : Int) (n0 : 0 ≤ n) (n1 : n < 18446744073709551616) (w : World) :
    Calls Try.prog 59 #[.int .u64 n] w (Row (bitsK 64 n) w) := by
  obtain ⟨i0, hi, hz0, hz1, hz2⟩ := info_parts infoInt
  have HI := Lib.hid hi
  have HZ0 := Lib.hid hz0
  have HZ1 := Lib.hid hz1
  have HZ2 := Lib.hid hz2
  clear hi hz0 hz1 hz2
  go_enter Try.func59, Try.ntmps59
  go_wp2
  go_loopw [3, 0, 4] (fun v u i wr => ∃ (k : Nat) (m : Int), k ≤ 64 ∧ i = .int .i64 k ∧ u = .int .u64 m ∧ m = n / 2 ^ k ∧ 0 ≤ m ∧ m < 18446744073709551616 ∧ BitsInv w n k v wr) (fun _ _ i _ => 64 - (intOf i).toNat)
  case atStart => exact ⟨0, n, by omega, rfl, rfl, by simp, n0, n1, bits_start w n⟩
  case round =>
    obtain ⟨k, m, hk, rfl, rfl, hm, m0, m1, inv⟩ := hrel
    have HM := Lib.hid hm
    clear hm
    have INV := Lib.hid inv
    have hown := inv.own
    have hsz := inv.below.size
    clear inv
    have HL := Lib.hid (bitsK_length k n)
    by_cases hlt : k < 64
    · have hlt' : (k : Int) < 64 := by omega
      have OWN := Lib.hid hown
      clear hown
      go_wp2_with (at_builtin; refine wpList_append_own _ rfl _ _ 80 rfl w.heap.size 3 i0 (.int .i64 0) 1 8 Try.underlying80 HI.out HZ0.out HZ1.out HZ2.out rfl (by decide) _ _ _ rfl (OWN.out.alloc _) ⟨wr.heap.size, 0, none⟩ 1 1 [.int .i64 (m % 2)] rfl rfl ?c1 ?c2 ?c3 ?c4 ?c5 ?_)
      case c1 => exact new1 wr _ _
      case c2 => simp [Value.oneCell']
      case c3 => rw [HL.out]; unfold maxLen; omega
      case c4 => rw [HL.out]; omega
      case c5 => simp; omega
      intro v' w1 hown' hgrow _
      have INV' := Lib.hid (bits_step INV.out (by rw [← HM.out]; exact hown') hgrow)
      clear hown' hgrow OWN
      go_wp2
      go_roundw
      case rel =>
        refine ⟨k + 1, m / 2, by omega, by go_num, rfl, ?_, by omega, by omega, INV'.out⟩
        rw [HM.out, Int.pow_succ, Int.ediv_ediv_of_nonneg (Int.le_of_lt (Int.pow_pos (by decide)))]
      case measure => simp [intOf]; omega
    · obtain rfl : k = 64 := by omega
      go_wp2
      go_ret
      exact ⟨_, rfl, INV.out.own, INV.out.below⟩
end Go.Proofs.Ytolicfackceomaa.Wd
/-
  What Word and Of of the reference of layer 1 answer: the numbers of bits.
-/
namespace Go.Proofs.Ytolicfackceomaa.Wd
open Go.RowKit
set_option linter.unusedVariables false

/-- The number of bits, the lowest one first. -/
def leB : List Int → Int
  | [] => 0
  | x :: xs => x + 2 * leB xs
/-- All are 0 or 1. -/
def AreBits (xs : List Int) : Prop := ∀ x ∈ xs, 0 ≤ x ∧ x ≤ 1
theorem AreBits.drop {xs : List Int} (h : AreBits xs) (k : Nat) : AreBits (xs.drop k) := fun x hx => h x (List.mem_of_mem_drop hx)
theorem AreBits.take {xs : List Int} (h : AreBits xs) (k : Nat) : AreBits (xs.take k) := fun x hx => h x (List.mem_of_mem_take hx)
theorem leB_bd : ∀ (xs : List Int), AreBits xs → 0 ≤ leB xs ∧ leB xs < 2 ^ xs.length
  | [], _ => by simp [leB]
  | x :: xs, h => by
    have h1 := h x (by simp)
    have h2 := leB_bd xs (fun y hy => h y (by simp [hy]))
    simp only [leB, List.length_cons, Int.pow_succ]
    omega
/-- A list of ints in memory. -/
def Ints (w : World) (b off : Nat) (xs : List Int) : Prop := ∀ i, i < xs.length → w.cell? ⟨b, off + i, none⟩ = some (.int .i64 (xs.getD i 0))

theorem drop_step (ys : List Int) (t : Nat) (ht : t < 64) (hl : ys.length ≤ 64) : leB (ys.drop (63 - t)) = (if 63 - t < ys.length then ys.getD (63 - t) 0 else 0) + 2 * leB (ys.drop (64 - t)) := by
  by_cases h : 63 - t < ys.length
  · rw [if_pos h, List.drop_eq_getElem_cons h, show 63 - t + 1 = 64 - t from by omega]
    simp [leB, List.getElem?_eq_getElem h]
  · rw [if_neg h, List.drop_eq_nil_of_le (by omega), List.drop_eq_nil_of_le (by omega)]
    rfl
theorem acc_bd (ys : List Int) (hb : AreBits ys) (t : Nat) (ht : t < 64) (hl : ys.length ≤ 64) : 0 ≤ leB (ys.drop (64 - t)) ∧ leB (ys.drop (64 - t)) ≤ 9223372036854775807 := by
  obtain ⟨h1, h2⟩ := leB_bd _ (hb.drop (64 - t))
  have h3 : (ys.drop (64 - t)).length ≤ t := by simp; omega
  have h4 : (2 : Nat) ^ (ys.drop (64 - t)).length ≤ 2 ^ 63 := Nat.pow_le_pow_right (by omega) (by omega)
  have e : ((2 ^ (ys.drop (64 - t)).length : Nat) : Int) = (2 : Int) ^ (ys.drop (64 - t)).length := by rw [Int.natCast_pow]; rfl
  have e2 : (2 : Nat) ^ 63 = 9223372036854775808 := by decide +kernel
  omega

set_option maxRecDepth 100000 in
set_option maxHeartbeats 1000000 in
theorem rWord (b off cap : Nat) (xs : List Int) (hb : AreBits xs) (frm : Nat) (hf : frm ≤ 64) (hn : xs.length ≤ 1000) (w : World) (hc : Ints w b off xs) :
    Calls Try.prog 58 #[.slice (some ⟨b, off, none⟩) xs.length cap, .int .i64 frm] w (fun e w' => e = .returned (.int .u64 (leB ((xs.drop frm).take 64))) ∧ w = w') := by
  obtain ⟨ys, hys⟩ : ∃ ys, ys = (xs.drop frm).take 64 := ⟨_, rfl⟩
  have yl : ys.length ≤ 64 := by rw [hys]; simp; omega
  have yb : AreBits ys := by rw [hys]; exact (hb.drop _).take _
  have yn : ∀ i, i < 64 → (i < ys.length ↔ frm + i < xs.length) := by intro i hi; rw [hys]; simp; omega
  have yg : ∀ i, i < ys.length → ys.getD i 0 = xs.getD (frm + i) 0 := by
    intro i hi
    rw [hys] at hi ⊢
    simp only [List.length_take, List.length_drop] at hi
    simp [show i < 64 from by omega]
  rw [← hys]
  have YN := Lib.hid yn
  have YG := Lib.hid yg
  have HY := Lib.hid hys
  have HC := Lib.hid hc
  have YB := Lib.hid yb
  clear yn yg hys hc yb hb
  go_enter Try.func58, Try.ntmps58
  go_wp2
  go_loop [5, 6] (fun u i => ∃ (t : Nat) (m : Int), t ≤ 64 ∧ i = .int .i64 (63 - (t : Int)) ∧ u = .int .u64 m ∧ m = leB (ys.drop (64 - t))) (fun _ i => (1 + intOf i).toNat)
  case atStart => exact ⟨0, 0, by omega, rfl, rfl, by rw [List.drop_eq_nil_of_le (by omega)]; rfl⟩
  case round =>
    obtain ⟨t, m, ht, rfl, rfl, hm⟩ := hrel
    by_cases hlt : t < 64
    · obtain ⟨m0, m1⟩ := acc_bd ys YB.out t hlt yl
      have st := drop_step ys t hlt yl
      rw [← hm] at m0 m1 st
      have HM := Lib.hid hm
      clear hm
      obtain ⟨j, hj⟩ : ∃ j : Nat, 63 - t = j := ⟨_, rfl⟩
      rw [hj] at st
      have ej : (63 : Int) - (t : Int) = (j : Int) := by omega
      have j63 : j ≤ 63 := by omega
      rw [ej]
      by_cases hin : frm + j < xs.length
      · have hin' : ((frm : Int) + (j : Int)) < (xs.length : Int) := by omega
        have cl : w.cell? ⟨b, off + (frm + j), none⟩ = some (.int .i64 (ys.getD j 0)) := by
          rw [YG.out j ((YN.out j (by omega)).2 hin)]; exact HC.out (frm + j) hin
        have yb := YB.out (ys.getD j 0) (by
          have h := (YN.out j (by omega)).2 hin
          rw [List.getD_eq_getElem?_getD, List.getElem?_eq_getElem h]
          exact List.getElem_mem h)
        rw [if_pos ((YN.out j (by omega)).2 hin)] at st
        generalize ys.getD j 0 = y at cl yb st
        obtain ⟨y0, y1⟩ := yb
        have ST := Lib.hid st
        have EJ := Lib.hid ej
        have HJ := Lib.hid hj
        clear ej hj hin st
        go_wp2
        go_round
        case rel =>
          have ej := EJ.out
          have hj := HJ.out
          refine ⟨t + 1, m * 2 + y, by omega, ?_, by first | rfl | go_num, ?_⟩
          · rw [show (63 : Int) - ((t + 1 : Nat) : Int) = (j : Int) - 1 from by omega]
          · have st := ST.out
            rw [show 64 - (t + 1) = j from by omega, st]
            omega
        case measure => have ej := EJ.out; simp [intOf]; omega
      · have hin' : ¬ ((frm : Int) + (j : Int)) < (xs.length : Int) := by omega
        rw [if_neg (fun q => hin ((YN.out j (by omega)).1 q))] at st
        have ST := Lib.hid st
        have EJ := Lib.hid ej
        have HJ := Lib.hid hj
        clear ej hj hin st
        go_wp2
        go_round
        case rel =>
          have ej := EJ.out
          have hj := HJ.out
          refine ⟨t + 1, m * 2, by omega, ?_, by first | rfl | go_num, ?_⟩
          · rw [show (63 : Int) - ((t + 1 : Nat) : Int) = (j : Int) - 1 from by omega]
          · have st := ST.out
            rw [show 64 - (t + 1) = j from by omega, st]
            omega
        case measure => have ej := EJ.out; simp [intOf]; omega
    · obtain rfl : t = 64 := by omega
      have HM := Lib.hid hm
      clear hm
      go_wp2
      go_ret
      exact ⟨by rw [HM.out]; rfl, rfl⟩
end Go.Proofs.Ytolicfackceomaa.Wd
/-
  What Of of the reference of layer 1 answers: the number of 128 bits.
-/
namespace Go.Proofs.Ytolicfackceomaa.Wd
open Go.RowKit
set_option linter.unusedVariables false

theorem Ints.below {W w' : World} {b off : Nat} {xs : List Int} (h : Ints W b off xs) (hlt : b < W.heap.size) (hb : Below W.heap.size W w') : Ints w' b off xs :=
  fun i hi => (hb.cell (p := ⟨b, off + i, none⟩) hlt).trans (h i hi)

set_option maxRecDepth 100000 in
set_option maxHeartbeats 1000000 in
theorem rOf (b off cap : Nat) (xs : List Int) (hb : AreBits xs) (hn : xs.length ≤ 1000) (w : World) (hlt : b < w.heap.size) (hc : Ints w b off xs) :
    Calls Try.prog 47 #[.slice (some ⟨b, off, none⟩) xs.length cap] w (U1 (fun h l => h = leB ((xs.drop 64).take 64) ∧ l = leB ((xs.drop 0).take 64)) w) := by
  have hc1 := hc.below hlt (below_alloc (Below.refl _ _) (.cells #[.int .u64 0, .int .u64 0] 32))
  have C1 := Lib.hid (rWord b off cap xs hb 64 (by omega) hn _ hc1)
  have C2 := Lib.hid (rWord b off cap xs hb 0 (by omega) hn _ hc1)
  clear hc hc1 hb
  go_enter Try.func47, Try.ntmps47
  go_wp2_with fail
  refine C1.out.mono ?_
  rintro e w' ⟨rfl, rfl⟩
  go_wp2_with fail
  refine C2.out.mono ?_
  rintro e w' ⟨rfl, rfl⟩
  go_wp2
  go_returns
  exact ⟨_, _, ⟨rfl, rfl⟩, rfl, by go_grown⟩
end Go.Proofs.Ytolicfackceomaa.Wd
/-
  What List of the reference of layer 1 answers: the 128 bits of a number, the lowest one first.
-/
namespace Go.Proofs.Ytolicfackceomaa.Wd
open Go.RowKit
set_option linter.unusedVariables false

theorem owns_below {w w' : World} {base : Nat} {e : TypeId} {size : Nat} {v : Value} {n : Nat} {xs : List Value} (h : w.ownsRow base e size v n xs) (hb : Below w.heap.size w w') : w'.ownsRow base e size v n xs := by
  refine ⟨h.1, ?_⟩
  rcases h.2 with hn | ⟨g, cap, cur, rfl, hg, hh, rest⟩
  · exact .inl hn
  · exact .inr ⟨g, cap, cur, rfl, hg, by rw [hb.block g (Array.getElem?_eq_some_iff.1 hh).1]; exact hh, rest⟩

theorem owns_base {w : World} {base base' : Nat} {e : TypeId} {size : Nat} {v : Value} {n : Nat} {xs : List Value} (h : w.ownsRow base e size v n xs) (hb : base' ≤ base) : w.ownsRow base' e size v n xs := by
  refine ⟨h.1, ?_⟩
  rcases h.2 with hn | ⟨g, cap, cur, rfl, hg, rest⟩
  · exact .inl hn
  · exact .inr ⟨g, cap, cur, rfl, by omega, rest⟩
/-- An answer that is a new list of ints: where it lies. -/
def RowAt (xs : List Int) (w : World) (e : Ending) (w' : World) : Prop :=
  ∃ g cap : Nat, e = .returned (.slice (some ⟨g, 0, none⟩) xs.length cap) ∧ w.heap.size ≤ g ∧ g < w'.heap.size ∧ xs.length ≤ cap ∧
    w'.ownsRow w.heap.size 3 1 (.slice (some ⟨g, 0, none⟩) xs.length cap) xs.length (xs.map (Value.int .i64)) ∧ Below w.heap.size w w'
theorem ints_of_owns {w : World} {base g n cap : Nat} {xs : List Int} (h : w.ownsRow base 3 1 (.slice (some ⟨g, 0, none⟩) n cap) n (xs.map (Value.int .i64))) : Ints w g 0 xs := by
  intro i hi
  have := h.cells (g := g) rfl i (.int .i64 (xs.getD i 0)) (by simp [List.getElem?_eq_getElem hi])
  have ea : (⟨g, 0, none⟩ : Addr).add i = ⟨g, 0 + i, none⟩ := by unfold Addr.add; split <;> simp_all
  rw [ea] at this
  exact this
theorem row_at {xs : List Int} {w : World} {e : Ending} {w' : World} (h : Row xs w e w') (h0 : 0 < xs.length) : RowAt xs w e w' := by
  obtain ⟨v, rfl, own, hb⟩ := h
  obtain ⟨hl, h2⟩ := own
  rcases h2 with ⟨_, hn⟩ | ⟨g, cap, cur, rfl, hg, hh, hc, rest⟩
  · omega
  · exact ⟨g, cap, rfl, hg, (Array.getElem?_eq_some_iff.1 hh).1, hc, ⟨hl, .inr ⟨g, cap, cur, rfl, hg, hh, hc, rest⟩⟩, hb⟩
theorem rBitsAt (n : Int) (n0 : 0 ≤ n) (n1 : n < 18446744073709551616) (w : World) :
    Calls Try.prog 59 #[.int .u64 n] w (RowAt (bitsK 64 n) w) :=
  (rBits n n0 n1 w).mono fun _ _ h => row_at h (by rw [bitsK_length]; omega)
theorem rBitsAs (n : Int) (xs : List Int) (hx : bitsK 64 n = xs) (n0 : 0 ≤ n) (n1 : n < 18446744073709551616) (w : World) :
    Calls Try.prog 59 #[.int .u64 n] w (RowAt xs w) := by subst hx; exact rBitsAt n n0 n1 w
theorem one_cells (xs : List Int) : ∀ u ∈ xs.map (Value.int .i64), u.oneCell' = true := by
  intro u hu
  obtain ⟨n, _, rfl⟩ := List.mem_map.1 hu
  rfl
theorem bitsK_bits (k : Nat) (v : Int) : AreBits (bitsK k v) := by
  induction k with
  | zero => intro x hx; simp [bitsK] at hx
  | succ k ih =>
    intro x hx
    simp only [bitsK, List.mem_append, List.mem_singleton] at hx
    rcases hx with hx | rfl
    · exact ih x hx
    · omega

set_option maxRecDepth 100000 in
set_option maxHeartbeats 400000 in
theorem rListAs (ah al : Int) (xl xh : List Int) (el : Hid (bitsK 64 al = xl)) (eh : Hid (bitsK 64 ah = xh)) (ll : Hid (xl.length = 64)) (lh : Hid (xh.length = 64)) (a1 : 0 ≤ ah) (a2 : ah < 18446744073709551616) (a3 : 0 ≤ al) (a4 : al < 18446744073709551616) (w : World) :
    Calls Try.prog 48 #[.agg #[.int .u64 ah, .int .u64 al]] w (RowAt (xl ++ xh) w) := by
  obtain ⟨i0, hi, hz0, hz1, hz2⟩ := info_parts infoInt
  have HI := Lib.hid hi
  have HZ0 := Lib.hid hz0
  have HZ1 := Lib.hid hz1
  have HZ2 := Lib.hid hz2
  clear hi hz0 hz1 hz2
  go_enter Try.func48, Try.ntmps48
  go_wp2_with fail
  have K := Has.fresh w ah al 32
  have hB : Below w.heap.size w (w.alloc (.cells #[.int .u64 ah, .int .u64 al] 32)) := below_alloc (Below.refl _ _) _
  generalize hW0 : World.alloc _ _ = W0 at K hB ⊢
  clear hW0
  have hX : Below W0.heap.size W0 W0 := Below.refl _ _
  obtain ⟨sz, c0, c1⟩ := id K
  go_region_held3 (fun w' => w'.cell? ⟨w.heap.size, 0, none⟩ = some (.int .u64 ah) ∧ w'.cell? ⟨w.heap.size, 1, none⟩ = some (.int .u64 al)) (go_keep)
    (first
      | (go_at_call 59; ((with_reducible refine (rBitsAs al xl el.out a3 a4 _).mono ?_); rintro e x ⟨g, cap, rfl, l1, l2, l3, own, hb⟩; clear sz c0 c1; replace hX := below_then (by first | exact hX | exact hX.drew) hb; obtain ⟨sz, c0, c1⟩ := Has.below K hX; have OWN1 : Hid (x.ownsRow W0.heap.size 3 1 (.slice (some ⟨g, 0, none⟩) xl.length cap) xl.length (xl.map (Value.int .i64))) := Lib.hid own; have ex := hX.size; clear own hb))
      | (go_at_call 59; ((with_reducible refine (rBitsAs ah xh eh.out a1 a2 _).mono ?_); rintro e y ⟨g2, cap2, rfl, m1, m2, m3, own2, hb⟩; clear sz c0 c1; replace hX := below_then (by first | exact hX | exact hX.drew) hb; obtain ⟨sz, c0, c1⟩ := Has.below K hX; replace OWN1 := Lib.hid (owns_below OWN1.out hb); have OWN2 := Lib.hid own2; have ey := hX.size; clear own2 hb))
      | (refine step_append_lies _ (by rfl) _ _ _ (by rfl) W0.heap.size 3 i0 (.int .i64 0) 1 8 Try.underlying80 HI.out HZ0.out HZ1.out HZ2.out rfl (by omega) (.slice (some ⟨g, 0, none⟩) xl.length cap) xl.length (xl.map (Value.int .i64)) (by rfl) OWN1.out ⟨g2, 0, none⟩ xh.length cap2 (xh.map (Value.int .i64)) (by rfl) (by simp) (OWN2.out.cells rfl) (one_cells xh) (by rw [lh.out]; omega) (by rw [ll.out, lh.out]; decide) (by rw [ll.out, lh.out]; omega) ey y.heap.size rfl ?_; intro gg cap' w1 hown1 hgrow hat hlt; clear sz c0 c1; replace hX := hX.grown hgrow ey (fun k hk => (OWN1.out.lt k hk).1); obtain ⟨sz, c0, c1⟩ := Has.below K hX; have OWN3 := Lib.hid hown1; clear hown1 hgrow))
  go_wp2
  go_ret
  have lt := (OWN3.out.lt gg rfl)
  have sw := hB.size
  have e : (xl ++ xh).length = xl.length + xh.length := List.length_append
  refine ⟨gg, cap', ?_, by omega, by omega, ?_, ?_, below_then hB hX⟩
  · rw [e]; rfl
  · rw [e]
    rcases OWN3.out.2 with ⟨q, _⟩ | ⟨g', c', cur, q, _, _, hc, _⟩
    · cases q
    · injection q with _ _ q
      omega
  · rw [e, List.map_append]
    exact owns_base OWN3.out sw
theorem rList (ah al : Int) (a1 : 0 ≤ ah) (a2 : ah < 18446744073709551616) (a3 : 0 ≤ al) (a4 : al < 18446744073709551616) (w : World) :
    Calls Try.prog 48 #[.agg #[.int .u64 ah, .int .u64 al]] w (RowAt (bitsK 64 al ++ bitsK 64 ah) w) :=
  rListAs ah al _ _ (Lib.hid rfl) (Lib.hid rfl) (Lib.hid (bitsK_length 64 al)) (Lib.hid (bitsK_length 64 ah)) a1 a2 a3 a4 w
end Go.Proofs.Ytolicfackceomaa.Wd
/-
  Lists of bits as numbers, and what Of, List and Right of the reference of layer 1 answer, said of numbers.
-/
namespace Go.Proofs.Ytolicfackceomaa.Wd
open Go.RowKit
set_option linter.unusedVariables false

theorem pw2 (k : Nat) : (0 : Int) < 2 ^ k := Int.pow_pos (by decide)
theorem leB_append : ∀ (xs ys : List Int), leB (xs ++ ys) = leB xs + 2 ^ xs.length * leB ys
  | [], ys => by simp [leB]
  | x :: xs, ys => by
    simp only [List.cons_append, leB, List.length_cons, leB_append xs ys, Int.pow_succ]
    rw [Int.mul_add, ← Int.mul_assoc, Int.mul_comm 2 (2 ^ xs.length)]
    omega
theorem leB_bitsK : ∀ (k : Nat) (v : Int), leB (bitsK k v) = v % 2 ^ k
  | 0, v => by simp [bitsK, leB]
  | k + 1, v => by
    have hp := pw2 k
    rw [bitsK, leB_append, leB_bitsK k v, bitsK_length, Int.pow_succ]
    simp only [leB]
    rw [Int.emod_def v (2 ^ k * 2), ← Int.ediv_ediv_of_nonneg (Int.le_of_lt hp), Int.emod_def v (2 ^ k), Int.emod_def (v / 2 ^ k) 2, Int.mul_add, Int.mul_sub, ← Int.mul_assoc (2 ^ k) 2]
    generalize 2 ^ k * (v / 2 ^ k) = x
    generalize 2 ^ k * 2 * (v / 2 ^ k / 2) = y
    omega
theorem leB_split (xs : List Int) (h : AreBits xs) (k : Nat) : leB (xs.take k) = leB xs % 2 ^ k ∧ leB (xs.drop k) = leB xs / 2 ^ k := by
  have hp := pw2 k
  by_cases hk : k ≤ xs.length
  · have e := leB_append (xs.take k) (xs.drop k)
    rw [List.take_append_drop] at e
    obtain ⟨b1, b2⟩ := leB_bd _ (h.take k)
    have el : (xs.take k).length = k := by simp; omega
    rw [el] at e b2
    constructor
    · rw [e, Int.add_mul_emod_self_left, Int.emod_eq_of_lt b1 b2]
    · rw [e, Int.add_mul_ediv_left _ _ (Int.ne_of_gt hp), Int.ediv_eq_zero_of_lt b1 b2, Int.zero_add]
  · rw [List.take_of_length_le (by omega), List.drop_eq_nil_of_le (by omega)]
    obtain ⟨b1, b2⟩ := leB_bd _ h
    have : (2 : Int) ^ xs.length ≤ 2 ^ k := by
      obtain ⟨d, hd⟩ := Nat.exists_eq_add_of_le (show xs.length ≤ k from by omega)
      rw [hd, Int.pow_add]
      have h1 := pw2 xs.length
      have h2 := pw2 d
      have := Int.mul_le_mul_of_nonneg_left (show (1 : Int) ≤ 2 ^ d from by omega) (Int.le_of_lt h1)
      omega
    exact ⟨(Int.emod_eq_of_lt b1 (by omega)).symm, (Int.ediv_eq_zero_of_lt b1 (by omega)).symm⟩
theorem e64 : (2 : Int) ^ 64 = 18446744073709551616 := by decide +kernel

theorem rOfN (b off cap : Nat) (xs : List Int) (hb : AreBits xs) (hn : xs.length ≤ 1000) (w : World) (hlt : b < w.heap.size) (hc : Ints w b off xs) :
    Calls Try.prog 47 #[.slice (some ⟨b, off, none⟩) xs.length cap] w (N1 (md (leB xs)) w) := by
  refine (rOf b off cap xs hb hn w hlt hc).mono ?_
  rintro e w' ⟨h, l, ⟨rfl, rfl⟩, rfl, hb'⟩
  refine ⟨?_, hb'⟩
  have e1 : leB ((xs.drop 64).take 64) = hi (md (leB xs)) := by
    rw [(leB_split _ (hb.drop 64) 64).1, (leB_split xs hb 64).2, e64]
    unfold hi md
    omega
  have e2 : leB ((xs.drop 0).take 64) = lo (md (leB xs)) := by
    rw [List.drop_zero, (leB_split xs hb 64).1, e64]
    unfold lo md
    omega
  rw [e1, e2]

/-- The 128 bits of a number. -/
def bits128 (n : Int) : List Int := bitsK 64 (lo n) ++ bitsK 64 (hi n)
theorem bits128_length (n : Int) : (bits128 n).length = 128 := by simp [bits128, bitsK_length]
theorem bits128_bits (n : Int) : AreBits (bits128 n) := by
  intro x hx
  rcases List.mem_append.1 hx with h | h
  · exact bitsK_bits _ _ x h
  · exact bitsK_bits _ _ x h
theorem bits128_val (n : Int) (h : Rng n) : leB (bits128 n) = n := by
  have b1 := hi0 h
  have b2 := hi1 h
  have b3 := lo0 n
  have b4 := lo1 n
  rw [bits128, leB_append, leB_bitsK, leB_bitsK, bitsK_length, e64]
  have := hilo n
  omega
theorem rListN (n : Int) (xs : List Int) (hx : bits128 n = xs) (h : Rng n) (w : World) :
    Calls Try.prog 48 #[.agg #[.int .u64 (hi n), .int .u64 (lo n)]] w (RowAt xs w) := by
  subst hx
  exact rList (hi n) (lo n) (hi0 h) (hi1 h) (lo0 n) (lo1 n) w
end Go.Proofs.Ytolicfackceomaa.Wd
/-
  What Right of the reference of layer 1 answers.
-/
namespace Go.Proofs.Ytolicfackceomaa.Wd
open Go.RowKit
set_option linter.unusedVariables false

theorem ints_drop {w : World} {b : Nat} {xs : List Int} (h : Ints w b 0 xs) (k : Nat) : Ints w b k (xs.drop k) := by
  intro i hi
  have hi' : k + i < xs.length := by simp at hi; omega
  have := h (k + i) hi'
  rw [Nat.zero_add] at this
  rw [this]
  simp [List.getElem?_drop]

set_option maxRecDepth 100000 in
set_option maxHeartbeats 400000 in
theorem rRightIn (n : Int) (xs : List Int) (hx : Hid (bits128 n = xs)) (bx : Hid (AreBits xs)) (lx : Hid (xs.length = 128)) (k : Nat) (hk : k ≤ 127) (h : Rng n) (w : World) :
    Calls Try.prog 36 #[.agg #[.int .u64 (hi n), .int .u64 (lo n)], .int .i64 k] w (N1 (md (leB (xs.drop k))) w) := by
  have k0 : ¬ ((k : Int) < 0) := by omega
  have k1 : ¬ ((128 : Int) < (k : Int)) := by omega
  go_enter Try.func36, Try.ntmps36
  go_wp2_with fail
  refine (rListN n xs hx.out h _).mono ?_
  rintro e w1 ⟨g, cap, rfl, l1, l2, l3, own, hb⟩
  have l4 : xs.length = 128 := lx.out
  have KR := (Own.fresh _ (.int .u64 0) (.int .u64 0) 32).below hb
  simp only [World.size_alloc] at KR l1
  have hB : Below w.heap.size w w1 := below_then (by go_grown) hb
  have OWN := Lib.hid own
  have kl : (k : Int) ≤ (xs.length : Int) := by omega
  have kc : ¬ (cap = k) := by omega
  clear own hb l4
  go_wp2_with fail
  have e : (xs.drop k).length = xs.length - k := List.length_drop
  rw [← e]
  have e' : (xs.drop k).length ≤ 1000 := by have := lx.out; omega
  clear e
  refine (rOfN g k (cap - k) (xs.drop k) (bx.out.drop k) e' w1 l2 (ints_drop (ints_of_owns OWN.out) k)).mono ?_
  rintro e w2 ⟨rfl, hb⟩
  obtain ⟨z0, c0, c1, f0, f1⟩ := KR.below hb
  replace hB := below_then hB hb
  clear hb KR e'
  go_wp2
  refine bodyPost_ret (v := .agg #[.int .u64 (hi (md (leB (xs.drop k)))), .int .u64 (lo (md (leB (xs.drop k))))]) (by simp [results, Try.results36, go_sem, c0, c1]) rfl ⟨rfl, ?_⟩
  go_grown

set_option maxRecDepth 100000 in
set_option maxHeartbeats 400000 in
theorem rRightNeg (n : Int) (xs : List Int) (hx : Hid (bits128 n = xs)) (bx : Hid (AreBits xs)) (lx : Hid (xs.length = 128)) (m : Int) (hm : m < 0) (h : Rng n) (w : World) :
    Calls Try.prog 36 #[.agg #[.int .u64 (hi n), .int .u64 (lo n)], .int .i64 m] w (N1 (md (leB xs)) w) := by
  go_enter Try.func36, Try.ntmps36
  go_wp2_with fail
  refine (rListN n xs hx.out h _).mono ?_
  rintro e w1 ⟨g, cap, rfl, l1, l2, l3, own, hb⟩
  have l4 : xs.length = 128 := lx.out
  have KR := (Own.fresh _ (.int .u64 0) (.int .u64 0) 32).below hb
  simp only [World.size_alloc] at KR l1
  have hB : Below w.heap.size w w1 := below_then (by go_grown) hb
  have OWN := Lib.hid own
  have e' : xs.length ≤ 1000 := by omega
  clear own hb l4
  go_wp2_with fail
  refine (rOfN g 0 cap xs bx.out e' w1 l2 (ints_of_owns OWN.out)).mono ?_
  rintro e w2 ⟨rfl, hb⟩
  obtain ⟨z0, c0, c1, f0, f1⟩ := KR.below hb
  replace hB := below_then hB hb
  clear hb KR
  go_wp2
  refine bodyPost_ret (v := .agg #[.int .u64 (hi (md (leB xs))), .int .u64 (lo (md (leB xs)))]) (by simp [results, Try.results36, go_sem, c0, c1]) rfl ⟨rfl, ?_⟩
  go_grown

theorem rOf0 (g off cap : Nat) (z : Int) (hz : md (leB []) = z) (w : World) (hlt : g < w.heap.size) :
    Calls Try.prog 47 #[.slice (some ⟨g, off, none⟩) 0 cap] w (N1 z w) := by
  subst hz
  exact rOfN g off cap [] (fun x hx => by simp at hx) (by simp) w hlt (fun i hi => by simp at hi)

set_option maxRecDepth 100000 in
set_option maxHeartbeats 400000 in
theorem rRightFar (n : Int) (xs : List Int) (hx : Hid (bits128 n = xs)) (bx : Hid (AreBits xs)) (lx : Hid (xs.length = 128)) (m : Int) (hm : 128 < m) (z : Int) (hz : Hid (md (leB []) = z)) (h : Rng n) (w : World) :
    Calls Try.prog 36 #[.agg #[.int .u64 (hi n), .int .u64 (lo n)], .int .i64 m] w (N1 z w) := by
  have k0 : ¬ (m < 0) := by omega
  have k9 : decide (128 < m) = true := by simpa using hm
  clear hm
  go_enter Try.func36, Try.ntmps36
  go_wp2_with fail
  refine (rListN n xs hx.out h _).mono ?_
  rintro e w1 ⟨g, cap, rfl, l1, l2, l3, own, hb⟩
  have l4 : xs.length = 128 := lx.out
  have KR := (Own.fresh _ (.int .u64 0) (.int .u64 0) 32).below hb
  simp only [World.size_alloc] at KR l1
  have hB : Below w.heap.size w w1 := below_then (by go_grown) hb
  have OWN := Lib.hid own
  have k1 : (128 : Int) ≤ (xs.length : Int) := by omega
  have e0 : xs.length - 128 = 0 := by omega
  have E0 := Lib.hid e0
  clear own hb l4 e0
  by_cases kc : cap = 128
  · subst kc
    go_wp2_with fail
    refine (rOf0 g 0 0 z hz.out w1 l2).mono ?_
    rintro e w2 ⟨rfl, hb⟩
    obtain ⟨z0, c0, c1, f0, f1⟩ := KR.below hb
    replace hB := below_then hB hb
    clear hb KR
    go_wp2
    refine bodyPost_ret (v := .agg #[.int .u64 (hi z), .int .u64 (lo z)]) (by simp [results, Try.results36, go_sem, c0, c1]) rfl ⟨rfl, ?_⟩
    go_grown
  · go_wp2_with fail
    rw [E0.out]
    refine (rOf0 g 128 _ z hz.out w1 l2).mono ?_
    rintro e w2 ⟨rfl, hb⟩
    obtain ⟨z0, c0, c1, f0, f1⟩ := KR.below hb
    replace hB := below_then hB hb
    clear hb KR
    go_wp2
    refine bodyPost_ret (v := .agg #[.int .u64 (hi z), .int .u64 (lo z)]) (by simp [results, Try.results36, go_sem, c0, c1]) rfl ⟨rfl, ?_⟩
    go_grown
end Go.Proofs.Ytolicfackceomaa.Wd
/-
  What Left of the reference of layer 1 answers.
-/
namespace Go.Proofs.Ytolicfackceomaa.Wd
open Go.RowKit
set_option linter.unusedVariables false

theorem owns_cap {w : World} {base g n cap : Nat} {e : TypeId} {xs : List Value} (h : w.ownsRow base e 1 (.slice (some ⟨g, 0, none⟩) n cap) n xs) : n ≤ cap := by
  rcases h.2 with ⟨q, _⟩ | ⟨g', c', cur, q, _, _, hc, _⟩
  · cases q
  · injection q with _ _ q
    omega
/-- Behind k rounds: k zeros, and what else lies there. -/
structure LeftInv (w W0 : World) (n : Int) (k : Nat) (v : Value) (wr : World) : Prop where
  own : wr.ownsRow W0.heap.size 3 1 v k (List.replicate k (Value.int .i64 0))
  far : Below W0.heap.size W0 wr
theorem left_start (w W0 : World) (n : Int) : LeftInv w W0 n 0 (.slice (some ⟨W0.heap.size, 0, none⟩) 0 0) (W0.alloc (.cells #[] 3)) :=
  ⟨World.ownsRow_made W0 #[] 0 (Nat.le_refl _) (by decide) rfl, below_alloc (Below.refl _ _) _⟩
theorem left_step {w W0 : World} {n : Int} {k : Nat} {v v' : Value} {wr w1 : World} {o : Obj} (inv : LeftInv w W0 n k v wr)
    (hown' : w1.ownsRow W0.heap.size 3 1 v' (k + 1) (List.replicate k (Value.int .i64 0) ++ [.int .i64 0])) (hgrow : (wr.alloc o).grownBy w1 v.ownBlock) : LeftInv w W0 n (k + 1) v' w1 := by
  refine ⟨?_, (below_alloc inv.far o).grown hgrow (by have := inv.far.size; simp; omega) (fun j hj => (inv.own.lt j hj).1)⟩
  rw [List.replicate_succ']
  exact hown'

theorem rOfAs (b off cap : Nat) (xs : List Int) (hb : AreBits xs) (L : Nat) (hl : xs.length = L ∧ L ≤ 1000) (w : World) (hlt : b < w.heap.size) (hc : Ints w b off xs) :
    Calls Try.prog 47 #[.slice (some ⟨b, off, none⟩) L cap] w (N1 (md (leB xs)) w) := by
  obtain ⟨rfl, h2⟩ := hl
  exact rOfN b off cap xs hb h2 w hlt hc
theorem left_list (k : Nat) (xs : List Int) (bx : AreBits xs) (lx : xs.length = 128) {w : World} {base g n cap : Nat} (h : w.ownsRow base 3 1 (.slice (some ⟨g, 0, none⟩) n cap) n (List.replicate k (Value.int .i64 0) ++ xs.map (Value.int .i64))) :
    AreBits ((List.replicate k 0 ++ xs).take 128) ∧ (((List.replicate k 0 ++ xs).take 128).length = 128 ∧ 128 ≤ 1000) ∧ Ints w g 0 ((List.replicate k 0 ++ xs).take 128) := by
  have hm : List.replicate k (Value.int .i64 0) ++ xs.map (Value.int .i64) = (List.replicate k (0 : Int) ++ xs).map (Value.int .i64) := by rw [List.map_append, List.map_replicate]
  rw [hm] at h
  refine ⟨AreBits.take (fun x hx => ?_) _, ⟨?_, by omega⟩, fun i hi => ?_⟩
  · rcases List.mem_append.1 hx with q | q
    · have := List.eq_of_mem_replicate q; omega
    · exact bx x q
  · rw [List.length_take, List.length_append, lx]; omega
  · have hi2 : i < 128 := by rw [List.length_take] at hi; omega
    have hi3 : i < (List.replicate k (0 : Int) ++ xs).length := by rw [List.length_append, lx]; omega
    rw [ints_of_owns h i hi3]
    simp [hi2]

end Go.Proofs.Ytolicfackceomaa.Wd
/-
  What Bit and Cmp of the reference of layer 1 answer.
-/
namespace Go.Proofs.Ytolicfackceomaa.Wd
open Go.RowKit
set_option linter.unusedVariables false

set_option maxRecDepth 100000 in
set_option maxHeartbeats 400000 in
theorem rCmp (n m : Int) (hn : Rng n) (hm : Rng m) (w : World) :
    Calls Try.prog 35 #[.agg #[.int .u64 (hi n), .int .u64 (lo n)], .agg #[.int .u64 (hi m), .int .u64 (lo m)]] w (NI (cmpOf n m) w) := by
  have a1 := hi0 hn
  have a2 := hi1 hn
  have a3 := lo0 n
  have a4 := lo1 n
  have b1 := hi0 hm
  have b2 := hi1 hm
  have b3 := lo0 m
  have b4 := lo1 m
  have e1 := hilo n
  have e2 := hilo m
  generalize hi n = ah at *
  generalize lo n = al at *
  generalize hi m = bh at *
  generalize lo m = bl at *
  subst e1 e2
  have E : Hid (∀ r : Int, r = cmpOf (ah * 18446744073709551616 + al) (bh * 18446744073709551616 + bl) ↔ (ah * 18446744073709551616 + al = bh * 18446744073709551616 + bl ∧ r = 0) ∨ (ah * 18446744073709551616 + al < bh * 18446744073709551616 + bl ∧ r = -1) ∨ (bh * 18446744073709551616 + bl < ah * 18446744073709551616 + al ∧ r = 1)) := by
    refine Lib.hid fun r => ?_
    unfold cmpOf
    split
    · omega
    · split <;> omega
  clear hn hm
  go_enter Try.func35, Try.ntmps35
  go_wp2
  all_goals
    go_returns
    refine ⟨congrArg (fun q => Ending.returned (.int .i64 q)) ((E.out _).2 (by omega)), by go_grown⟩
end Go.Proofs.Ytolicfackceomaa.Wd
/-
  What Len of the reference of layer 1 answers.
-/
namespace Go.Proofs.Ytolicfackceomaa.Wd
open Go.RowKit
set_option linter.unusedVariables false

/-- One more than the highest place below k of a 1; 0, where there is none. -/
def topB (xs : List Int) : Nat → Int
  | 0 => 0
  | k + 1 => if xs.getD k 0 = 1 then (k : Int) + 1 else topB xs k
theorem topB_bd (xs : List Int) : ∀ k : Nat, 0 ≤ topB xs k ∧ topB xs k ≤ k
  | 0 => by simp [topB]
  | k + 1 => by
    have := topB_bd xs k
    unfold topB
    split <;> omega

end Go.Proofs.Ytolicfackceomaa.Wd
/-
  What Same of the reference of layer 1 answers at two lists of the same bytes: true.
-/
namespace Go.Proofs.Ytolicfackceomaa.Wd
open Go.RowKit
set_option linter.unusedVariables false

end Go.Proofs.Ytolicfackceomaa.Wd
/-
  Words for Put of the reference of layer 1 (the walk itself is not typed yet): bytes out of bits.
-/
namespace Go.Proofs.Ytolicfackceomaa.Wd
open Go.RowKit
set_option linter.unusedVariables false

/-- The lowest k bytes of n, the lowest one first. -/
def bl : Nat → Int → List Int
  | 0, _ => []
  | k + 1, n => bl k n ++ [n / 2 ^ (8 * k) % 256]
theorem bl_length : ∀ (k : Nat) (n : Int), (bl k n).length = k
  | 0, _ => rfl
  | k + 1, n => by simp [bl, bl_length k n]
theorem infoByte : (Try.prog.info? 5).map (fun i => (i.zero, i.size, i.bytes)) = some (some (.int .u8 0), 1, 1) := by kernel_rfl
structure PutInv (W0 : World) (n : Int) (k : Nat) (v : Value) (wr : World) : Prop where
  own : wr.ownsRow W0.heap.size 5 1 v k ((bl k n).map (Value.int .u8))
  far : Below W0.heap.size W0 wr
theorem put_step {W0 : World} {n : Int} {k : Nat} {v v' : Value} {wr w1 : World} {o : Obj} (inv : PutInv W0 n k v wr)
    (hown' : w1.ownsRow W0.heap.size 5 1 v' (k + 1) ((bl k n).map (Value.int .u8) ++ [.int .u8 (n / 2 ^ (8 * k) % 256)])) (hgrow : (wr.alloc o).grownBy w1 v.ownBlock) : PutInv W0 n (k + 1) v' w1 := by
  refine ⟨?_, (below_alloc inv.far o).grown hgrow (by have := inv.far.size; simp; omega) (fun j hj => (inv.own.lt j hj).1)⟩
  rw [bl, List.map_append]
  exact hown'
theorem drop_step8 (ys : List Int) (t : Nat) (ht : t < 8) (hl : ys.length = 8) : leB (ys.drop (7 - t)) = ys.getD (7 - t) 0 + 2 * leB (ys.drop (8 - t)) := by
  have h : 7 - t < ys.length := by omega
  rw [List.drop_eq_getElem_cons h, show 7 - t + 1 = 8 - t from by omega]
  simp [leB, List.getElem?_eq_getElem h]

end Go.Proofs.Ytolicfackceomaa.Wd
/-
  What Right of the reference of layer 1 answers at the place 128; Right and Left by value.
-/
namespace Go.Proofs.Ytolicfackceomaa.Wd
open Go.RowKit
set_option linter.unusedVariables false

set_option maxRecDepth 100000 in
set_option maxHeartbeats 400000 in
theorem rRight128 (n : Int) (xs : List Int) (hx : Hid (bits128 n = xs)) (bx : Hid (AreBits xs)) (lx : Hid (xs.length = 128)) (z : Int) (hz : Hid (md (leB []) = z)) (h : Rng n) (w : World) :
    Calls Try.prog 36 #[.agg #[.int .u64 (hi n), .int .u64 (lo n)], .int .i64 128] w (N1 z w) := by
  go_enter Try.func36, Try.ntmps36
  go_wp2_with fail
  refine (rListN n xs hx.out h _).mono ?_
  rintro e w1 ⟨g, cap, rfl, l1, l2, l3, own, hb⟩
  have l4 : xs.length = 128 := lx.out
  have KR := (Own.fresh _ (.int .u64 0) (.int .u64 0) 32).below hb
  simp only [World.size_alloc] at KR l1
  have hB : Below w.heap.size w w1 := below_then (by go_grown) hb
  have OWN := Lib.hid own
  have k1 : (128 : Int) ≤ (xs.length : Int) := by omega
  have e0 : xs.length - 128 = 0 := by omega
  have E0 := Lib.hid e0
  clear own hb l4 e0
  by_cases kc : cap = 128
  · subst kc
    go_wp2_with fail
    refine (rOf0 g 0 0 z hz.out w1 l2).mono ?_
    rintro e w2 ⟨rfl, hb⟩
    obtain ⟨z0, c0, c1, f0, f1⟩ := KR.below hb
    replace hB := below_then hB hb
    clear hb KR
    go_wp2
    refine bodyPost_ret (v := .agg #[.int .u64 (hi z), .int .u64 (lo z)]) (by simp [results, Try.results36, go_sem, c0, c1]) rfl ⟨rfl, ?_⟩
    go_grown
  · go_wp2_with fail
    rw [E0.out]
    refine (rOf0 g 128 _ z hz.out w1 l2).mono ?_
    rintro e w2 ⟨rfl, hb⟩
    obtain ⟨z0, c0, c1, f0, f1⟩ := KR.below hb
    replace hB := below_then hB hb
    clear hb KR
    go_wp2
    refine bodyPost_ret (v := .agg #[.int .u64 (hi z), .int .u64 (lo z)]) (by simp [results, Try.results36, go_sem, c0, c1]) rfl ⟨rfl, ?_⟩
    go_grown
end Go.Proofs.Ytolicfackceomaa.Wd
/-
  What Right, Left, Bit and Len of the reference of layer 1 answer, in the words in which the program's own are said.
-/
namespace Go.Proofs.Ytolicfackceomaa.Wd
open Go.RowKit
set_option linter.unusedVariables false

theorem pow_mono (a b : Nat) (h : a ≤ b) : (2 : Int) ^ a ≤ 2 ^ b := by
  have := Nat.pow_le_pow_right (show 0 < 2 by omega) h
  exact_mod_cast this
theorem e128 : (2 : Int) ^ 128 = 340282366920938463463374607431768211456 := by decide +kernel
theorem getD_leB (xs : List Int) (hb : AreBits xs) (n : Int) (hn : leB xs = n) (k : Nat) (hk : k < xs.length) : xs.getD k 0 = n / 2 ^ k % 2 := by
  have e := (leB_split xs hb k).2
  rw [List.drop_eq_getElem_cons hk] at e
  simp only [leB] at e
  have b := hb _ (List.getElem_mem hk)
  rw [← hn, ← e, List.getD_eq_getElem?_getD, List.getElem?_eq_getElem hk]
  simp only [Option.getD_some]
  omega
theorem take_next (xs : List Int) (k : Nat) (hk : k < xs.length) : leB (xs.take (k + 1)) = leB (xs.take k) + 2 ^ k * xs.getD k 0 := by
  rw [List.take_add_one, List.getElem?_eq_getElem hk, leB_append, List.length_take, Nat.min_eq_left (by omega)]
  simp [leB, List.getElem?_eq_getElem hk]
theorem topB_spec (xs : List Int) (hb : AreBits xs) : ∀ k : Nat, k ≤ xs.length → leB (xs.take k) < 2 ^ (topB xs k).toNat ∧ (topB xs k ≠ 0 → (2 : Int) ^ (topB xs k).toNat ≤ 2 * leB (xs.take k))
  | 0, _ => by simp [topB, leB]
  | k + 1, hk => by
    obtain ⟨h1, h2⟩ := topB_spec xs hb k (by omega)
    have ht := take_next xs k (by omega)
    have b := leB_bd _ (hb.take (k + 1))
    have b0 := leB_bd _ (hb.take k)
    rw [List.length_take, Nat.min_eq_left hk] at b
    have bx := hb (xs.getD k 0) (by
      have h : k < xs.length := by omega
      rw [List.getD_eq_getElem?_getD, List.getElem?_eq_getElem h]; exact List.getElem_mem h)
    unfold topB
    by_cases q : xs.getD k 0 = 1
    · rw [if_pos q, show ((k : Int) + 1).toNat = k + 1 from by omega]
      refine ⟨b.2, fun _ => ?_⟩
      rw [q] at ht
      rw [ht, Int.pow_succ]
      omega
    · rw [if_neg q]
      have z : xs.getD k 0 = 0 := by omega
      rw [z, Int.mul_zero, Int.add_zero] at ht
      rw [ht]
      exact ⟨h1, h2⟩
theorem len_uniq (A : Int) (a b : Nat) (h1 : A < 2 ^ a) (h2 : (2 : Int) ^ b ≤ 2 * A) : b ≤ a := by
  by_cases q : b ≤ a
  · exact q
  · have := pow_mono (a + 1) b (by omega)
    rw [Int.pow_succ] at this
    omega
theorem topB_len (n : Int) (xs : List Int) (hb : AreBits xs) (lx : xs.length = 128) (hn : leB xs = n) (h : Rng n) : topB xs 128 = lenN n := by
  obtain ⟨h1, h2⟩ := topB_spec xs hb 128 (by omega)
  have b := topB_bd xs 128
  rw [List.take_of_length_le (by omega), hn] at h1 h2
  by_cases z : n = 0
  · have t0 : topB xs 128 = 0 := by
      by_cases q : topB xs 128 = 0
      · exact q
      · have := h2 q
        have p := pw2 (topB xs 128).toNat
        omega
    rw [t0, z]
    decide +kernel
  · obtain ⟨l1, l2, l3, l4⟩ := len_spec n h z
    have t0 : topB xs 128 ≠ 0 := by
      intro q
      rw [q] at h1
      have := h.1
      simp at h1
      omega
    have a1 := len_uniq n _ _ h1 l4
    have a2 := len_uniq n _ _ l3 (h2 t0)
    omega
theorem rRightN (n k : Int) (h : Rng n) (w : World) :
    Calls Try.prog 36 #[.agg #[.int .u64 (hi n), .int .u64 (lo n)], .int .i64 k] w (N1 (n / 2 ^ k.toNat) w) := by
  have hx : Hid (bits128 n = bits128 n) := Lib.hid rfl
  have bx := Lib.hid (bits128_bits n)
  have lx := Lib.hid (bits128_length n)
  have z0 : md (leB []) = 0 := rfl
  by_cases k0 : k < 0
  · have := rRightNeg n _ hx bx lx k k0 h w
    rw [bits128_val n h, md_of n h] at this
    rw [show k.toNat = 0 from by omega, Int.pow_zero, Int.ediv_one]
    exact this
  · obtain ⟨j, rfl⟩ := Int.eq_ofNat_of_zero_le (show 0 ≤ k from by omega)
    rw [Int.toNat_natCast]
    by_cases k1 : j ≤ 127
    · have := rRightIn n _ hx bx lx j k1 h w
      rw [(leB_split _ bx.out j).2, bits128_val n h, md_of _ (rng_div h j)] at this
      exact this
    · rw [Int.ediv_eq_zero_of_lt h.1 (Int.lt_of_lt_of_le h.2 (pow128 j (by omega)))]
      by_cases k2 : j = 128
      · subst k2
        exact rRight128 n _ hx bx lx 0 (Lib.hid z0) h w
      · exact rRightFar n _ hx bx lx j (by omega) 0 (Lib.hid z0) h w
theorem left_val (K : Nat) (n : Int) (xs : List Int) (hb : AreBits xs) (hn : leB xs = n) : md (leB ((List.replicate K 0 ++ xs).take 128)) = md (n * 2 ^ K) := by
  have hz : ∀ K : Nat, leB (List.replicate K 0) = 0 := by
    intro K
    induction K with
    | zero => rfl
    | succ K ih => rw [List.replicate_succ, leB, ih]; rfl
  have hb2 : AreBits (List.replicate K 0 ++ xs) := by
    intro x hx
    rcases List.mem_append.1 hx with q | q
    · have := List.eq_of_mem_replicate q; omega
    · exact hb x q
  rw [(leB_split _ hb2 128).1, leB_append, hz, List.length_replicate, hn, e128, Int.zero_add, Int.mul_comm]
  unfold md
  omega
end Go.Proofs.Ytolicfackceomaa.Wd
