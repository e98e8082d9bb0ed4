/-
  Plain facts on what goes to the left and to the right, on the low bits, and on how many bits a number has.
-/
import Derived.Test.YtfnfjfmkhnofkaaWideN
namespace Go.Proofs.Ytfnfjfmkhnofkaa.Wd
set_option linter.unusedVariables false

theorem p2 (k : Nat) : (0 : Int) < 2 ^ k := Int.pow_pos (by decide)
theorem md_md (a b : Int) : md (a * md b) = md (a * b) := by
  unfold md; rw [Int.mul_emod, Int.emod_emod, ← Int.mul_emod]
theorem md_md' (a b : Int) : md (md a * b) = md (a * b) := by
  unfold md; rw [Int.mul_emod, Int.emod_emod, ← Int.mul_emod]
theorem e_mul (A : Int) (n : Int) : md (A * md (1 * 2 ^ n.toNat)) = md (A * 2 ^ n.toNat) := by rw [md_md, Int.one_mul]
theorem e_left (A n m : Int) (hn : 0 ≤ n) (hm : 0 ≤ m) : md (md (A * 2 ^ n.toNat) * 2 ^ m.toNat) = md (A * 2 ^ (n + m).toNat) := by
  rw [md_md', Int.mul_assoc, ← Int.pow_add, show n.toNat + m.toNat = (n + m).toNat from by omega]
theorem e_right (A n m : Int) (hn : 0 ≤ n) (hm : 0 ≤ m) : A / 2 ^ n.toNat / 2 ^ m.toNat = A / 2 ^ (n + m).toNat := by
  rw [Int.ediv_ediv_of_nonneg (Int.le_of_lt (p2 _)), ← Int.pow_add, show n.toNat + m.toNat = (n + m).toNat from by omega]
theorem e_bit (A n m : Int) (hn : 0 ≤ n) (hm : 0 ≤ m) : bitOf (A / 2 ^ n.toNat) m = bitOf A (n + m) := by
  unfold bitOf; rw [if_neg (by omega), if_neg (by omega), e_right A n m hn hm]
theorem e_low (A n : Int) (h : Rng A) : md (A - md (A / 2 ^ n.toNat * 2 ^ n.toNat)) = A % 2 ^ n.toNat := by
  obtain ⟨h0, h1⟩ := h
  have hp := p2 n.toNat
  have e := Int.emod_add_mul_ediv A (2 ^ n.toNat)
  have r0 := Int.emod_nonneg A (Int.ne_of_gt hp)
  have q0 : 0 ≤ A / 2 ^ n.toNat := Int.ediv_nonneg h0 (Int.le_of_lt hp)
  have k0 : 0 ≤ 2 ^ n.toNat * (A / 2 ^ n.toNat) := Int.mul_nonneg (Int.le_of_lt hp) q0
  rw [Int.mul_comm (A / 2 ^ n.toNat)]
  generalize 2 ^ n.toNat * (A / 2 ^ n.toNat) = x at *
  generalize A % 2 ^ n.toNat = r at *
  unfold md
  omega
theorem pow128 (k : Nat) (h : 128 ≤ k) : (340282366920938463463374607431768211456 : Int) ≤ 2 ^ k := by
  obtain ⟨d, rfl⟩ := Nat.exists_eq_add_of_le h
  rw [Int.pow_add]
  have h2 := p2 d
  have : (2 : Int) ^ 128 * 1 ≤ 2 ^ 128 * 2 ^ d := Int.mul_le_mul_of_nonneg_left (by omega) (by decide)
  have e : (2 : Int) ^ 128 = 340282366920938463463374607431768211456 := by decide +kernel
  rw [e] at this ⊢
  omega
theorem pow127 (k : Nat) (h : k < 128) : (2 : Int) ^ k < 340282366920938463463374607431768211456 := by
  have : (2 : Nat) ^ k < 2 ^ 128 := Nat.pow_lt_pow_right (by omega) h
  have e : ((2 ^ k : Nat) : Int) = (2 : Int) ^ k := by rw [Int.natCast_pow]; rfl
  have e2 : (2 : Nat) ^ 128 = 340282366920938463463374607431768211456 := by decide +kernel
  omega
theorem e_low_far (A n : Int) (h : Rng A) (hn : 128 ≤ n) : A % 2 ^ n.toNat = A :=
  Int.emod_eq_of_lt h.1 (Int.lt_of_lt_of_le h.2 (pow128 _ (by omega)))
theorem e_cmp (A n : Int) (h0 : 0 ≤ n) (hn : n < 128) : cmpOf (A % 2 ^ n.toNat) (md (1 * 2 ^ n.toNat)) = -1 := by
  have hp := p2 n.toNat
  have hl := pow127 n.toNat (by omega)
  rw [Int.one_mul, md_of _ ⟨Int.le_of_lt hp, hl⟩]
  have := Int.emod_lt_of_pos A hp
  unfold cmpOf
  rw [if_neg (by omega), if_pos this]
theorem rng_low (A n : Int) (h : Rng A) : Rng (A % 2 ^ n.toNat) := by rw [← e_low A n h]; exact rng_md _

theorem len_nat (x : Nat) (h : x < 18446744073709551616) (h0 : x ≠ 0) : (x : Int) < 2 ^ Lib.bitLen x ∧ (2 : Int) ^ Lib.bitLen x ≤ 2 * x ∧ 1 ≤ Lib.bitLen x ∧ Lib.bitLen x ≤ 64 := by
  obtain ⟨a, b, _, d⟩ := bitLen_bd x h
  have e : ((2 ^ Lib.bitLen x : Nat) : Int) = (2 : Int) ^ Lib.bitLen x := by rw [Int.natCast_pow]; rfl
  have b' := b h0
  exact ⟨by omega, by omega, d h0, bitLen_le x⟩
theorem len_spec (A : Int) (h : Rng A) (h0 : A ≠ 0) : 1 ≤ lenN A ∧ lenN A ≤ 128 ∧ A < 2 ^ (lenN A).toNat ∧ 2 ^ (lenN A).toNat ≤ 2 * A := by
  have hh0 := hi0 h
  have hh1 := hi1 h
  have hl0 := lo0 A
  have hl1 := lo1 A
  have e := hilo A
  unfold lenN lenOf
  by_cases q : hi A = 0
  · rw [if_pos q]
    obtain ⟨x, hx⟩ := Int.eq_ofNat_of_zero_le hl0
    obtain ⟨a, b, c, d⟩ := len_nat x (by omega) (by omega)
    rw [hx, Int.toNat_natCast, Int.toNat_natCast]
    refine ⟨by omega, by omega, ?_, ?_⟩ <;> omega
  · rw [if_neg q]
    obtain ⟨x, hx⟩ := Int.eq_ofNat_of_zero_le hh0
    obtain ⟨a, b, c, d⟩ := len_nat x (by omega) (by omega)
    rw [hx, Int.toNat_natCast, show ((64 : Int) + (Lib.bitLen x : Int)).toNat = 64 + Lib.bitLen x from by omega, Int.pow_add, show (2 : Int) ^ 64 = 18446744073709551616 from by decide +kernel]
    refine ⟨by omega, by omega, ?_, ?_⟩ <;> omega
theorem len_bit (A : Int) (h : Rng A) (h0 : A ≠ 0) : bitOf A (lenN A - 1) = 1 := by
  obtain ⟨a, b, c, d⟩ := len_spec A h h0
  obtain ⟨k, hk⟩ : ∃ k : Nat, (lenN A).toNat = k + 1 := ⟨(lenN A).toNat - 1, by omega⟩
  rw [hk, Int.pow_succ] at c d
  unfold bitOf
  rw [if_neg (by omega), show (lenN A - 1).toNat = k from by omega]
  have hp := p2 k
  have e : A / 2 ^ k = 1 := by
    have h1 : 2 ^ k * 1 ≤ A := by omega
    have h2 : A < 2 ^ k * 2 := c
    have g1 : 1 ≤ A / 2 ^ k := (Int.le_ediv_iff_mul_le hp).2 (by omega)
    have g2 : A / 2 ^ k < 2 := (Int.ediv_lt_iff_lt_mul hp).2 (by omega)
    omega
  rw [e]; decide
theorem len_out (A : Int) (h : Rng A) (h0 : A ≠ 0) : A / 2 ^ (lenN A).toNat = 0 := by
  obtain ⟨a, b, c, d⟩ := len_spec A h h0
  exact Int.ediv_eq_zero_of_lt h.1 c
theorem len_zero : lenN 0 = 0 := by decide +kernel

theorem nRightAs (n k r : Int) (hn : Rng n) (e : n / 2 ^ k.toNat = r) (w : World) :
    Calls Try.prog 35 #[.agg #[.int .u64 (hi n), .int .u64 (lo n)], .int .i64 k] w (N1 r w) := by subst e; exact nRight n k hn w
theorem nBitAs (n k r : Int) (hn : Rng n) (e : bitOf n k = r) (w : World) :
    Calls Try.prog 22 #[.agg #[.int .u64 (hi n), .int .u64 (lo n)], .int .i64 k] w (NI r w) := by subst e; exact nBit n k hn w
theorem nSubAs (n m r : Int) (hn : Rng n) (hm : Rng m) (e : md (n - m) = r) (w : World) :
    Calls Try.prog 24 #[.agg #[.int .u64 (hi n), .int .u64 (lo n)], .agg #[.int .u64 (hi m), .int .u64 (lo m)]] w (N2 r (decide (n < m)) w) := by subst e; exact nSub n m hn hm w
theorem r1 : Rng 1 := ⟨by decide, by decide⟩
theorem h00 : hi 0 = 0 := by decide
theorem l00 : lo 0 = 0 := by decide
end Go.Proofs.Ytfnfjfmkhnofkaa.Wd
