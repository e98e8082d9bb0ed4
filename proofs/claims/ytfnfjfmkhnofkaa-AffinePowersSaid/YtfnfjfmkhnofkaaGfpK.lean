/-
  Two polynomials that are looked at by Large; bits and degrees of numbers, for the statements of layer 2.
-/
import Derived.Test.YtfnfjfmkhnofkaaGfpI
namespace Go.Proofs.Ytfnfjfmkhnofkaa
open Go.RowKit G
set_option linter.unusedVariables false

theorem pow_up {N k m : Nat} (h : N < 2 ^ k) (hm : k ≤ m) : N < 2 ^ m := Nat.lt_of_lt_of_le h (Nat.pow_le_pow_right (by decide) hm)
theorem wl' {N : Nat} (k : Nat) (h : N < 2 ^ (64 * k)) (hk : k ≤ 50000) : Hid ((wordsOf N).length ≤ 50000) := Lib.hid (Nat.le_trans (wl k h) hk)
theorem leN_lt' {xs : List Nat} {k : Nat} (h : Wds xs) (hk : xs.length ≤ k) : leN xs < 2 ^ (64 * k) := pow_up (leN_lt xs h) (by omega)
theorem clm_lt' {a b : Nat} (m n k : Nat) (hk : m + n = k) (ha : a < 2 ^ (64 * m)) (hb : b < 2 ^ (64 * n)) : clm a b < 2 ^ (64 * k) := by
  have := clm_lt ha hb
  rwa [← Nat.mul_add, hk] at this
theorem xor_lt' (m : Nat) {a b : Nat} (ha : a < 2 ^ (64 * m)) (hb : b < 2 ^ (64 * m)) : a ^^^ b < 2 ^ (64 * m) := xor_lt ha hb
theorem bit_num (N k : Nat) : N / 2 ^ k % 2 = (N.testBit k).toNat := by
  rw [bit_mod]
  by_cases h : N / 2 ^ k % 2 = 1
  · simp [h]
  · have : N / 2 ^ k % 2 = 0 := by omega
    simp [this]
theorem sq_bit (N n : Nat) : clm N N / 2 ^ (2 * n) % 2 = N / 2 ^ n % 2 ∧ clm N N / 2 ^ (2 * n + 1) % 2 = 0 := by
  obtain ⟨a, b⟩ := sq_bits N n
  rw [bit_num, bit_num, bit_num, a, b]
  exact ⟨rfl, rfl⟩
theorem top_bit {N k : Nat} (h : len N = k + 1) : N / 2 ^ k % 2 = 1 := by
  have h0 : N ≠ 0 := by intro e; subst e; rw [len_zero] at h; omega
  have := len_bit h0
  rw [bit_num, show k = len N - 1 from by omega, this]; rfl
theorem over_bit {N k : Nat} (h : len N = k) : N / 2 ^ k % 2 = 0 := by
  rw [bit_num, len_bit_out (Nat.le_of_eq h)]; rfl
end Go.Proofs.Ytfnfjfmkhnofkaa
