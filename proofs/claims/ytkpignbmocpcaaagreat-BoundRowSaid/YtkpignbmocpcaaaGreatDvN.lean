/-
  What math/bits.Div64 divides: the parts of its numbers, normalised.
-/
import Derived.Test.YtkpignbmocpcaaaGreatDvM
import Derived.Test.YtkpignbmocpcaaaGreatWideD
namespace Go.Proofs.YtkpignbmocpcaaaGreat.Dv
open Go.RowKit
set_option linter.unusedVariables false
set_option maxRecDepth 100000

/-- The divisor's halves, and the parts of what is divided. -/
structure Nm (h l y s Y y1 y0 U d1 d0 : Nat) : Prop where
  dv : Y = y * 2 ^ s
  half : Y = y1 * 4294967296 + y0
  b1 : 2147483648 ≤ y1
  b2 : y1 < 4294967296
  b0 : y0 < 4294967296
  bU : U < Y
  bd1 : d1 < 4294967296
  bd0 : d0 < 4294967296
  all : U * (4294967296 * 4294967296) + (d1 * 4294967296 + d0) = (h * 18446744073709551616 + l) * 2 ^ s
theorem dig {B y1 y0 U d q Y : Nat} (hY : Y = y1 * B + y0) (hq : q = (U * B + d) / (y1 * B + y0)) (hp : 0 < Y) : ∃ r, Y * q + r = U * B + d ∧ r < Y := by
  subst hY hq
  exact ⟨_, Nat.div_add_mod _ _, Nat.mod_lt _ hp⟩
theorem final_of {B X y p Y U d1 d0 q1 r1 q0 r0 : Nat} (hp : 0 < p) (hY : Y = y * p) (all : U * (B * B) + (d1 * B + d0) = X * p) (h1 : Y * q1 + r1 = U * B + d1) (h0 : Y * q0 + r0 = r1 * B + d0) (l0 : r0 < Y) :
    X / y = q1 * B + q0 ∧ X % y = r0 / p := by
  have e : X * p = r0 + Y * (q1 * B + q0) := by
    have a : U * B * B + d1 * B = Y * q1 * B + r1 * B := by rw [← Nat.add_mul, ← Nat.add_mul, h1]
    rw [Nat.mul_assoc U, Nat.mul_assoc Y] at a
    rw [Nat.mul_add]
    omega
  have hy : 0 < Y := by omega
  obtain ⟨s1, s2⟩ := scaled (X := X) (y := y) hp
  rw [← hY, e] at s1 s2
  rw [← s1, ← s2, Nat.add_mul_div_left _ _ hy, Nat.add_mul_mod_self_left, Nat.div_eq_of_lt l0, Nat.mod_eq_of_lt l0, Nat.zero_add]
  exact ⟨rfl, rfl⟩
theorem or_sum {s a b : Nat} (hb : b < 2 ^ s) (h : a * 2 ^ s + b < 18446744073709551616) : bits .or .u64 ((a * 2 ^ s : Nat) : Int) (b : Int) = ((a * 2 ^ s + b : Nat) : Int) := by
  rw [bits_or_u64_nat (a * 2 ^ s) b (by omega) (by omega), Nat.mul_comm a, ← Nat.two_pow_add_eq_or_of_lt hb]
theorem pow_two_parts {s : Nat} (hs : s ≤ 64) : 2 ^ s * 2 ^ (64 - s) = 18446744073709551616 := by
  rw [← Nat.pow_add, show s + (64 - s) = 64 by omega]
theorem shifted {l s : Nat} (hs : s ≤ 64) : l * 2 ^ s / 18446744073709551616 = l / 2 ^ (64 - s) := by
  rw [← pow_two_parts hs, Nat.mul_comm l, Nat.mul_div_mul_left _ _ (Nat.two_pow_pos s)]
theorem up_lt {l s : Nat} (hs : s ≤ 64) (hl : l < 18446744073709551616) : l / 2 ^ (64 - s) < 2 ^ s := by
  refine Nat.div_lt_of_lt_mul ?_
  rw [Nat.mul_comm, pow_two_parts hs]
  exact hl
theorem Nm.of {h l y s : Nat} (hy : h < y) (hl : l < 18446744073709551616) (hs : s ≤ 63) (hY : y * 2 ^ s < 18446744073709551616) (hY2 : 9223372036854775808 ≤ y * 2 ^ s) :
    Nm h l y s (y * 2 ^ s) (y * 2 ^ s / 4294967296) (y * 2 ^ s % 4294967296) (h * 2 ^ s + l / 2 ^ (64 - s)) (l * 2 ^ s % 18446744073709551616 / 4294967296) (l * 2 ^ s % 18446744073709551616 % 4294967296) := by
  have e1 := Nat.div_add_mod (l * 2 ^ s) 18446744073709551616
  rw [shifted (by omega)] at e1
  have lm := Nat.mod_lt (l * 2 ^ s) (show 0 < 18446744073709551616 by decide)
  have up := up_lt (l := l) (s := s) (by omega) hl
  have hp : h * 2 ^ s + 2 ^ s ≤ y * 2 ^ s := by
    have := Nat.mul_le_mul_right (2 ^ s) (show h + 1 ≤ y from hy)
    rwa [Nat.add_mul, Nat.one_mul] at this
  have e2 : (h * 18446744073709551616 + l) * 2 ^ s = h * 2 ^ s * 18446744073709551616 + l * 2 ^ s := by
    rw [Nat.add_mul, Nat.mul_right_comm]
  generalize l * 2 ^ s = A at e1 lm e2 ⊢
  generalize A % 18446744073709551616 = R at e1 lm ⊢
  generalize l / 2 ^ (64 - s) = C at e1 up ⊢
  generalize h * 2 ^ s = D at hp e2 ⊢
  refine ⟨rfl, ?_, ?_, ?_, ?_, ?_, ?_, ?_, ?_⟩
  · omega
  · omega
  · omega
  · omega
  · omega
  · omega
  · omega
  · rw [e2]; omega
end Go.Proofs.YtkpignbmocpcaaaGreat.Dv
