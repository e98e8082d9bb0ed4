/-
  Plain arithmetic, without the program: what two words of 64 bits become when both go to the left or to the right.
-/
import Derived.Laws.Bits64b
import Derived.Lib.BitFns
namespace Go.Proofs.YtkpignbmocpcaaaGreat.Wd
set_option linter.unusedVariables false

theorem pow_split (n : Nat) (h : n ≤ 64) : 2 ^ n * 2 ^ (64 - n) = 18446744073709551616 := by
  rw [← Nat.pow_add, show n + (64 - n) = 64 from by omega]

theorem wrap_shl (a n : Nat) : IntKind.u64.wrap ((a : Int) * 2 ^ n) = ((a * 2 ^ n % 18446744073709551616 : Nat) : Int) := by
  rw [IntKind.wrap_u64]
  have : ((a * 2 ^ n : Nat) : Int) = (a : Int) * 2 ^ n := by rw [Int.natCast_mul, Int.natCast_pow]; rfl
  rw [← this]
  omega

theorem div_shr (a n : Nat) : (a : Int) / 2 ^ n = ((a / 2 ^ n : Nat) : Int) := by
  rw [Int.natCast_ediv, Int.natCast_pow]; rfl

/-- To the left by 1 to 63. -/
theorem left_low (ah al n : Nat) (hn : n ≤ 64) (h1 : ah < 18446744073709551616) (h2 : al < 18446744073709551616) :
    bits .or .u64 (IntKind.u64.wrap ((ah : Int) * 2 ^ n)) ((al : Int) / 2 ^ (64 - n)) = ((ah * 2 ^ n % 18446744073709551616 + al / 2 ^ (64 - n) : Nat) : Int) ∧
    ah * 2 ^ n % 18446744073709551616 + al / 2 ^ (64 - n) < 18446744073709551616 ∧
    (ah * 2 ^ n % 18446744073709551616 + al / 2 ^ (64 - n)) * 18446744073709551616 + al * 2 ^ n % 18446744073709551616 = (ah * 18446744073709551616 + al) * 2 ^ n % 340282366920938463463374607431768211456 := by
  have hm := pow_split n hn
  have hp : 0 < 2 ^ n := Nat.pow_pos (by omega)
  have hq : 0 < 2 ^ (64 - n) := Nat.pow_pos (by omega)
  have e1 : ah * 2 ^ n % 18446744073709551616 = 2 ^ n * (ah % 2 ^ (64 - n)) := by
    rw [← hm, Nat.mul_comm ah, Nat.mul_mod_mul_left]
  have e2 : al * 2 ^ n % 18446744073709551616 = 2 ^ n * (al % 2 ^ (64 - n)) := by
    rw [← hm, Nat.mul_comm al, Nat.mul_mod_mul_left]
  have b1 : al / 2 ^ (64 - n) < 2 ^ n := by
    rw [Nat.div_lt_iff_lt_mul hq, hm]; exact h2
  have ho : 2 ^ n * (ah % 2 ^ (64 - n)) ||| al / 2 ^ (64 - n) = 2 ^ n * (ah % 2 ^ (64 - n)) + al / 2 ^ (64 - n) :=
    (Nat.two_pow_add_eq_or_of_lt b1 _).symm
  have hr := Nat.mod_lt ah hq
  have hs := Nat.mod_lt al hq
  have hrm : 2 ^ n * (ah % 2 ^ (64 - n)) + 2 ^ n ≤ 18446744073709551616 := by
    rw [← hm]
    calc 2 ^ n * (ah % 2 ^ (64 - n)) + 2 ^ n = 2 ^ n * (ah % 2 ^ (64 - n) + 1) := by rw [Nat.mul_add, Nat.mul_one]
      _ ≤ 2 ^ n * 2 ^ (64 - n) := Nat.mul_le_mul_left _ hr
  have hsm : 2 ^ n * (al % 2 ^ (64 - n)) < 18446744073709551616 := by
    rw [← hm]; exact Nat.mul_lt_mul_of_pos_left hs hp
  refine ⟨?_, ?_, ?_⟩
  · rw [wrap_shl, div_shr, bits_or_u64_nat _ _ (Nat.mod_lt _ (by omega)) (by omega), e1, ho]
  · rw [e1]; omega
  · rw [e1, e2]
    have k1 := Nat.div_add_mod ah (2 ^ (64 - n))
    have k2 := Nat.div_add_mod al (2 ^ (64 - n))
    have k3 : ah * 2 ^ n = ah / 2 ^ (64 - n) * 18446744073709551616 + 2 ^ n * (ah % 2 ^ (64 - n)) := by
      rw [← hm]
      conv => lhs; rw [← k1]
      rw [Nat.add_mul, Nat.mul_comm (ah % 2 ^ (64 - n)), Nat.mul_comm (2 ^ (64 - n)) (ah / 2 ^ (64 - n)), Nat.mul_assoc, Nat.mul_comm (2 ^ (64 - n)) (2 ^ n)]
    have k4 : al * 2 ^ n = al / 2 ^ (64 - n) * 18446744073709551616 + 2 ^ n * (al % 2 ^ (64 - n)) := by
      rw [← hm]
      conv => lhs; rw [← k2]
      rw [Nat.add_mul, Nat.mul_comm (al % 2 ^ (64 - n)), Nat.mul_comm (2 ^ (64 - n)) (al / 2 ^ (64 - n)), Nat.mul_assoc, Nat.mul_comm (2 ^ (64 - n)) (2 ^ n)]
    have k5 : (ah * 18446744073709551616 + al) * 2 ^ n = ah * 2 ^ n * 18446744073709551616 + al * 2 ^ n := by rw [Nat.add_mul, Nat.mul_right_comm]
    rw [k5, k3, k4]
    generalize 2 ^ n * (ah % 2 ^ (64 - n)) = x at *
    generalize 2 ^ n * (al % 2 ^ (64 - n)) = y at *
    generalize ah / 2 ^ (64 - n) = u at *
    generalize al / 2 ^ (64 - n) = v at *
    omega

/-- To the right by 1 to 63. -/
theorem right_low (ah al n : Nat) (hn : n ≤ 64) (h1 : ah < 18446744073709551616) (h2 : al < 18446744073709551616) :
    bits .or .u64 ((al : Int) / 2 ^ n) (IntKind.u64.wrap ((ah : Int) * 2 ^ (64 - n))) = ((al / 2 ^ n + ah * 2 ^ (64 - n) % 18446744073709551616 : Nat) : Int) ∧
    al / 2 ^ n + ah * 2 ^ (64 - n) % 18446744073709551616 < 18446744073709551616 ∧
    ah / 2 ^ n * 18446744073709551616 + (al / 2 ^ n + ah * 2 ^ (64 - n) % 18446744073709551616) = (ah * 18446744073709551616 + al) / 2 ^ n := by
  have hm := pow_split n hn
  have hp : 0 < 2 ^ n := Nat.pow_pos (by omega)
  have hq : 0 < 2 ^ (64 - n) := Nat.pow_pos (by omega)
  have e1 : ah * 2 ^ (64 - n) % 18446744073709551616 = 2 ^ (64 - n) * (ah % 2 ^ n) := by
    rw [← hm, Nat.mul_comm ah, Nat.mul_comm (2 ^ n), Nat.mul_mod_mul_left]
  have b1 : al / 2 ^ n < 2 ^ (64 - n) := by
    rw [Nat.div_lt_iff_lt_mul hp, Nat.mul_comm, hm]; exact h2
  have ho : al / 2 ^ n ||| 2 ^ (64 - n) * (ah % 2 ^ n) = al / 2 ^ n + 2 ^ (64 - n) * (ah % 2 ^ n) := by
    rw [Nat.or_comm, Nat.add_comm]; exact (Nat.two_pow_add_eq_or_of_lt b1 _).symm
  have hr := Nat.mod_lt ah hp
  have hrm : 2 ^ (64 - n) * (ah % 2 ^ n) + 2 ^ (64 - n) ≤ 18446744073709551616 := by
    rw [← hm, Nat.mul_comm (2 ^ n)]
    calc 2 ^ (64 - n) * (ah % 2 ^ n) + 2 ^ (64 - n) = 2 ^ (64 - n) * (ah % 2 ^ n + 1) := by rw [Nat.mul_add, Nat.mul_one]
      _ ≤ 2 ^ (64 - n) * 2 ^ n := Nat.mul_le_mul_left _ hr
  have hl : al / 2 ^ n ≤ al := Nat.div_le_self _ _
  refine ⟨?_, ?_, ?_⟩
  · rw [wrap_shl, div_shr, bits_or_u64_nat _ _ (by omega) (Nat.mod_lt _ (by omega)), e1, ho]
  · rw [e1]; omega
  · rw [e1]
    have k1 := Nat.div_add_mod ah (2 ^ n)
    have k3 : ah * 18446744073709551616 + al = (ah * 2 ^ (64 - n)) * 2 ^ n + al := by
      rw [Nat.mul_assoc, Nat.mul_comm (2 ^ (64 - n)), hm]
    rw [k3, Nat.mul_comm _ (2 ^ n), Nat.mul_add_div hp]
    have k4 : ah * 2 ^ (64 - n) = ah / 2 ^ n * 18446744073709551616 + 2 ^ (64 - n) * (ah % 2 ^ n) := by
      rw [← hm]
      conv => lhs; rw [← k1]
      rw [Nat.add_mul, Nat.mul_comm (ah % 2 ^ n), Nat.mul_comm (2 ^ n) (ah / 2 ^ n), Nat.mul_assoc]
    rw [k4]
    generalize ah / 2 ^ n = x
    generalize 2 ^ (64 - n) * (ah % 2 ^ n) = y
    generalize al / 2 ^ n = z
    rw [Nat.add_assoc, Nat.add_comm y]

/-- To the left by 64 to 127. -/
theorem left_high (ah al k : Nat) (h2 : al < 18446744073709551616) :
    al * 2 ^ k % 18446744073709551616 * 18446744073709551616 = (ah * 18446744073709551616 + al) * 2 ^ (64 + k) % 340282366920938463463374607431768211456 := by
  rw [Nat.pow_add, ← Nat.mul_assoc, Nat.add_mul, Nat.add_mul]
  have e : ah * 18446744073709551616 * 2 ^ 64 * 2 ^ k = ah * 2 ^ k * 340282366920938463463374607431768211456 := by
    rw [Nat.mul_right_comm, Nat.mul_right_comm ah, Nat.mul_assoc, Nat.mul_assoc]
  have e2 : al * 2 ^ 64 * 2 ^ k = al * 2 ^ k * 18446744073709551616 := Nat.mul_right_comm _ _ _
  rw [e, e2]
  generalize ah * 2 ^ k = x
  generalize al * 2 ^ k = y
  omega

theorem right_high (ah al k : Nat) (h2 : al < 18446744073709551616) :
    ah / 2 ^ k = (ah * 18446744073709551616 + al) / 2 ^ (64 + k) := by
  rw [Nat.pow_add, ← Nat.div_div_eq_div_mul]
  congr 1
  omega

theorem left_out (v n : Nat) (hn : 128 ≤ n) : v * 2 ^ n % 340282366920938463463374607431768211456 = 0 := by
  obtain ⟨k, rfl⟩ := Nat.exists_eq_add_of_le hn
  rw [Nat.pow_add, Nat.mul_left_comm]
  exact Nat.mul_mod_right _ _

theorem right_out (v n : Nat) (hv : v < 340282366920938463463374607431768211456) (hn : 128 ≤ n) : v / 2 ^ n = 0 := by
  apply Nat.div_eq_of_lt
  calc v < 2 ^ 128 := hv
    _ ≤ 2 ^ n := Nat.pow_le_pow_right (by omega) hn

theorem bitLenAux_le : ∀ f x : Nat, Lib.bitLenAux f x ≤ f
  | 0, _ => Nat.le_refl _
  | f + 1, x => by
    unfold Lib.bitLenAux
    split
    · omega
    · have := bitLenAux_le f (x / 2)
      omega
theorem bitLen_le (x : Nat) : Lib.bitLen x ≤ 64 := bitLenAux_le 64 x
theorem bitLenAux_bd : ∀ f x : Nat, x < 2 ^ f → x < 2 ^ Lib.bitLenAux f x ∧ (x ≠ 0 → 2 ^ Lib.bitLenAux f x ≤ 2 * x) ∧ (x = 0 → Lib.bitLenAux f x = 0) ∧ (x ≠ 0 → 1 ≤ Lib.bitLenAux f x)
  | 0, x => by
    intro h
    have : x = 0 := by simp at h; omega
    subst this
    simp [Lib.bitLenAux]
  | f + 1, x => by
    intro h
    rw [Nat.pow_succ] at h
    by_cases h0 : x = 0
    · subst h0; simp [Lib.bitLenAux]
    · obtain ⟨i1, i2, i3, i4⟩ := bitLenAux_bd f (x / 2) (by omega)
      have e : Lib.bitLenAux (f + 1) x = 1 + Lib.bitLenAux f (x / 2) := by simp [Lib.bitLenAux, h0]
      rw [e, Nat.pow_add, Nat.pow_one]
      refine ⟨by omega, fun _ => ?_, fun k => absurd k h0, fun _ => by omega⟩
      by_cases h1 : x / 2 = 0
      · rw [i3 h1, Nat.pow_zero]; omega
      · have := i2 h1
        omega
/-- The number of a number's bits: up to its highest 1. -/
theorem bitLen_bd (x : Nat) (h : x < 18446744073709551616) : x < 2 ^ Lib.bitLen x ∧ (x ≠ 0 → 2 ^ Lib.bitLen x ≤ 2 * x) ∧ (x = 0 → Lib.bitLen x = 0) ∧ (x ≠ 0 → 1 ≤ Lib.bitLen x) :=
  bitLenAux_bd 64 x h
theorem and_one (l : Int) (h0 : 0 ≤ l) (h1 : l < 18446744073709551616) : bits .and .u64 l 1 = l % 2 := by
  obtain ⟨l, rfl⟩ := Int.eq_ofNat_of_zero_le h0
  have h := bits_and_u64_nat l 1 (by omega) (by omega)
  rw [Nat.and_one_is_mod] at h
  exact h
end Go.Proofs.YtkpignbmocpcaaaGreat.Wd
