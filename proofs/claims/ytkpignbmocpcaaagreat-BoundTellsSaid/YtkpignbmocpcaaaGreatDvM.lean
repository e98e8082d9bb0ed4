/-
  The mathematics of a long division by a normalised number, digit by digit of half a word (math/bits.Div64).
-/
import Derived.Test.YtkpignbmocpcaaaGreatRows
namespace Go.Proofs.YtkpignbmocpcaaaGreat.Dv
set_option linter.unusedVariables false

/-- What holds of the guess q and what it leaves, r, of the digit of (U * B + d) / (y1 * B + y0). -/
structure Gs (B y1 y0 U d q r : Nat) : Prop where
  e : q * y1 + r = U
  m : (U * B + d) / (y1 * B + y0) ≤ q
section
variable {B y1 y0 U d q r : Nat}
theorem digit_lt (h : U < y1 * B + y0) (hd : d < B) : (U * B + d) / (y1 * B + y0) < B := by
  refine Nat.div_lt_of_lt_mul ?_
  have := Nat.mul_le_mul_right B (show U + 1 ≤ y1 * B + y0 from h)
  rw [Nat.add_mul, Nat.one_mul] at this
  omega
/-- The first guess. -/
theorem Gs.start (h1 : 0 < y1) (hd : d < B) : Gs B y1 y0 U d (U / y1) (U % y1) := by
  refine ⟨by rw [Nat.mul_comm]; exact Nat.div_add_mod U y1, ?_⟩
  refine (Nat.le_div_iff_mul_le h1).2 ?_
  have hp : 0 < y1 * B + y0 := by
    have : 0 < y1 * B := Nat.mul_pos h1 (by omega)
    omega
  have h := Nat.div_mul_le_self (U * B + d) (y1 * B + y0)
  generalize (U * B + d) / (y1 * B + y0) = Q at h ⊢
  rw [Nat.mul_add, ← Nat.mul_assoc] at h
  rcases Nat.lt_or_ge U (Q * y1) with k | k
  · exfalso
    have := Nat.mul_le_mul_right B (show U + 1 ≤ Q * y1 from k)
    rw [Nat.add_mul, Nat.one_mul] at this
    omega
  · exact k
/-- The guess times the divisor, against what is divided. -/
theorem Gs.over (g : Gs B y1 y0 U d q r) : q * (y1 * B + y0) ≤ U * B + d ↔ q * y0 ≤ B * r + d := by
  have e : U * B = q * y1 * B + B * r := by rw [← g.e, Nat.add_mul, Nat.mul_comm r B]
  rw [Nat.mul_add, ← Nat.mul_assoc, e]
  omega
theorem Gs.down (g : Gs B y1 y0 U d q r) (hp : 0 < y1 * B + y0) (hU : U < y1 * B + y0) (hd : d < B) (h : B ≤ q ∨ B * r + d < q * y0) : 0 < q ∧ Gs B y1 y0 U d (q - 1) (r + y1) := by
  have hm : (U * B + d) / (y1 * B + y0) < q := by
    rcases h with h | h
    · exact Nat.lt_of_lt_of_le (digit_lt hU hd) h
    · have : ¬ q * (y1 * B + y0) ≤ U * B + d := fun x => by have := g.over.1 x; omega
      exact (Nat.div_lt_iff_lt_mul hp).2 (by omega)
  have h0 : 0 < q := Nat.lt_of_le_of_lt (Nat.zero_le _) hm
  refine ⟨h0, ?_, Nat.le_sub_one_of_lt hm⟩
  obtain ⟨p, rfl⟩ : ∃ p, q = p + 1 := ⟨q - 1, by omega⟩
  have e := g.e
  rw [Nat.add_mul, Nat.one_mul] at e
  show (p + 1 - 1) * y1 + (r + y1) = U
  rw [Nat.add_sub_cancel]
  omega
theorem Gs.done (g : Gs B y1 y0 U d q r) (hp : 0 < y1 * B + y0) (h : q * y0 ≤ B * r + d) : q = (U * B + d) / (y1 * B + y0) :=
  Nat.le_antisymm ((Nat.le_div_iff_mul_le hp).2 (g.over.2 h)) g.m
theorem Gs.broke (g : Gs B y1 y0 U d q r) (hp : 0 < y1 * B + y0) (hU : U < y1 * B + y0) (h0 : y0 < B) (hr : B ≤ r) (hB : 0 < B) : q = (U * B + d) / (y1 * B + y0) := by
  have hq : q < B := by
    rcases Nat.lt_or_ge q B with k | k
    · exact k
    · exfalso
      have := Nat.mul_le_mul_right y1 k
      rw [Nat.mul_comm B y1] at this
      have e := g.e
      omega
  refine g.done hp ?_
  have a : q * y0 ≤ B * B := Nat.mul_le_mul (Nat.le_of_lt hq) (Nat.le_of_lt h0)
  have b : B * B ≤ B * r := Nat.mul_le_mul_left B hr
  omega
end
/-- What the digits leave, put together. -/
theorem two_digits {B y U d1 d0 : Nat} (hB : 0 < B) (hy : 0 < y) (hd : d0 < B) :
    (U * (B * B) + (d1 * B + d0)) / y = (U * B + d1) / y * B + ((U * B + d1) % y * B + d0) / y ∧
    (U * (B * B) + (d1 * B + d0)) % y = ((U * B + d1) % y * B + d0) % y := by
  have h := Nat.div_add_mod (U * B + d1) y
  generalize (U * B + d1) / y = q at h ⊢
  generalize (U * B + d1) % y = r at h ⊢
  have e : U * (B * B) + (d1 * B + d0) = r * B + d0 + y * (q * B) := by
    rw [← Nat.mul_assoc, ← Nat.mul_assoc, ← Nat.add_assoc, ← Nat.add_mul, ← h, Nat.add_mul]
    omega
  rw [e]
  constructor
  · rw [Nat.add_mul_div_left _ _ hy]; omega
  · rw [Nat.add_mul_mod_self_left]
/-- A quotient stays where both are times a number; the rest is times it. -/
theorem scaled {X y p : Nat} (hp : 0 < p) : (X * p) / (y * p) = X / y ∧ (X * p) % (y * p) / p = X % y := by
  constructor
  · exact Nat.mul_div_mul_right _ _ hp
  · rw [Nat.mul_mod_mul_right, Nat.mul_div_cancel _ hp]
end Go.Proofs.YtkpignbmocpcaaaGreat.Dv
