/-
  The mathematics of numbers below a bound: which words are taken and tell a number stand in a row, and are just as many for each number.
-/
import Derived.Test.YtkpignbmocpcaaaGreatRows
namespace Go.Proofs.YtkpignbmocpcaaaGreat
set_option linter.unusedVariables false

/-- What a word tells by a bound, the words being those below N; whether it is taken; the first and the last one that tell v. -/
def tellB (N x b : Nat) : Nat := x * b / N
def takenB (N x b : Nat) : Bool := decide (N % b ≤ x * b % N)
def lowB (N v b : Nat) : Nat := (v * N + N % b + (b - 1)) / b
def highB (N v b : Nat) : Nat := (v * N + (N - 1)) / b
theorem tell_lt {N x b : Nat} (hx : x < N) (hb : 0 < b) : tellB N x b < b := by
  unfold tellB
  refine Nat.div_lt_of_lt_mul ?_
  exact Nat.mul_lt_mul_of_lt_of_le hx (Nat.le_refl b) hb
theorem rest_eq {N b : Nat} (hN : 0 < N) (hb : 0 < b) : ((N - 1) % b + 1) % b = N % b := by
  rw [Nat.mod_add_mod, Nat.sub_add_cancel hN]
theorem le_div {a b c : Nat} (hb : 0 < b) : (a + (b - 1)) / b ≤ c ↔ a ≤ c * b := by
  have h := Nat.div_add_mod (a + (b - 1)) b
  have l := Nat.mod_lt (a + (b - 1)) hb
  generalize (a + (b - 1)) / b = q at h ⊢
  generalize (a + (b - 1)) % b = r at h l
  constructor
  · intro hq
    have := Nat.mul_le_mul_right b hq
    rw [Nat.mul_comm b q] at h
    omega
  · intro ha
    rcases Nat.lt_or_ge c q with k | k
    · exfalso
      have := Nat.mul_le_mul_right b (show c + 1 ≤ q from k)
      rw [Nat.add_mul, Nat.one_mul] at this
      rw [Nat.mul_comm b q] at h
      omega
    · exact k
theorem div_le {a b c : Nat} (hb : 0 < b) : c ≤ a / b ↔ c * b ≤ a := Nat.le_div_iff_mul_le hb
/-- The words that are taken and tell v stand in a row. -/
theorem row_iff {N x v b : Nat} (hN : 0 < N) (hb : 0 < b) : (takenB N x b = true ∧ tellB N x b = v) ↔ (lowB N v b ≤ x ∧ x ≤ highB N v b) := by
  unfold takenB tellB lowB highB
  rw [le_div hb, div_le hb, decide_eq_true_iff]
  have h := Nat.div_add_mod (x * b) N
  have l := Nat.mod_lt (x * b) hN
  generalize x * b = X at h l ⊢
  generalize X % N = m at h l ⊢
  constructor
  · rintro ⟨h1, rfl⟩
    rw [Nat.mul_comm N] at h
    omega
  · rintro ⟨h1, h2⟩
    have e : X / N = v := by
      rcases Nat.lt_trichotomy (X / N) v with k | k | k
      · exfalso
        have := Nat.mul_le_mul_right N (show X / N + 1 ≤ v from k)
        rw [Nat.add_mul, Nat.one_mul] at this
        rw [Nat.mul_comm N] at h
        omega
      · exact k
      · exfalso
        have := Nat.mul_le_mul_right N (show v + 1 ≤ X / N from k)
        rw [Nat.add_mul, Nat.one_mul] at this
        rw [Nat.mul_comm N] at h
        omega
    rw [e, Nat.mul_comm N] at h
    exact ⟨by omega, e⟩
/-- They are as many as N by b, down. -/
theorem row_many {N v b : Nat} (hb : 0 < b) (hN : b ≤ N) : lowB N v b + N / b = highB N v b + 1 := by
  unfold lowB highB
  have h := Nat.div_add_mod N b
  have hq : 0 < N / b := Nat.div_pos hN hb
  generalize hq' : N / b = q at h hq ⊢
  generalize N % b = r at h ⊢
  obtain ⟨p, rfl⟩ : ∃ p, q = p + 1 := ⟨q - 1, by omega⟩
  have e : v * N + (N - 1) = v * N + r + (b - 1) + b * p := by
    rw [Nat.mul_add, Nat.mul_one] at h
    omega
  rw [e, Nat.add_mul_div_left _ _ hb]
  omega
theorem high_lt {N v b : Nat} (hN : 0 < N) (hv : v < b) : highB N v b < N := by
  unfold highB
  refine Nat.div_lt_of_lt_mul ?_
  have := Nat.mul_le_mul_right N (show v + 1 ≤ b from hv)
  rw [Nat.add_mul, Nat.one_mul] at this
  omega
theorem many_le (N b : Nat) : N / b * b ≤ N := Nat.div_mul_le_self N b
theorem many_gt {N b : Nat} (hb : 0 < b) : N < N / b * b + b := by
  have h := Nat.div_add_mod N b
  have l := Nat.mod_lt N hb
  rw [Nat.mul_comm] at h
  omega
/-- For each number there are such words. -/
theorem low_le_high {N v b : Nat} (hb : 0 < b) (hN : b ≤ N) : lowB N v b ≤ highB N v b := by
  have h := row_many (v := v) hb hN
  have hq : 0 < N / b := Nat.div_pos hN hb
  omega
end Go.Proofs.YtkpignbmocpcaaaGreat
