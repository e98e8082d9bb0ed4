/-
  Spans, as mathematics: how many places below a number are told by a test; what lists of spans cover; when they are apart; those that stand there twice.
-/
import Derived.Lib.Hide
namespace Go.Proofs.Ytolicfackceomaa.Mt

/-- How many numbers below N a test tells. -/
def cnt (p : Nat → Bool) : Nat → Nat
  | 0 => 0
  | n + 1 => cnt p n + (if p n then 1 else 0)
theorem cnt_le (p : Nat → Bool) : ∀ n, cnt p n ≤ n
  | 0 => Nat.le_refl _
  | n + 1 => by have := cnt_le p n; unfold cnt; split <;> omega
theorem cnt_congr {p q : Nat → Bool} : ∀ n, (∀ i, i < n → p i = q i) → cnt p n = cnt q n
  | 0, _ => rfl
  | n + 1, h => by unfold cnt; rw [cnt_congr n (fun i hi => h i (by omega)), h n (by omega)]
theorem cnt_mono {p q : Nat → Bool} : ∀ n, (∀ i, i < n → p i = true → q i = true) → cnt p n ≤ cnt q n
  | 0, _ => Nat.le_refl _
  | n + 1, h => by
    have := cnt_mono n (fun i hi => h i (by omega))
    have k := h n (by omega)
    unfold cnt
    cases hp : p n <;> cases hq : q n <;> simp_all <;> omega
theorem cnt_none {p : Nat → Bool} (n : Nat) (h : ∀ i, i < n → p i = false) : cnt p n = 0 := by
  rw [cnt_congr (q := fun _ => false) n h]
  induction n with
  | zero => rfl
  | succ n ih => unfold cnt; rw [ih (fun i hi => h i (by omega))]; rfl
/-- Tests that never both hold: the numbers add up. -/
theorem cnt_or {p q : Nat → Bool} : ∀ n, (∀ i, i < n → p i = true → q i = true → False) → cnt (fun i => p i || q i) n = cnt p n + cnt q n
  | 0, _ => rfl
  | n + 1, h => by
    have := cnt_or n (fun i hi => h i (by omega))
    have k := h n (by omega)
    unfold cnt
    cases hp : p n <;> cases hq : q n <;> simp_all <;> omega
/-- Each number is told by one and not the other, or by both. -/
theorem cnt_or_le (p q : Nat → Bool) : ∀ n, cnt (fun i => p i || q i) n ≤ cnt p n + cnt q n
  | 0 => Nat.le_refl _
  | n + 1 => by
    have := cnt_or_le p q n
    unfold cnt
    cases hp : p n <;> cases hq : q n <;> simp_all <;> omega
/-- Where the numbers add up, no number is told by both. -/
theorem cnt_or_eq {p q : Nat → Bool} : ∀ n, cnt (fun i => p i || q i) n = cnt p n + cnt q n → ∀ i, i < n → p i = true → q i = true → False
  | 0, _, i, hi => absurd hi (Nat.not_lt_zero _)
  | n + 1, h, i, hi => by
    have := cnt_or_le p q n
    unfold cnt at h
    intro a b
    have e : cnt (fun i => p i || q i) n = cnt p n + cnt q n := by
      cases hp : p n <;> cases hq : q n <;> simp_all <;> omega
    by_cases hn : i = n
    · subst hn
      simp [a, b] at h
      omega
    · exact cnt_or_eq n e i (by omega) a b
theorem cnt_below (a b : Nat) (hab : a ≤ b) : ∀ n, b ≤ n → cnt (fun i => decide (a ≤ i ∧ i < b)) n = b - a := by
  intro n
  induction n generalizing b with
  | zero => intro h; unfold cnt; omega
  | succ n ih =>
    intro h
    unfold cnt
    by_cases hb : b ≤ n
    · rw [ih b hab hb, if_neg (by simp; omega)]; rfl
    · have : b = n + 1 := by omega
      subst this
      by_cases ha : a ≤ n
      · rw [cnt_congr (q := fun i => decide (a ≤ i ∧ i < n)) n (fun i hi => decide_eq_decide.2 (by omega)), ih n ha (Nat.le_refl _), if_pos (by simp; omega)]
        omega
      · rw [cnt_none n (fun i hi => decide_eq_false (by omega)), if_neg (by simp; omega)]
        omega
end Go.Proofs.Ytolicfackceomaa.Mt
