/-
  For what package affine calls: differences and halves of numbers, numbers and maps that are compared; the rounds that make what makes an odd number 1; powers from the lowest bit on.
-/
import Derived.Test.YthnmekieanndgaaAffXb
namespace Go.Proofs.Ythnmekieanndgaa
open Go.RowKit G
set_option linter.unusedVariables false
set_option maxRecDepth 100000

theorem cSub128 {a b c d : Int} {M N : Nat} (i : Wn a b M) (j : Wn c d N) (w : World) :
    Calls Try.prog 43 #[.agg #[.int .u64 a, .int .u64 b], .agg #[.int .u64 c, .int .u64 d]] w (AnsWB ((M + (Q - N)) % Q) (decide (M < N)) w) := by
  have h := Wd.wSub a b c d i.h0 i.h1 i.l0 i.l1 j.h0 j.h1 j.l0 j.l1 w
  rw [i.eq, j.eq] at h
  have lM := i.lt
  have lN := j.lt
  refine h.mono ?_
  rintro e w' ⟨x, y, z, ⟨k, hz⟩, rfl, hb⟩
  obtain ⟨rfl, rfl⟩ := (wn_is (N := (M + (340282366920938463463374607431768211456 - N)) % 340282366920938463463374607431768211456) k (by omega)).of
  refine ⟨?_, hb⟩
  rw [hz]
  have : decide ((M : Int) < (N : Int)) = decide (M < N) := decide_eq_decide.2 (by omega)
  rw [this]
theorem cRight1 {a b : Int} {M : Nat} (i : Wn a b M) (w : World) : Calls Try.prog 47 #[.agg #[.int .u64 a, .int .u64 b], .int .i64 1] w (AnsW (M / 2) w) := by
  have h := Wd.wRight a b 1 i.h0 i.h1 i.l0 i.l1 w
  rw [i.eq] at h
  refine h.mono ?_
  rintro e w' ⟨x, y, k, rfl, hb⟩
  exact ansW_of (wn_is k (by rw [show (2 : Int) ^ (1 : Int).toNat = 2 from rfl]; omega)) hb
/-- Numbers, and maps, that are compared. -/
theorem eqUv (a b c d : Int) (r : Bool) (hr : r = decide (a = c ∧ b = d)) (w : World) : Sem.run Try.prog (Op.equalIn 10000 24 (.agg #[.int .u64 a, .int .u64 b]) (.agg #[.int .u64 c, .int .u64 d])) w = .ok r w := by
  subst hr
  by_cases h1 : a = c <;> by_cases h2 : b = d
  · subst h1 h2
    have := eqU a b w
    simpa using this
  · subst h1
    have e : (b == d) = false := by simpa using h2
    simp only [h2, and_false, decide_false]
    go_simp
  · have e : (a == c) = false := by simpa using h1
    simp only [h1, false_and, decide_false]
    go_simp
  · have e : (a == c) = false := by simpa using h1
    simp only [h1, false_and, decide_false]
    go_simp
/-- The rounds of Odd: so many of the lowest bits are right. -/
structure OddIs (n r b : Nat) : Prop where
  lt : b < Q
  dv : (2 ^ r : Int) ∣ (n : Int) * (b : Int) - 1
def nextOdd (n b : Nat) : Nat := b * ((2 + (Q - n * b % Q)) % Q) % Q
theorem odd_start {n : Nat} (h : n % 2 = 1) (l : n < Q) : OddIs n 3 n := by
  refine ⟨l, ?_⟩
  obtain ⟨j, rfl⟩ : ∃ j, n = 2 * j + 1 := ⟨n / 2, by omega⟩
  rcases Nat.mod_two_eq_zero_or_one j with e | e
  · obtain ⟨i, rfl⟩ : ∃ i, j = 2 * i := ⟨j / 2, by omega⟩
    exact ⟨(2 * i * i + i : Nat), by push_cast; grind⟩
  · obtain ⟨i, rfl⟩ : ∃ i, j = 2 * i + 1 := ⟨j / 2, by omega⟩
    exact ⟨(2 * i * i + 3 * i + 1 : Nat), by push_cast; grind⟩
theorem odd_next {n r r' b : Nat} (h : OddIs n r b) (h1 : r' ≤ 2 * r) (h2 : r' ≤ 128) : OddIs n r' (nextOdd n b) := by
  refine ⟨Nat.mod_lt _ (by decide), ?_⟩
  have hx : n * b % Q < Q := Nat.mod_lt _ (by decide)
  obtain ⟨f, hf⟩ : ∃ f, (2 + (Q - n * b % Q)) % Q = f := ⟨_, rfl⟩
  have e1 := Nat.div_add_mod (n * b) Q
  have e2 := Nat.div_add_mod (2 + (Q - n * b % Q)) Q
  have e3 := Nat.div_add_mod (b * f) Q
  obtain ⟨c, hc⟩ : ∃ c, b * f % Q = c := ⟨_, rfl⟩
  unfold nextOdd
  rw [hf, hc]
  rw [hf] at e2
  rw [hc] at e3
  generalize b * f / Q = k3 at e3
  generalize (2 + (Q - n * b % Q)) / Q = k2 at e2
  generalize n * b / Q = k1 at e1
  generalize n * b % Q = x at e1 e2 hx
  have dq : (2 ^ r' : Int) ∣ (Q : Int) := by
    refine ⟨((2 ^ (128 - r') : Nat) : Int), ?_⟩
    rw [show (Q : Nat) = 2 ^ r' * 2 ^ (128 - r') by rw [← Nat.pow_add, show r' + (128 - r') = 128 by omega]]
    push_cast
    rfl
  have d2 : (2 ^ r' : Int) ∣ ((n : Int) * (b : Int) - 1) * ((n : Int) * (b : Int) - 1) := by
    have := Int.mul_dvd_mul h.dv h.dv
    rw [← Int.pow_add] at this
    exact Int.dvd_trans ⟨2 ^ (r + r - r'), by rw [← Int.pow_add, show r' + (r + r - r') = r + r by omega]⟩ this
  have i1 : (Q : Int) * (k1 : Int) + (x : Int) = (n : Int) * (b : Int) := by exact_mod_cast e1
  have i2 : (Q : Int) * (k2 : Int) + (f : Int) = 2 + ((Q : Int) - (x : Int)) := by omega
  have i3 : (Q : Int) * (k3 : Int) + (c : Int) = (b : Int) * (f : Int) := by exact_mod_cast e3
  clear e1 e2 e3 hf hc hx h
  generalize (Q : Int) = q at *
  have key : (n : Int) * (c : Int) - 1 = q * ((n : Int) * (b : Int) * (1 + k1 - k2) - (n : Int) * k3) - ((n : Int) * (b : Int) - 1) * ((n : Int) * (b : Int) - 1) := by
    have fe : (f : Int) = 2 + q * (1 + k1 - k2) - (n : Int) * (b : Int) := by grind
    have ce : (c : Int) = (b : Int) * (f : Int) - q * k3 := by grind
    rw [ce, fe]
    grind
  rw [key]
  exact Int.dvd_sub (Int.dvd_trans dq (Int.dvd_mul_right _ _)) d2
theorem odd_end {n b : Nat} (hn : n % 2 = 1) (h : OddIs n 128 b) : b = invQ n := by
  refine invQ_is hn h.lt ?_
  obtain ⟨k, e⟩ := h.dv
  have q : (2 : Int) ^ 128 = 340282366920938463463374607431768211456 := by decide
  rw [q] at e
  have : ((n * b : Nat) : Int) = 1 + 340282366920938463463374607431768211456 * k := by push_cast; omega
  show n * b % 340282366920938463463374607431768211456 = 1
  omega
/-- Powers, from the lowest bit on. -/
theorem pow_one_any (k : Nat) : powM Mp.one k = Mp.one := by
  have := pow_pow Mp.one 0 k
  rwa [pow_zero, Nat.zero_mul, pow_zero] at this
theorem pow_half {m : Mp} (h : m.Ok) (n : Nat) : powM m n = thenM (if n % 2 = 1 then m else Mp.one) (powM (thenM m m) (n / 2)) := by
  have e : thenM m m = powM m 2 := by
    have := pow_two m 1
    rwa [pow_one h] at this
  rw [e, pow_pow]
  by_cases o : n % 2 = 1
  · rw [if_pos o]
    have := pow_add m 1 (2 * (n / 2))
    rw [pow_one h] at this
    rw [this]
    congr 1
    omega
  · rw [if_neg o, one_then (powM_ok _ _)]
    congr 1
    omega
end Go.Proofs.Ythnmekieanndgaa
