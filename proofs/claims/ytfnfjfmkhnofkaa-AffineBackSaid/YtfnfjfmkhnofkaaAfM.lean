/-
  Maps that take x to a x + c, many times, by a power of 2: which numbers of times lead to the same. Plain mathematics; nothing of the program.
-/
import Derived.Test.YtfnfjfmkhnofkaaGfpM
namespace Go.Proofs.Ytfnfjfmkhnofkaa.A
set_option linter.unusedVariables false

/-- 1 and a and so on, so many. -/
def sg (a : Nat) : Nat → Nat
  | 0 => 0
  | n + 1 => sg a n * a + 1
theorem sg_add (a m n : Nat) : sg a (m + n) = sg a m * a ^ n + sg a n := by
  induction n with
  | zero => rw [Nat.pow_zero, Nat.mul_one, Nat.add_zero]; rfl
  | succ n ih => rw [← Nat.add_assoc, sg, ih, sg, Nat.pow_succ, Nat.add_mul, Nat.mul_assoc, Nat.add_assoc]
theorem sg_pow (b n : Nat) : (b + 1) ^ n = 1 + b * sg (b + 1) n := by
  induction n with
  | zero => rfl
  | succ n ih =>
    rw [Nat.pow_succ, ih, sg]
    generalize sg (b + 1) n = s
    grind
theorem sg_two (a k : Nat) : sg a (2 * k) = sg a k * (a ^ k + 1) := by
  rw [Nat.two_mul, sg_add, Nat.mul_add, Nat.mul_one]
theorem pow_mod4 {a : Nat} (h : a % 4 = 1) (n : Nat) : a ^ n % 4 = 1 := by
  induction n with
  | zero => rfl
  | succ n ih => rw [Nat.pow_succ, Nat.mul_mod, ih, h]
theorem pow_odd {a : Nat} (h : a % 2 = 1) (n : Nat) : a ^ n % 2 = 1 := by
  induction n with
  | zero => rfl
  | succ n ih => rw [Nat.pow_succ, Nat.mul_mod, ih, h]
theorem sg_odd {a : Nat} (h : a % 2 = 1) (n : Nat) : sg a n % 2 = n % 2 := by
  induction n with
  | zero => rfl
  | succ n ih => rw [sg, Nat.add_mod, Nat.mul_mod, ih, h, Nat.mul_one, Nat.mod_mod]; omega
theorem cop {x : Nat} (h : x % 2 = 1) (e : Nat) : Nat.Coprime (2 ^ e) x := by
  refine Nat.Coprime.pow_left e ?_
  rw [Nat.Coprime, Nat.gcd_rec, h]; rfl
/-- A power of 2 parts the sum just where it parts how many there are. -/
theorem sg_dvd {a : Nat} (h : a % 4 = 1) : ∀ e n, 2 ^ e ∣ sg a n ↔ 2 ^ e ∣ n := by
  have ho : a % 2 = 1 := by omega
  intro e
  induction e with
  | zero => intro n; rw [Nat.pow_zero]; exact ⟨fun _ => Nat.one_dvd _, fun _ => Nat.one_dvd _⟩
  | succ e ih =>
    intro n
    rcases Nat.mod_two_eq_zero_or_one n with z | z
    · obtain ⟨k, rfl⟩ : ∃ k, n = 2 * k := ⟨n / 2, by omega⟩
      obtain ⟨j, hj⟩ : ∃ j, a ^ k + 1 = 2 * (2 * j + 1) := ⟨(a ^ k - 1) / 4, by have := pow_mod4 h k; omega⟩
      rw [sg_two, hj, Nat.pow_succ, Nat.mul_comm (2 ^ e) 2, Nat.mul_left_comm, Nat.mul_dvd_mul_iff_left (by decide : 0 < 2), Nat.mul_dvd_mul_iff_left (by decide : 0 < 2)]
      rw [← ih k]
      exact ⟨fun d => Nat.Coprime.dvd_of_dvd_mul_right (cop (by omega) e) d, fun d => Nat.dvd_trans d (Nat.dvd_mul_right _ _)⟩
    · have o := sg_odd ho n
      have no : ∀ x, x % 2 = 1 → ¬ 2 ^ (e + 1) ∣ x := fun x hx d => by
        have : 2 ∣ x := Nat.dvd_trans (by rw [Nat.pow_succ]; exact Nat.dvd_mul_left _ _) d
        omega
      exact ⟨fun d => absurd d (no _ (by omega)), fun d => absurd d (no _ z)⟩
/-- The map, so many times: what x has become, not yet by the power of 2. -/
def aff (a c n x : Nat) : Nat := a ^ n * x + c * sg a n
theorem aff_zero (a c x : Nat) : aff a c 0 x = x := by unfold aff; rw [Nat.pow_zero, Nat.one_mul, sg, Nat.mul_zero, Nat.add_zero]
theorem aff_succ (a c n x : Nat) : aff a c (n + 1) x = a * aff a c n x + c := by
  unfold aff
  rw [Nat.pow_succ, sg, Nat.mul_add, Nat.mul_add, Nat.mul_one, Nat.mul_comm (a ^ n) a, Nat.mul_assoc, Nat.mul_comm (sg a n) a, Nat.mul_left_comm c a, Nat.add_assoc]
theorem aff_more (b c m k x : Nat) : aff (b + 1) c (m + k) x = aff (b + 1) c m x + (b + 1) ^ m * (sg (b + 1) k * (b * x + c)) := by
  unfold aff
  rw [Nat.pow_add, Nat.add_comm m k, sg_add, sg_pow b k]
  generalize (b + 1) ^ m = p
  generalize sg (b + 1) k = s
  generalize sg (b + 1) m = t
  grind
/-- Different numbers of times lead to the same just where their difference is parted by the power of 2. -/
theorem aff_same {a c : Nat} (e m k x : Nat) (h : a % 4 = 1) (hc : c % 2 = 1) : aff a c (m + k) x % 2 ^ e = aff a c m x % 2 ^ e ↔ 2 ^ e ∣ k := by
  obtain ⟨b, rfl⟩ : ∃ b, a = b + 1 := ⟨a - 1, by omega⟩
  have o1 := pow_odd (a := b + 1) (by omega) m
  have o2 : (b * x + c) % 2 = 1 := by
    have : b % 2 = 0 := by omega
    rw [Nat.add_mod, Nat.mul_mod, this, Nat.zero_mul, Nat.zero_mod, Nat.zero_add, Nat.mod_mod]; exact hc
  rw [aff_more, ← sg_dvd h e k]
  generalize aff (b + 1) c m x = y
  generalize (b + 1) ^ m = p at o1
  generalize b * x + c = q at o2
  generalize sg (b + 1) k = s
  have key : 2 ^ e ∣ p * (s * q) ↔ 2 ^ e ∣ s :=
    ⟨fun d => Nat.Coprime.dvd_of_dvd_mul_right (cop o2 e) (Nat.Coprime.dvd_of_dvd_mul_left (cop o1 e) d), fun d => Nat.dvd_trans (Nat.dvd_trans d (Nat.dvd_mul_right _ _)) (Nat.dvd_mul_left _ _)⟩
  rw [← key]
  constructor
  · intro z
    have := Nat.sub_mod_eq_zero_of_mod_eq z
    rw [Nat.add_sub_cancel_left] at this
    exact Nat.dvd_of_mod_eq_zero this
  · rintro ⟨j, hj⟩
    rw [hj, Nat.add_mul_mod_self_left]
/-- Two numbers of times below the power of 2 that lead to the same are one. -/
theorem aff_apart {a c : Nat} (e m n x : Nat) (h : a % 4 = 1) (hc : c % 2 = 1) (hm : m < 2 ^ e) (hn : n < 2 ^ e) (z : aff a c m x % 2 ^ e = aff a c n x % 2 ^ e) : m = n := by
  have aux : ∀ m n, m < n → n < 2 ^ e → aff a c m x % 2 ^ e = aff a c n x % 2 ^ e → False := fun m n hmn hn z => by
    obtain ⟨k, rfl⟩ : ∃ k, n = m + k := ⟨n - m, by omega⟩
    have := Nat.le_of_dvd (by omega) ((aff_same e m k x h hc).1 z.symm)
    omega
  rcases Nat.lt_trichotomy m n with l | l | l
  · exact (aux m n l hn z).elim
  · exact l
  · exact (aux n m l hm z.symm).elim
/-- A number of times counts by its rest alone. -/
theorem aff_rest {a c : Nat} (e n x : Nat) (h : a % 4 = 1) (hc : c % 2 = 1) : aff a c (n % 2 ^ e) x % 2 ^ e = aff a c n x % 2 ^ e := by
  have := (aff_same e (n % 2 ^ e) (2 ^ e * (n / 2 ^ e)) x h hc).2 (Nat.dvd_mul_right _ _)
  rw [Nat.mod_add_div] at this
  exact this.symm
/-- One behind the other. -/
theorem aff_add (a c m n x : Nat) : aff a c (m + n) x = aff a c m (aff a c n x) := by
  induction m with
  | zero => rw [Nat.zero_add, aff_zero]
  | succ m ih => rw [Nat.succ_add, aff_succ, ih, aff_succ]
end Go.Proofs.Ytfnfjfmkhnofkaa.A
