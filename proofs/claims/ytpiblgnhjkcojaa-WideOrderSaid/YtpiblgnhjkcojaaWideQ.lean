/-
  Plain facts on digits by ten: numbers stand in the order in which their digits do, the longer ones behind the shorter ones.
-/
import Derived.Test.YtpiblgnhjkcojaaWideF
namespace Go.Proofs.Ytpiblgnhjkcojaa
set_option linter.unusedVariables false

def by8 (n : Int) : UInt8 := UInt8.ofNat n.toNat
theorem p10 (k : Nat) : (0 : Int) < 10 ^ k := Int.pow_pos (by decide)
theorem emod_succ (a : Int) (k : Nat) : a % 10 ^ (k + 1) = 10 ^ k * (a / 10 ^ k % 10) + a % 10 ^ k := by
  have hp := p10 k
  rw [Int.pow_succ, Int.emod_def a (10 ^ k * 10), ← Int.ediv_ediv_of_nonneg (Int.le_of_lt hp), Int.emod_def a (10 ^ k), Int.emod_def (a / 10 ^ k) 10, Int.mul_sub, ← Int.mul_assoc]
  generalize 10 ^ k * (a / 10 ^ k) = x
  generalize 10 ^ k * 10 * (a / 10 ^ k / 10) = y
  omega
theorem by8_lt (x y : Int) (hx : 0 ≤ x) (hxy : x < y) (hy : y ≤ 255) : by8 x < by8 y := by
  rw [UInt8.lt_iff_toNat_lt]
  unfold by8
  rw [UInt8.toNat_ofNat', UInt8.toNat_ofNat']
  omega
theorem less_dec : ∀ (k : Nat) (a b : Int), a % 10 ^ k < b % 10 ^ k → Op.bytesLess ((decK k a).map by8) ((decK k b).map by8) = true
  | 0, a, b => by intro h; exfalso; simp only [Int.pow_zero] at h; omega
  | k + 1, a, b => by
    intro h
    rw [emod_succ a k, emod_succ b k] at h
    have hp := p10 k
    have ra0 := Int.emod_nonneg a (Int.ne_of_gt hp)
    have ra1 := Int.emod_lt_of_pos a hp
    have rb0 := Int.emod_nonneg b (Int.ne_of_gt hp)
    have rb1 := Int.emod_lt_of_pos b hp
    have ha0 : 0 ≤ a / 10 ^ k % 10 := by omega
    have hb0 : b / 10 ^ k % 10 < 10 := by omega
    simp only [decK, List.map_cons, Op.bytesLess]
    rcases Int.lt_trichotomy (a / 10 ^ k % 10) (b / 10 ^ k % 10) with q | q | q
    · have := by8_lt (48 + a / 10 ^ k % 10) (48 + b / 10 ^ k % 10) (by omega) (by omega) (by omega)
      simp [this]
    · rw [q]
      have i := less_dec k a b (by rw [q] at h; omega)
      simp [i]
    · exfalso
      have m : 10 ^ k * (b / 10 ^ k % 10 + 1) ≤ 10 ^ k * (a / 10 ^ k % 10) := Int.mul_le_mul_of_nonneg_left (by omega) (Int.le_of_lt hp)
      rw [Int.mul_add, Int.mul_one] at m
      omega
theorem less_not : ∀ x y : List UInt8, Op.bytesLess x y = true → Op.bytesLess y x = false ∧ (y == x) = false
  | [], [], h => by simp [Op.bytesLess] at h
  | _ :: _, [], h => by simp [Op.bytesLess] at h
  | [], _ :: _, _ => by simp [Op.bytesLess]
  | a :: x, b :: y, h => by
    simp only [Op.bytesLess, Bool.or_eq_true, decide_eq_true_eq, Bool.and_eq_true, beq_iff_eq] at h
    rcases h with h | ⟨rfl, h⟩
    · have n1 : ¬ b < a := fun q => by rw [UInt8.lt_iff_toNat_lt] at h q; omega
      have n2 : ¬ b = a := fun q => by subst q; rw [UInt8.lt_iff_toNat_lt] at h; omega
      simp [Op.bytesLess, n1, n2]
    · obtain ⟨i, j⟩ := less_not x y h
      have n1 : ¬ a < a := fun q => by rw [UInt8.lt_iff_toNat_lt] at q; omega
      simp only [beq_eq_false_iff_ne, ne_eq] at j
      simp [Op.bytesLess, n1, i, j]
theorem lt_of_div (v : Int) (k : Nat) (h0 : 0 ≤ v) (h : v / 10 ^ k = 0) : v < 10 ^ k := by
  have hp := p10 k
  have := Int.emod_add_mul_ediv v (10 ^ k)
  rw [h, Int.mul_zero, Int.add_zero] at this
  have := Int.emod_lt_of_pos v hp
  omega
theorem ge_of_div (v : Int) (k : Nat) (h0 : 0 ≤ v) (h : v / 10 ^ k ≠ 0) : 10 ^ k ≤ v := by
  rcases Int.lt_or_le v (10 ^ k) with q | q
  · exact absurd (Int.ediv_eq_zero_of_lt h0 q) h
  · exact q
theorem pow_le (m n : Nat) (h : m ≤ n) : (10 : Int) ^ m ≤ 10 ^ n := by
  obtain ⟨d, rfl⟩ := Nat.exists_eq_add_of_le h
  rw [Int.pow_add]
  have h1 := p10 m
  have h2 := p10 d
  have : 10 ^ m * 1 ≤ (10 : Int) ^ m * 10 ^ d := Int.mul_le_mul_of_nonneg_left (by omega) (Int.le_of_lt h1)
  omega
/-- Of two numbers the lesser one has fewer digits, or as many, of which the first other one is less. -/
theorem dec_order (a b : Int) (h0 : 0 ≤ a) (h : a < b) (ka kb : Nat) (a1 : 1 ≤ ka) (b1 : 1 ≤ kb) (a3 : a / 10 ^ ka = 0) (a4 : ka = 1 ∨ a / 10 ^ (ka - 1) ≠ 0) (b3 : b / 10 ^ kb = 0) :
    ka < kb ∨ ka = kb ∧ Op.bytesLess ((decK ka a).map by8) ((decK kb b).map by8) = true := by
  have l1 := lt_of_div a ka h0 a3
  have l2 := lt_of_div b kb (by omega) b3
  rcases Nat.lt_trichotomy ka kb with q | q | q
  · exact Or.inl q
  · subst q
    refine Or.inr ⟨rfl, less_dec ka a b ?_⟩
    rw [Int.emod_eq_of_lt h0 l1, Int.emod_eq_of_lt (by omega) l2]
    exact h
  · exfalso
    rcases a4 with e | e
    · omega
    · have g := ge_of_div a (ka - 1) h0 e
      have := pow_le kb (ka - 1) (by omega)
      omega
theorem str_toList (xs : List Int) : (strOfNums xs).toList = xs.map by8 := by rw [ByteArray.toList_eq]; exact strOfNums_data xs
theorem str_size (k : Nat) (v : Int) : (strOfNums (decK k v)).size = k := by rw [strOfNums_size, decK_length]
end Go.Proofs.Ytpiblgnhjkcojaa
