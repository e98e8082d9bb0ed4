/-
  Lists of bits as numbers, and what Of, List and Right of the reference of layer 1 answer, said of numbers.
-/
import Derived.Test.YtfnfjfmkhnofkaaWideTd
import Derived.Test.YtfnfjfmkhnofkaaWideN
namespace Go.Proofs.Ytfnfjfmkhnofkaa.Wd
open Go.RowKit
set_option linter.unusedVariables false

theorem pw2 (k : Nat) : (0 : Int) < 2 ^ k := Int.pow_pos (by decide)
theorem leB_append : ∀ (xs ys : List Int), leB (xs ++ ys) = leB xs + 2 ^ xs.length * leB ys
  | [], ys => by simp [leB]
  | x :: xs, ys => by
    simp only [List.cons_append, leB, List.length_cons, leB_append xs ys, Int.pow_succ]
    rw [Int.mul_add, ← Int.mul_assoc, Int.mul_comm 2 (2 ^ xs.length)]
    omega
theorem leB_bitsK : ∀ (k : Nat) (v : Int), leB (bitsK k v) = v % 2 ^ k
  | 0, v => by simp [bitsK, leB]
  | k + 1, v => by
    have hp := pw2 k
    rw [bitsK, leB_append, leB_bitsK k v, bitsK_length, Int.pow_succ]
    simp only [leB]
    rw [Int.emod_def v (2 ^ k * 2), ← Int.ediv_ediv_of_nonneg (Int.le_of_lt hp), Int.emod_def v (2 ^ k), Int.emod_def (v / 2 ^ k) 2, Int.mul_add, Int.mul_sub, ← Int.mul_assoc (2 ^ k) 2]
    generalize 2 ^ k * (v / 2 ^ k) = x
    generalize 2 ^ k * 2 * (v / 2 ^ k / 2) = y
    omega
theorem leB_split (xs : List Int) (h : AreBits xs) (k : Nat) : leB (xs.take k) = leB xs % 2 ^ k ∧ leB (xs.drop k) = leB xs / 2 ^ k := by
  have hp := pw2 k
  by_cases hk : k ≤ xs.length
  · have e := leB_append (xs.take k) (xs.drop k)
    rw [List.take_append_drop] at e
    obtain ⟨b1, b2⟩ := leB_bd _ (h.take k)
    have el : (xs.take k).length = k := by simp; omega
    rw [el] at e b2
    constructor
    · rw [e, Int.add_mul_emod_self_left, Int.emod_eq_of_lt b1 b2]
    · rw [e, Int.add_mul_ediv_left _ _ (Int.ne_of_gt hp), Int.ediv_eq_zero_of_lt b1 b2, Int.zero_add]
  · rw [List.take_of_length_le (by omega), List.drop_eq_nil_of_le (by omega)]
    obtain ⟨b1, b2⟩ := leB_bd _ h
    have : (2 : Int) ^ xs.length ≤ 2 ^ k := by
      obtain ⟨d, hd⟩ := Nat.exists_eq_add_of_le (show xs.length ≤ k from by omega)
      rw [hd, Int.pow_add]
      have h1 := pw2 xs.length
      have h2 := pw2 d
      have := Int.mul_le_mul_of_nonneg_left (show (1 : Int) ≤ 2 ^ d from by omega) (Int.le_of_lt h1)
      omega
    exact ⟨(Int.emod_eq_of_lt b1 (by omega)).symm, (Int.ediv_eq_zero_of_lt b1 (by omega)).symm⟩
theorem e64 : (2 : Int) ^ 64 = 18446744073709551616 := by decide +kernel

theorem rOfN (b off cap : Nat) (xs : List Int) (hb : AreBits xs) (hn : xs.length ≤ 1000) (w : World) (hlt : b < w.heap.size) (hc : Ints w b off xs) :
    Calls Try.prog 39 #[.slice (some ⟨b, off, none⟩) xs.length cap] w (N1 (md (leB xs)) w) := by
  refine (rOf b off cap xs hb hn w hlt hc).mono ?_
  rintro e w' ⟨h, l, ⟨rfl, rfl⟩, rfl, hb'⟩
  refine ⟨?_, hb'⟩
  have e1 : leB ((xs.drop 64).take 64) = hi (md (leB xs)) := by
    rw [(leB_split _ (hb.drop 64) 64).1, (leB_split xs hb 64).2, e64]
    unfold hi md
    omega
  have e2 : leB ((xs.drop 0).take 64) = lo (md (leB xs)) := by
    rw [List.drop_zero, (leB_split xs hb 64).1, e64]
    unfold lo md
    omega
  rw [e1, e2]

/-- The 128 bits of a number. -/
def bits128 (n : Int) : List Int := bitsK 64 (lo n) ++ bitsK 64 (hi n)
theorem bits128_length (n : Int) : (bits128 n).length = 128 := by simp [bits128, bitsK_length]
theorem bits128_bits (n : Int) : AreBits (bits128 n) := by
  intro x hx
  rcases List.mem_append.1 hx with h | h
  · exact bitsK_bits _ _ x h
  · exact bitsK_bits _ _ x h
theorem bits128_val (n : Int) (h : Rng n) : leB (bits128 n) = n := by
  have b1 := hi0 h
  have b2 := hi1 h
  have b3 := lo0 n
  have b4 := lo1 n
  rw [bits128, leB_append, leB_bitsK, leB_bitsK, bitsK_length, e64]
  have := hilo n
  omega
theorem rListN (n : Int) (xs : List Int) (hx : bits128 n = xs) (h : Rng n) (w : World) :
    Calls Try.prog 31 #[.agg #[.int .u64 (hi n), .int .u64 (lo n)]] w (RowAt xs w) := by
  subst hx
  exact rList (hi n) (lo n) (hi0 h) (hi1 h) (lo0 n) (lo1 n) w
end Go.Proofs.Ytfnfjfmkhnofkaa.Wd
