/-
  What the call Words of package gfp answers: the product of two words, its high word and its low one, for all words.
-/
import Derived.Test.YtfnfjfmkhnofkaaGfpA
import Derived.Outline
import Derived.WalkMore
import Derived.Deep.LoopGhost
namespace Go.Proofs.Ytfnfjfmkhnofkaa
open Go.RowKit G
set_option linter.unusedVariables false

theorem and1 (r : Nat) (h : r < 18446744073709551616) : bits .and .u64 (r : Int) 1 = ((r % 2 : Nat) : Int) := by
  have := u64_and_nat r 1 h (by decide)
  rw [Nat.and_one_is_mod] at this
  exact this
theorem div_int (b k : Nat) : (b : Int) / 2 ^ k = ((b / 2 ^ k : Nat) : Int) := by rw [Int.natCast_ediv, Int.natCast_pow]; rfl
theorem mul_int (b k : Nat) : (b : Int) * 2 ^ k = ((b * 2 ^ k : Nat) : Int) := by rw [Int.natCast_mul, Int.natCast_pow]; rfl
theorem xor_int (x y : Nat) (hx : x < 18446744073709551616) (hy : y < 18446744073709551616) : bits .xor .u64 (x : Int) (y : Int) = ((x ^^^ y : Nat) : Int) := u64_xor_nat x y hx hy
theorem wrap_nat (n : Nat) : IntKind.u64.wrap (n : Int) = ((n % 18446744073709551616 : Nat) : Int) := by simp [IntKind.wrap, IntKind.bits, IntKind.signed]
theorem bit_mod (b k : Nat) : b.testBit k = decide (b / 2 ^ k % 2 = 1) := Nat.testBit_eq_decide_div_mod_eq

theorem words_same (a b k : Nat) (h : b / 2 ^ k % 2 = 0) : clm a (b % 2 ^ (k + 1)) = clm a (b % 2 ^ k) := by
  rw [parts_step, bit_mod, h]; simp
theorem words_more (a b k : Nat) (h : ¬ b / 2 ^ k % 2 = 0) (hk : k < 64) : clm a (b % 2 ^ (k + 1)) / 18446744073709551616 = clm a (b % 2 ^ k) / 18446744073709551616 ^^^ a / 2 ^ (64 - k) ∧
    clm a (b % 2 ^ (k + 1)) % 18446744073709551616 = clm a (b % 2 ^ k) % 18446744073709551616 ^^^ a * 2 ^ k % 18446744073709551616 := by
  have e : b.testBit k = true := by rw [bit_mod]; simp; omega
  rw [parts_step, if_pos e, show (18446744073709551616 : Nat) = 2 ^ 64 from rfl]
  exact ⟨by rw [xor_div, div_shift _ _ _ (by omega)], xor_mod _ _ _⟩

end Go.Proofs.Ytfnfjfmkhnofkaa
