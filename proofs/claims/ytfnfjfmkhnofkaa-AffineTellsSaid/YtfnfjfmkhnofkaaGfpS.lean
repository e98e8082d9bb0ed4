/-
  What math/bits.Len64 answers in this program: the library's contract at this program's numbers.
-/
import Derived.Shelf.Small.Bits
import Derived.Shelf.Strconv.Itoa0
import Derived.Test.YtfnfjfmkhnofkaaProg
import Derived.Test.YtfnfjfmkhnofkaaGfpM
namespace Go.Proofs.Ytfnfjfmkhnofkaa
open Go.Shelf G

theorem len_half {n : Nat} (h : n ≠ 0) : len n = 1 + len (n / 2) := by
  by_cases h2 : n / 2 = 0
  · obtain rfl : n = 1 := by omega
    rfl
  · have e := len_two h2
    rcases Nat.mod_two_eq_zero_or_one n with m | m
    · rw [show 2 * (n / 2) = n from by omega] at e; omega
    · have : len (2 * (n / 2) + 1) = len (2 * (n / 2)) := by
        rw [odd_xor, len_xor_lt]
        rw [e]
        have := len_pos h2
        show len 1 < _
        have : len 1 = 1 := rfl
        omega
      rw [show 2 * (n / 2) + 1 = n from by omega] at this
      omega
theorem bitLen_len (x : Nat) : x < 2 ^ 64 → Lib.bitLen x = len x := by
  induction x using Nat.strongRecOn with
  | _ x ih =>
    intro hx
    by_cases h : x = 0
    · subst h; rfl
    · rw [Lib.bitLen_half x h hx, len_half h, ih (x / 2) (by omega) (by omega)]
end Go.Proofs.Ytfnfjfmkhnofkaa
