/-
  Lengths of numbers, for the statements of layer 3.
-/
import Derived.Test.YtkfebhfbdhdibaaGfdJ
namespace Go.Proofs.Ytkfebhfbdhdibaa
open Go.RowKit G
set_option linter.unusedVariables false

theorem len_clm_le (a b : Nat) : len (clm a b) ≤ len a + len b := len_le (clm_lt (len_lt a) (len_lt b))
theorem wlh {N : Nat} (h : len N ≤ 64 * 20) : Hid ((wordsOf N).length ≤ 20000) := Lib.hid (Nat.le_trans (wl_len h) (by decide))
theorem wlk {N : Nat} (h : len N ≤ 64 * 20) : Hid ((wordsOf N).length ≤ 50000) := Lib.hid (Nat.le_trans (wl_len h) (by decide))
end Go.Proofs.Ytkfebhfbdhdibaa
