/-
  What math/bits.Len64 answers in this program: the library's contract at this program's numbers.
-/
import Derived.Shelf.Small.Bits
import Derived.Shelf.Strconv.Itoa0
import Derived.Test.YtmhglbnoddimhaaProg
import Derived.Test.YtmhglbnoddimhaaGfpM
namespace Go.Proofs.Ytmhglbnoddimhaa
open Go.Shelf G

def ren : Ren := ⟨fun | 129 => 45 | n => n, fun | 53 => 24 | 3 => 3 | 4 => 4 | 46 => 85 | 5 => 5 | 9 => 9 | n => n, fun n => n⟩
theorem lays : Lays.n129 Try.prog ren := {
  mixed := by kernel_rfl
  f129 := Try.func45.trans (congrArg some (by kernel_rfl))
  t3 := Try.underlying3
  a3 := Try.isAgg3
  z3 := Try.sizeOf3
  v3 := Try.zeroValue3
  t4 := Try.underlying4
  a4 := Try.isAgg4
  z4 := Try.sizeOf4
  v4 := Try.zeroValue4
  t5 := Try.underlying5
  a5 := Try.isAgg5
  z5 := Try.sizeOf5
  v5 := Try.zeroValue5
  t9 := Try.underlying9
  a9 := Try.isAgg9
  z9 := Try.sizeOf9
  v9 := Try.zeroValue9
  t46 := Try.underlying85
  a46 := Try.isAgg85
  z46 := Try.sizeOf85
  v46 := Try.zeroValue85
  t53 := Try.underlying24
  a53 := Try.isAgg24
  z53 := Try.sizeOf24
  v53 := Try.zeroValue24 }
theorem len_half {n : Nat} (h : n ≠ 0) : len n = 1 + len (n / 2) := by
  by_cases h2 : n / 2 = 0
  · obtain rfl : n = 1 := by omega
    rfl
  · have e := len_two h2
    rcases Nat.mod_two_eq_zero_or_one n with m | m
    · rw [show 2 * (n / 2) = n from by omega] at e; omega
    · have : len (2 * (n / 2) + 1) = len (2 * (n / 2)) := by
        rw [odd_xor, len_xor_lt]
        rw [e]
        have := len_pos h2
        show len 1 < _
        have : len 1 = 1 := rfl
        omega
      rw [show 2 * (n / 2) + 1 = n from by omega] at this
      omega
theorem bitLen_len (x : Nat) : x < 2 ^ 64 → Lib.bitLen x = len x := by
  induction x using Nat.strongRecOn with
  | _ x ih =>
    intro hx
    by_cases h : x = 0
    · subst h; rfl
    · rw [Lib.bitLen_half x h hx, len_half h, ih (x / 2) (by omega) (by omega)]
theorem cLen64 (x : Nat) (hx : x < 18446744073709551616) (w : World) :
    Calls Try.prog 45 #[.int .u64 (x : Int)] w fun e w' => e = .returned (.int .i64 ((len x : Nat) : Int)) ∧ w = w' :=
  (Any.bits_Len64 { lays with } (x : Int) w (by omega) (by omega)).mono fun _ _ ⟨a, b⟩ => ⟨by rw [a, Int.toNat_natCast, bitLen_len x hx], b.symm⟩
end Go.Proofs.Ytmhglbnoddimhaa
