/-
  What math/bits.Len64 answers in this program: the library's contract at this program's numbers.
-/
import Derived.Shelf.Small.Bits
import Derived.Shelf.Strconv.Itoa0
import Derived.Test.YtfpbfibnkknhdaaDoorProg
import Derived.Test.YtfpbfibnkknhdaaDoorGfpM
namespace Go.Proofs.YtfpbfibnkknhdaaDoor
open Go.Shelf G

def ren : Ren := ⟨fun | 129 => 29 | n => n, fun | 53 => 50 | 3 => 3 | 4 => 4 | 46 => 68 | 5 => 5 | 9 => 9 | n => n, fun n => n⟩
theorem lays : Lays.n129 Tryd.prog ren := {
  mixed := by kernel_rfl
  f129 := Tryd.func29.trans (congrArg some (by kernel_rfl))
  t3 := Tryd.underlying3
  a3 := Tryd.isAgg3
  z3 := Tryd.sizeOf3
  v3 := Tryd.zeroValue3
  t4 := Tryd.underlying4
  a4 := Tryd.isAgg4
  z4 := Tryd.sizeOf4
  v4 := Tryd.zeroValue4
  t5 := Tryd.underlying5
  a5 := Tryd.isAgg5
  z5 := Tryd.sizeOf5
  v5 := Tryd.zeroValue5
  t9 := Tryd.underlying9
  a9 := Tryd.isAgg9
  z9 := Tryd.sizeOf9
  v9 := Tryd.zeroValue9
  t46 := Tryd.underlying68
  a46 := Tryd.isAgg68
  z46 := Tryd.sizeOf68
  v46 := Tryd.zeroValue68
  t53 := Tryd.underlying50
  a53 := Tryd.isAgg50
  z53 := Tryd.sizeOf50
  v53 := Tryd.zeroValue50 }
theorem len_half {n : Nat} (h : n ≠ 0) : len n = 1 + len (n / 2) := by
  by_cases h2 : n / 2 = 0
  · obtain rfl : n = 1 := by omega
    rfl
  · have e := len_two h2
    rcases Nat.mod_two_eq_zero_or_one n with m | m
    · rw [show 2 * (n / 2) = n from by omega] at e; omega
    · have : len (2 * (n / 2) + 1) = len (2 * (n / 2)) := by
        rw [odd_xor, len_xor_lt]
        rw [e]
        have := len_pos h2
        show len 1 < _
        have : len 1 = 1 := rfl
        omega
      rw [show 2 * (n / 2) + 1 = n from by omega] at this
      omega
theorem bitLen_len (x : Nat) : x < 2 ^ 64 → Lib.bitLen x = len x := by
  induction x using Nat.strongRecOn with
  | _ x ih =>
    intro hx
    by_cases h : x = 0
    · subst h; rfl
    · rw [Lib.bitLen_half x h hx, len_half h, ih (x / 2) (by omega) (by omega)]
theorem cLen64 (x : Nat) (hx : x < 18446744073709551616) (w : World) :
    Calls Tryd.prog 29 #[.int .u64 (x : Int)] w fun e w' => e = .returned (.int .i64 ((len x : Nat) : Int)) ∧ w = w' :=
  (Any.bits_Len64 { lays with } (x : Int) w (by omega) (by omega)).mono fun _ _ ⟨a, b⟩ => ⟨by rw [a, Int.toNat_natCast, bitLen_len x hx], b.symm⟩
end Go.Proofs.YtfpbfibnkknhdaaDoor
