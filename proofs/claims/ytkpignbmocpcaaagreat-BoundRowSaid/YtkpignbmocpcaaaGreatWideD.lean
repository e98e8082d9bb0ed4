/-
  What the calls Put and Take of package wide answer: a number's 16 bytes, the lowest one first, and back.
-/
import Derived.Test.YtkpignbmocpcaaaGreatWideA
import Derived.Test.YtkpignbmocpcaaaGreatWideM
import Derived.Deep.RegionWith
namespace Go.Proofs.YtkpignbmocpcaaaGreat.Wd
open Go.RowKit
set_option linter.unusedVariables false

/-- So many bytes of a number, the lowest one first. -/
def bytesK : Nat → Int → List Int
  | 0, _ => []
  | k + 1, v => v % 256 :: bytesK k (v / 256)
/-- Block b from off on holds these bytes. -/
def Bytes (w : World) (b off : Nat) (xs : List Int) : Prop := ∀ i, i < xs.length → w.cell? ⟨b, off + i, none⟩ = some (.int .u8 (xs.getD i 0))
def PutRet (v : Int) (w : World) (e : Ending) (w' : World) : Prop :=
  ∃ b : Nat, e = .returned (.slice (some ⟨b, 0, none⟩) 16 16) ∧ w.heap.size ≤ b ∧ b < w'.heap.size ∧ Bytes w' b 0 (bytesK 16 v) ∧ Below w.heap.size w w'

theorem bytesK16 (ah al : Int) (a1 : 0 ≤ ah) (a2 : ah < 18446744073709551616) (a3 : 0 ≤ al) (a4 : al < 18446744073709551616) : bytesK 16 (ah * 18446744073709551616 + al) =
    [al % 256, al / 256 % 256, al / 65536 % 256, al / 16777216 % 256, al / 4294967296 % 256, al / 1099511627776 % 256, al / 281474976710656 % 256, al / 72057594037927936,
     ah % 256, ah / 256 % 256, ah / 65536 % 256, ah / 16777216 % 256, ah / 4294967296 % 256, ah / 1099511627776 % 256, ah / 281474976710656 % 256, ah / 72057594037927936] := by
  simp only [bytesK]
  congr 1
  · omega
  congr 1
  · omega
  congr 1
  · omega
  congr 1
  · omega
  congr 1
  · omega
  congr 1
  · omega
  congr 1
  · omega
  congr 1
  · omega
  congr 1
  · omega
  congr 1
  · omega
  congr 1
  · omega
  congr 1
  · omega
  congr 1
  · omega
  congr 1
  · omega
  congr 1
  · omega
  congr 1
  omega

theorem bytes_lit (w : World) (b : Nat) (x0 x1 x2 x3 x4 x5 x6 x7 x8 x9 x10 x11 x12 x13 x14 x15 : Int) (t : TypeId) (h : b = w.heap.size) :
    Bytes (w.alloc (.cells #[.int .u8 x0, .int .u8 x1, .int .u8 x2, .int .u8 x3, .int .u8 x4, .int .u8 x5, .int .u8 x6, .int .u8 x7, .int .u8 x8, .int .u8 x9, .int .u8 x10, .int .u8 x11, .int .u8 x12, .int .u8 x13, .int .u8 x14, .int .u8 x15] t)) b 0
      [x0, x1, x2, x3, x4, x5, x6, x7, x8, x9, x10, x11, x12, x13, x14, x15] := by
  subst h
  intro i hi
  rw [Nat.zero_add, World.cell?_alloc_new]
  match i, hi with
  | 0, _ | 1, _ | 2, _ | 3, _ | 4, _ | 5, _ | 6, _ | 7, _ | 8, _ | 9, _ | 10, _ | 11, _ | 12, _ | 13, _ | 14, _ | 15, _ => rfl
  | n + 16, h => exact absurd h (by simp)

theorem or_low (n : Nat) (p a x : Int) (hp : p = 2 ^ n) (ha : 0 ≤ a) (hb : a < p) (hx : 0 ≤ x) (hs : a + x * p < 18446744073709551616) : bits .or .u64 a (x * p) = a + x * p := by
  obtain ⟨a, rfl⟩ := Int.eq_ofNat_of_zero_le ha
  obtain ⟨x, rfl⟩ := Int.eq_ofNat_of_zero_le hx
  have hq : p = ((2 ^ n : Nat) : Int) := by rw [hp, Int.natCast_pow]; rfl
  rw [hq] at hb hs ⊢
  rw [← Int.natCast_mul] at hs ⊢
  have h1 : a < 2 ^ n := by omega
  rw [bits_or_u64_nat a (x * 2 ^ n) (by omega) (by omega), Nat.or_comm, Nat.mul_comm x, ← Nat.two_pow_add_eq_or_of_lt h1]
  omega

theorem or_zero (x : Int) (hx : 0 ≤ x) (hs : x < 18446744073709551616) : bits .or .u64 0 x = x := by
  have := or_low 0 1 0 x rfl (by omega) (by omega) hx (by omega)
  simpa using this

/-- The number of bytes, the lowest one first. -/
def le256 : List Int → Int
  | [] => 0
  | x :: xs => x + 256 * le256 xs

/-- An answer that is one number of 128 bits, and an int. -/
def U4 (P : Int → Int → Int → Prop) (w : World) (e : Ending) (w' : World) : Prop :=
  ∃ h l d : Int, P h l d ∧ e = .returned (.tuple #[.agg #[.int .u64 h, .int .u64 l], .int .i64 d]) ∧ Below w.heap.size w w'

end Go.Proofs.YtkpignbmocpcaaaGreat.Wd
