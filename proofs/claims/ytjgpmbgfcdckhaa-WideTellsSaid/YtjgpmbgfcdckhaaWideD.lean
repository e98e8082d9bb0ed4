/-
  What the calls Put and Take of package wide answer: a number's 16 bytes, the lowest one first, and back.
-/
import Derived.Test.YtjgpmbgfcdckhaaWideA
import Derived.Test.YtjgpmbgfcdckhaaWideM
import Derived.Deep.RegionWith
namespace Go.Proofs.Ytjgpmbgfcdckhaa
open Go.RowKit
set_option linter.unusedVariables false

/-- So many bytes of a number, the lowest one first. -/
def bytesK : Nat → Int → List Int
  | 0, _ => []
  | k + 1, v => v % 256 :: bytesK k (v / 256)
/-- Block b from off on holds these bytes. -/
def Bytes (w : World) (b off : Nat) (xs : List Int) : Prop := ∀ i, i < xs.length → w.cell? ⟨b, off + i, none⟩ = some (.int .u8 (xs.getD i 0))
def PutRet (v : Int) (w : World) (e : Ending) (w' : World) : Prop :=
  ∃ b : Nat, e = .returned (.slice (some ⟨b, 0, none⟩) 16 16) ∧ w.heap.size ≤ b ∧ b < w'.heap.size ∧ Bytes w' b 0 (bytesK 16 v) ∧ Below w.heap.size w w'

theorem bytesK16 (ah al : Int) (a1 : 0 ≤ ah) (a2 : ah < 18446744073709551616) (a3 : 0 ≤ al) (a4 : al < 18446744073709551616) : bytesK 16 (ah * 18446744073709551616 + al) =
    [al % 256, al / 256 % 256, al / 65536 % 256, al / 16777216 % 256, al / 4294967296 % 256, al / 1099511627776 % 256, al / 281474976710656 % 256, al / 72057594037927936,
     ah % 256, ah / 256 % 256, ah / 65536 % 256, ah / 16777216 % 256, ah / 4294967296 % 256, ah / 1099511627776 % 256, ah / 281474976710656 % 256, ah / 72057594037927936] := by
  simp only [bytesK]
  congr 1
  · omega
  congr 1
  · omega
  congr 1
  · omega
  congr 1
  · omega
  congr 1
  · omega
  congr 1
  · omega
  congr 1
  · omega
  congr 1
  · omega
  congr 1
  · omega
  congr 1
  · omega
  congr 1
  · omega
  congr 1
  · omega
  congr 1
  · omega
  congr 1
  · omega
  congr 1
  · omega
  congr 1
  omega

theorem bytes_lit (w : World) (b : Nat) (x0 x1 x2 x3 x4 x5 x6 x7 x8 x9 x10 x11 x12 x13 x14 x15 : Int) (t : TypeId) (h : b = w.heap.size) :
    Bytes (w.alloc (.cells #[.int .u8 x0, .int .u8 x1, .int .u8 x2, .int .u8 x3, .int .u8 x4, .int .u8 x5, .int .u8 x6, .int .u8 x7, .int .u8 x8, .int .u8 x9, .int .u8 x10, .int .u8 x11, .int .u8 x12, .int .u8 x13, .int .u8 x14, .int .u8 x15] t)) b 0
      [x0, x1, x2, x3, x4, x5, x6, x7, x8, x9, x10, x11, x12, x13, x14, x15] := by
  subst h
  intro i hi
  rw [Nat.zero_add, World.cell?_alloc_new]
  match i, hi with
  | 0, _ | 1, _ | 2, _ | 3, _ | 4, _ | 5, _ | 6, _ | 7, _ | 8, _ | 9, _ | 10, _ | 11, _ | 12, _ | 13, _ | 14, _ | 15, _ => rfl
  | n + 16, h => exact absurd h (by simp)

set_option maxRecDepth 100000 in
set_option maxHeartbeats 1000000 in
theorem wPut (ah al : Int) (a1 : 0 ≤ ah) (a2 : ah < 18446744073709551616) (a3 : 0 ≤ al) (a4 : al < 18446744073709551616) (w : World) :
    Calls Try.prog 26 #[.agg #[.int .u64 ah, .int .u64 al]] w (PutRet (ah * 18446744073709551616 + al) w) := by
  have hmk : ∀ w0 : World, (Instr.makeSlice 25 (.int .i64 16) (.int .i64 16)).run Try.prog w0 = .ok (.slice (some ⟨w0.heap.size, 0, none⟩) 16 16) (w0.alloc (.cells #[.int .u8 0, .int .u8 0, .int .u8 0, .int .u8 0, .int .u8 0, .int .u8 0, .int .u8 0, .int .u8 0, .int .u8 0, .int .u8 0, .int .u8 0, .int .u8 0, .int .u8 0, .int .u8 0, .int .u8 0, .int .u8 0] 5)) := fun _ => by kernel_rfl
  go_enter Try.func26, Try.ntmps26
  go_wp2
  go_rounds 9
  go_ret
  refine ⟨_, rfl, by omega, by simp, ?_, by go_grown⟩
  rw [bytesK16 ah al a1 a2 a3 a4]
  exact bytes_lit _ _ _ _ _ _ _ _ _ _ _ _ _ _ _ _ _ _ _ (by simp)

theorem or_low (n : Nat) (p a x : Int) (hp : p = 2 ^ n) (ha : 0 ≤ a) (hb : a < p) (hx : 0 ≤ x) (hs : a + x * p < 18446744073709551616) : bits .or .u64 a (x * p) = a + x * p := by
  obtain ⟨a, rfl⟩ := Int.eq_ofNat_of_zero_le ha
  obtain ⟨x, rfl⟩ := Int.eq_ofNat_of_zero_le hx
  have hq : p = ((2 ^ n : Nat) : Int) := by rw [hp, Int.natCast_pow]; rfl
  rw [hq] at hb hs ⊢
  rw [← Int.natCast_mul] at hs ⊢
  have h1 : a < 2 ^ n := by omega
  rw [bits_or_u64_nat a (x * 2 ^ n) (by omega) (by omega), Nat.or_comm, Nat.mul_comm x, ← Nat.two_pow_add_eq_or_of_lt h1]
  omega

theorem or_zero (x : Int) (hx : 0 ≤ x) (hs : x < 18446744073709551616) : bits .or .u64 0 x = x := by
  have := or_low 0 1 0 x rfl (by omega) (by omega) hx (by omega)
  simpa using this

/-- The number of bytes, the lowest one first. -/
def le256 : List Int → Int
  | [] => 0
  | x :: xs => x + 256 * le256 xs

set_option maxRecDepth 100000 in
set_option maxHeartbeats 1000000 in
theorem word8 (b off cap : Nat) (x0 x1 x2 x3 x4 x5 x6 x7 : Int) (w : World)
   (b0 : 0 ≤ x0 ∧ x0 ≤ 255) (b1 : 0 ≤ x1 ∧ x1 ≤ 255) (b2 : 0 ≤ x2 ∧ x2 ≤ 255) (b3 : 0 ≤ x3 ∧ x3 ≤ 255) (b4 : 0 ≤ x4 ∧ x4 ≤ 255) (b5 : 0 ≤ x5 ∧ x5 ≤ 255) (b6 : 0 ≤ x6 ∧ x6 ≤ 255) (b7 : 0 ≤ x7 ∧ x7 ≤ 255)
   (c0 : w.cell? ⟨b, off, none⟩ = some (.int .u8 x0)) (c1 : w.cell? ⟨b, off + 1, none⟩ = some (.int .u8 x1)) (c2 : w.cell? ⟨b, off + 2, none⟩ = some (.int .u8 x2)) (c3 : w.cell? ⟨b, off + 3, none⟩ = some (.int .u8 x3))
   (c4 : w.cell? ⟨b, off + 4, none⟩ = some (.int .u8 x4)) (c5 : w.cell? ⟨b, off + 5, none⟩ = some (.int .u8 x5)) (c6 : w.cell? ⟨b, off + 6, none⟩ = some (.int .u8 x6)) (c7 : w.cell? ⟨b, off + 7, none⟩ = some (.int .u8 x7)) :
    Calls Try.prog 34 #[.slice (some ⟨b, off, none⟩) 8 cap] w (fun e w' => e = .returned (.int .u64 (le256 [x0, x1, x2, x3, x4, x5, x6, x7])) ∧ w = w') := by
  have E := Lib.hid (show bits .or .u64 (bits .or .u64 (bits .or .u64 (bits .or .u64 (bits .or .u64 (bits .or .u64 (bits .or .u64 (bits .or .u64 0 x0) (x1 * 256)) (x2 * 65536)) (x3 * 16777216)) (x4 * 4294967296)) (x5 * 1099511627776)) (x6 * 281474976710656)) (x7 * 72057594037927936) = le256 [x0, x1, x2, x3, x4, x5, x6, x7] from by
    rw [or_zero x0 (by omega) (by omega), or_low 8 256 _ x1 (by decide) (by omega) (by omega) (by omega) (by omega), or_low 16 65536 _ x2 (by decide) (by omega) (by omega) (by omega) (by omega),
      or_low 24 16777216 _ x3 (by decide) (by omega) (by omega) (by omega) (by omega), or_low 32 4294967296 _ x4 (by decide) (by omega) (by omega) (by omega) (by omega), or_low 40 1099511627776 _ x5 (by decide) (by omega) (by omega) (by omega) (by omega),
      or_low 48 281474976710656 _ x6 (by decide) (by omega) (by omega) (by omega) (by omega), or_low 56 72057594037927936 _ x7 (by decide) (by omega) (by omega) (by omega) (by omega)]
    simp only [le256]
    omega)
  go_enter Try.func34, Try.ntmps34
  go_wp2
  go_rounds 9
  go_ret
  exact ⟨congrArg (fun n => Ending.returned (.int .u64 n)) E.out, rfl⟩

/-- An answer that is one number of 128 bits, and an int. -/
def U4 (P : Int → Int → Int → Prop) (w : World) (e : Ending) (w' : World) : Prop :=
  ∃ h l d : Int, P h l d ∧ e = .returned (.tuple #[.agg #[.int .u64 h, .int .u64 l], .int .i64 d]) ∧ Below w.heap.size w w'

set_option maxRecDepth 100000 in
set_option maxHeartbeats 1000000 in
theorem wTakeNo (a0 : Option Addr) (len cap : Nat) (hl : len ≠ 16) (w : World) :
    Calls Try.prog 9 #[.slice a0 len cap] w (U4 (fun h l d => h = 0 ∧ l = 0 ∧ d = 11) w) := by
  have h1 : ((len : Int) != 16) = true := by simp; omega
  go_enter Try.func9, Try.ntmps9
  go_wp2
  go_returns
  exact ⟨_, _, _, ⟨rfl, rfl, rfl⟩, rfl, by go_grown⟩

set_option maxRecDepth 100000 in
set_option maxHeartbeats 1000000 in
theorem wTake (b off cap : Nat) (hcap : 16 ≤ cap) (x0 x1 x2 x3 x4 x5 x6 x7 y0 y1 y2 y3 y4 y5 y6 y7 : Int) (w : World) (hlt : b < w.heap.size)
   (b0 : 0 ≤ x0 ∧ x0 ≤ 255) (b1 : 0 ≤ x1 ∧ x1 ≤ 255) (b2 : 0 ≤ x2 ∧ x2 ≤ 255) (b3 : 0 ≤ x3 ∧ x3 ≤ 255) (b4 : 0 ≤ x4 ∧ x4 ≤ 255) (b5 : 0 ≤ x5 ∧ x5 ≤ 255) (b6 : 0 ≤ x6 ∧ x6 ≤ 255) (b7 : 0 ≤ x7 ∧ x7 ≤ 255)
   (g0 : 0 ≤ y0 ∧ y0 ≤ 255) (g1 : 0 ≤ y1 ∧ y1 ≤ 255) (g2 : 0 ≤ y2 ∧ y2 ≤ 255) (g3 : 0 ≤ y3 ∧ y3 ≤ 255) (g4 : 0 ≤ y4 ∧ y4 ≤ 255) (g5 : 0 ≤ y5 ∧ y5 ≤ 255) (g6 : 0 ≤ y6 ∧ y6 ≤ 255) (g7 : 0 ≤ y7 ∧ y7 ≤ 255)
   (hc : Bytes w b off [x0, x1, x2, x3, x4, x5, x6, x7, y0, y1, y2, y3, y4, y5, y6, y7]) :
    Calls Try.prog 9 #[.slice (some ⟨b, off, none⟩) 16 cap] w (U4 (fun h l d => Is (le256 [x0, x1, x2, x3, x4, x5, x6, x7, y0, y1, y2, y3, y4, y5, y6, y7]) h l ∧ d = 0) w) := by
  have C1 : ∀ w1 : World, (∀ o, w1.cell? ⟨b, o, none⟩ = w.cell? ⟨b, o, none⟩) → Calls Try.prog 34 #[.slice (some ⟨b, off, none⟩) 8 cap] w1 (fun e w' => e = .returned (.int .u64 (le256 [x0, x1, x2, x3, x4, x5, x6, x7])) ∧ w1 = w') := fun w1 hw =>
    word8 b off cap x0 x1 x2 x3 x4 x5 x6 x7 w1 b0 b1 b2 b3 b4 b5 b6 b7 ((hw _).trans (hc 0 (by simp))) ((hw _).trans (hc 1 (by simp))) ((hw _).trans (hc 2 (by simp))) ((hw _).trans (hc 3 (by simp))) ((hw _).trans (hc 4 (by simp))) ((hw _).trans (hc 5 (by simp))) ((hw _).trans (hc 6 (by simp))) ((hw _).trans (hc 7 (by simp)))
  have C2 : ∀ w1 : World, (∀ o, w1.cell? ⟨b, o, none⟩ = w.cell? ⟨b, o, none⟩) → Calls Try.prog 34 #[.slice (some ⟨b, off + 8, none⟩) 8 (cap - 8)] w1 (fun e w' => e = .returned (.int .u64 (le256 [y0, y1, y2, y3, y4, y5, y6, y7])) ∧ w1 = w') := fun w1 hw =>
    word8 b (off + 8) (cap - 8) y0 y1 y2 y3 y4 y5 y6 y7 w1 g0 g1 g2 g3 g4 g5 g6 g7 ((hw _).trans (hc 8 (by simp))) ((hw _).trans (hc 9 (by simp))) ((hw _).trans (hc 10 (by simp))) ((hw _).trans (hc 11 (by simp))) ((hw _).trans (hc 12 (by simp))) ((hw _).trans (hc 13 (by simp))) ((hw _).trans (hc 14 (by simp))) ((hw _).trans (hc 15 (by simp)))
  have D1 := Lib.hid C1
  have D2 := Lib.hid C2
  have HC := Lib.hid hc
  clear C1 C2 hc
  have ISF : Hid (Is (le256 [x0, x1, x2, x3, x4, x5, x6, x7, y0, y1, y2, y3, y4, y5, y6, y7]) (le256 [y0, y1, y2, y3, y4, y5, y6, y7]) (le256 [x0, x1, x2, x3, x4, x5, x6, x7])) := by
    refine Lib.hid ⟨?_, ?_, ?_, ?_, ?_⟩ <;> simp only [le256] <;> omega
  have hcap8 : ¬ (cap = 8) := by omega
  go_enter Try.func9, Try.ntmps9
  go_wp2_with fail
  go_region_with (first | (go_at_call 34; ((with_reducible refine (D2.out _ ?_).mono ?_); (exact fun o => World.cell?_alloc_lt w _ ⟨b, o, none⟩ hlt); rintro e w' ⟨rfl, rfl⟩)) | (go_at_call 34; ((with_reducible refine (D1.out _ ?_).mono ?_); (exact fun o => World.cell?_alloc_lt w _ ⟨b, o, none⟩ hlt); rintro e w' ⟨rfl, rfl⟩)))
  all_goals
    go_wp2
    go_returns
    exact ⟨_, _, _, ⟨ISF.out, rfl⟩, rfl, by go_grown⟩
end Go.Proofs.Ytjgpmbgfcdckhaa
