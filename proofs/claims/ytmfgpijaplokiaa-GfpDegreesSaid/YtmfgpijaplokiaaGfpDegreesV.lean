/-
  GfpDegrees of layer 2 answers true for every two polynomials and every place of 16 bits: all cases together.
-/
import Derived.Test.YtmfgpijaplokiaaGfpDegreesW
namespace Go.Proofs.Ytmfgpijaplokiaa
open Go.RowKit G
set_option linter.unusedVariables false

theorem len_lt_of {xs : List Nat} {k : Nat} (h : Wds xs) (hk : 64 * xs.length ≤ k) : len (leN xs) ≤ k := len_le (pow_up (leN_lt xs h) hk)
theorem up_lt {a n : Nat} (k m : Nat) (ha : a < 2 ^ (64 * k)) (hn : n ≤ 64 * m) : a * 2 ^ n < 2 ^ (64 * (k + m)) := by
  have h1 : (2 : Nat) ^ n ≤ 2 ^ (64 * m) := Nat.pow_le_pow_right (by decide) hn
  rw [Nat.mul_add, Nat.pow_add]
  exact Nat.lt_of_lt_of_le (Nat.mul_lt_mul_of_pos_right ha (Nat.two_pow_pos n)) (Nat.mul_le_mul_left _ h1)
theorem pow_lt {n : Nat} (m : Nat) (hn : n < 64 * m) : 2 ^ n < 2 ^ (64 * m) := Nat.pow_lt_pow_right (by decide) hn
theorem degreesWalk (A B : Option Addr) (ca cb La Lb : Nat) (xs ys : List Nat) (n : Nat) (w : World) (Pa : Pol w A ca xs) (Pb : Pol w B cb ys) (ha : xs.length = La) (hb : ys.length = Lb) (hn : n ≤ 65535) :
    Calls Try.prog 6 #[.slice A La ca, .slice B Lb cb, .int .u16 (n : Int)] w (Bl true w) := by
  by_cases h : La ≤ 16 ∧ Lb ≤ 16
  · obtain ⟨sa, sb⟩ := h
    by_cases hn2 : n ≤ 2048
    · have x := leN_lt' (k := 16) Pa.word (by omega)
      have y := leN_lt' (k := 16) Pb.word (by omega)
      have s := xor_lt' 16 x y
      have p := clm_lt' 16 16 32 rfl x y
      have lx := len_lt_of (k := 1024) Pa.word (by omega)
      have ly := len_lt_of (k := 1024) Pb.word (by omega)
      by_cases hx : leN xs = 0
      · exact degrees_x0 A B ca cb La Lb xs ys _ _ n _ _ hn2 w Pa Pb (Lib.hid ha) (Lib.hid hb) sa sb (by omega) (by omega) (Lib.hid rfl) (Lib.hid rfl) (Lib.hid (by rw [hx]; rfl)) (Lib.hid rfl) (Lib.hid (by rw [hx, clm_zero_left]; rfl)) (Lib.hid rfl) (wl' 32 p (by decide)) (wl' 16 s (by decide))
      · obtain ⟨kx, ex⟩ : ∃ kx, len (leN xs) = kx + 1 := ⟨len (leN xs) - 1, by have := len_pos hx; omega⟩
        by_cases hy : leN ys = 0
        · exact degrees_y0 A B ca cb La Lb xs ys _ _ n kx _ (by omega) hn2 w Pa Pb (Lib.hid ha) (Lib.hid hb) sa sb (by omega) (by omega) (Lib.hid rfl) (Lib.hid rfl) (Lib.hid (by rw [ex]; omega)) (Lib.hid (by rw [hy]; rfl)) (Lib.hid (by rw [hy, clm_zero]; rfl)) (Lib.hid rfl) (wl' 32 p (by decide)) (wl' 16 s (by decide))
        · obtain ⟨ky, ey⟩ : ∃ ky, len (leN ys) = ky + 1 := ⟨len (leN ys) - 1, by have := len_pos hy; omega⟩
          have pl := (len_clm hx hy).2
          have ul := len_mul_pow hx n
          have lU := wl' (N := leN xs * 2 ^ n) (16 + 32) (up_lt 16 32 x (by omega)) (by decide)
          have lX := wl' (N := 2 ^ n) 33 (pow_lt 33 (by omega)) (by decide)
          rcases Nat.lt_trichotomy kx ky with q | q | q
          · have sl : len (leN xs ^^^ leN ys) = len (leN ys) := by rw [Nat.xor_comm]; exact len_xor_lt (by omega)
            exact degrees_lt A B ca cb La Lb xs ys _ _ n _ kx ky (kx + 1) (by omega) (by omega) (by omega) (by simp; omega) (by simp; omega) hn2 w Pa Pb (Lib.hid ha) (Lib.hid hb) sa sb (by omega) (by omega) (Lib.hid rfl) (Lib.hid rfl) (Lib.hid (by rw [ex]; omega)) (Lib.hid (by rw [ey]; omega)) (Lib.hid (by omega)) (Lib.hid (by omega)) (Lib.hid rfl) (Lib.hid (by omega)) (Lib.hid (clm_pow _ _)) (Lib.hid (top_bit ex)) (Lib.hid (over_bit ex)) (wl' 32 p (by decide)) (wl' 16 s (by decide)) lU lX (by omega) (by omega)
          · subst q
            have sl := len_xor_le (leN xs) (leN ys) (kx + 1) (by omega) (by omega)
            exact degrees_eq A B ca cb La Lb xs ys _ _ n _ kx (kx + 1) _ (by omega) (by omega) hn2 w Pa Pb (Lib.hid ha) (Lib.hid hb) sa sb (by omega) (by omega) (Lib.hid rfl) (Lib.hid rfl) (Lib.hid (by rw [ex]; omega)) (Lib.hid (by rw [ey]; omega)) (Lib.hid (by omega)) (Lib.hid rfl) (Lib.hid rfl) (Lib.hid (by omega)) (Lib.hid (clm_pow _ _)) (Lib.hid (top_bit ex)) (Lib.hid (over_bit ex)) (wl' 32 p (by decide)) (wl' 16 s (by decide)) lU lX (by omega) (by omega)
          · have sl : len (leN xs ^^^ leN ys) = len (leN xs) := len_xor_lt (by omega)
            exact degrees_gt A B ca cb La Lb xs ys _ _ n _ kx ky (kx + 1) (by omega) (by omega) (by omega) (by simp; omega) (by simp; omega) hn2 w Pa Pb (Lib.hid ha) (Lib.hid hb) sa sb (by omega) (by omega) (Lib.hid rfl) (Lib.hid rfl) (Lib.hid (by rw [ex]; omega)) (Lib.hid (by rw [ey]; omega)) (Lib.hid (by omega)) (Lib.hid (by omega)) (Lib.hid rfl) (Lib.hid (by omega)) (Lib.hid (clm_pow _ _)) (Lib.hid (top_bit ex)) (Lib.hid (over_bit ex)) (wl' 32 p (by decide)) (wl' 16 s (by decide)) lU lX (by omega) (by omega)
    · exact degreesOut A B ca cb La Lb n w sa sb (by omega) hn
  · exact degreesLarge A B ca cb La Lb n w (by omega)
end Go.Proofs.Ytmfgpijaplokiaa
