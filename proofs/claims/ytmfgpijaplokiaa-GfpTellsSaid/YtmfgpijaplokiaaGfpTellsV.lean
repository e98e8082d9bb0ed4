/-
  GfpTells of layer 2 answers true for every two polynomials and every place: all cases together.
-/
import Derived.Test.YtmfgpijaplokiaaGfpTellsIn
import Derived.Test.YtmfgpijaplokiaaGfpTellsNeg
import Derived.Test.YtmfgpijaplokiaaGfpTellsOut
namespace Go.Proofs.Ytmfgpijaplokiaa
open Go.RowKit G
set_option linter.unusedVariables false

theorem up_lt {a n : Nat} (k m : Nat) (ha : a < 2 ^ (64 * k)) (hn : n ≤ 64 * m) : a * 2 ^ n < 2 ^ (64 * (k + m)) := by
  have h1 : (2 : Nat) ^ n ≤ 2 ^ (64 * m) := Nat.pow_le_pow_right (by decide) hn
  rw [Nat.mul_add, Nat.pow_add]
  exact Nat.lt_of_lt_of_le (Nat.mul_lt_mul_of_pos_right ha (Nat.two_pow_pos n)) (Nat.mul_le_mul_left _ h1)
theorem pow_lt {n : Nat} (m : Nat) (hn : n < 64 * m) : 2 ^ n < 2 ^ (64 * m) := Nat.pow_lt_pow_right (by decide) hn
theorem bl' {N : Nat} (k : Nat) (h : N < 2 ^ (64 * k)) (hk : 64 * k ≤ 900000) : Hid ((bitsOf N).length ≤ 900000) := Lib.hid (by rw [bitsOf_len]; exact Nat.le_trans (len_le h) hk)
theorem bk {N : Nat} (k m : Nat) (h : N < 2 ^ (64 * k)) (hk : 64 * k ≤ m) : (bitsOf N).length ≤ m := by rw [bitsOf_len]; exact Nat.le_trans (len_le h) hk
theorem zero_lt (m : Nat) : 0 < 2 ^ (64 * m) := Nat.two_pow_pos _
theorem tellsWalk (A B : Option Addr) (ca cb La Lb : Nat) (xs ys : List Nat) (n : Int) (w : World) (Pa : Pol w A ca xs) (Pb : Pol w B cb ys) (ha : xs.length = La) (hb : ys.length = Lb) (hn : n ≤ 9223372036854775807) :
    Calls Try.prog 3 #[.slice A La ca, .slice B Lb cb, .int .i64 n] w (Bl true w) := by
  by_cases h : La ≤ 16 ∧ Lb ≤ 16
  · obtain ⟨sa, sb⟩ := h
    have x := leN_lt' (k := 16) Pa.word (by omega)
    have y := leN_lt' (k := 16) Pb.word (by omega)
    have s := xor_lt' 16 x y
    have p := clm_lt' 16 16 32 rfl x y
    have q := clm_lt' 16 16 32 rfl x x
    by_cases n0 : n < 0
    · exact tells_neg A B ca cb La Lb xs ys _ _ 0 0 _ _ _ 0 _ _ (Lib.hid rfl) n n0 (.inl n0) w Pa Pb (Lib.hid ha) (Lib.hid hb) sa sb (by omega) (by omega) (Lib.hid rfl) (Lib.hid rfl) (Lib.hid rfl) (Lib.hid rfl) (Lib.hid rfl) (Lib.hid rfl) (Lib.hid rfl) (Lib.hid rfl) (Lib.hid rfl) (Lib.hid rfl) (Lib.hid rfl)
        (wl' 16 x (by decide)) (wl' 16 y (by decide)) (wl' 0 (zero_lt 0) (by decide)) (wl' 0 (zero_lt 0) (by decide)) (wl' 16 s (by decide)) (wl' 32 p (by decide)) (wl' 32 q (by decide)) (bl' 0 (zero_lt 0) (by decide)) (bl' 0 (zero_lt 0) (by decide)) (bl' 16 s (by decide)) (bl' 32 p (by decide)) (bl' 32 q (by decide)) _ _ (Lib.hid rfl) (Lib.hid rfl) (bk 16 2000 x (by decide)) (bk 16 2000 y (by decide))
    · obtain ⟨k, rfl⟩ := Int.eq_ofNat_of_zero_le (show 0 ≤ n by omega)
      by_cases n1 : k ≤ 2048
      · have u := up_lt 16 32 x (n := k) (by omega)
        have z := pow_lt (n := k) 33 (by omega)
        exact tells_in A B ca cb La Lb xs ys _ _ (2 ^ k) _ _ _ _ _ _ _ (Lib.hid rfl) k n1 (by omega) w Pa Pb (Lib.hid ha) (Lib.hid hb) sa sb (by omega) (by omega) (Lib.hid rfl) (Lib.hid rfl) (Lib.hid rfl) (Lib.hid rfl) (Lib.hid rfl) (Lib.hid rfl) (Lib.hid rfl) (Lib.hid rfl) (Lib.hid rfl) (Lib.hid (by simp [leB])) (Lib.hid rfl) (Lib.hid rfl) (Lib.hid rfl) (Lib.hid rfl)
          (wl' 16 x (by decide)) (wl' 16 y (by decide)) (wl' 33 z (by decide)) (wl' (16 + 32) u (by decide)) (wl' 16 s (by decide)) (wl' 32 p (by decide)) (wl' 32 q (by decide)) (bl' 33 z (by decide)) (bl' (16 + 32) u (by decide)) (bl' 16 s (by decide)) (bl' 32 p (by decide)) (bl' 32 q (by decide)) _ _ (Lib.hid rfl) (Lib.hid rfl) (bk 16 2000 x (by decide)) (bk 16 2000 y (by decide))
      · exact tells_out A B ca cb La Lb xs ys _ _ 0 0 _ _ _ _ _ _ (Lib.hid rfl) k (by omega) (.inr (by omega)) (by omega) w Pa Pb (Lib.hid ha) (Lib.hid hb) sa sb (by omega) (by omega) (Lib.hid rfl) (Lib.hid rfl) (Lib.hid rfl) (Lib.hid rfl) (Lib.hid rfl) (Lib.hid rfl) (Lib.hid rfl) (Lib.hid rfl) (Lib.hid rfl) (Lib.hid rfl) (Lib.hid rfl) (Lib.hid rfl)
          (wl' 16 x (by decide)) (wl' 16 y (by decide)) (wl' 0 (zero_lt 0) (by decide)) (wl' 0 (zero_lt 0) (by decide)) (wl' 16 s (by decide)) (wl' 32 p (by decide)) (wl' 32 q (by decide)) (bl' 0 (zero_lt 0) (by decide)) (bl' 0 (zero_lt 0) (by decide)) (bl' 16 s (by decide)) (bl' 32 p (by decide)) (bl' 32 q (by decide)) _ _ (Lib.hid rfl) (Lib.hid rfl) (bk 16 2000 x (by decide)) (bk 16 2000 y (by decide))
  · exact tellsLarge A B ca cb La Lb n w (by omega)
end Go.Proofs.Ytmfgpijaplokiaa
