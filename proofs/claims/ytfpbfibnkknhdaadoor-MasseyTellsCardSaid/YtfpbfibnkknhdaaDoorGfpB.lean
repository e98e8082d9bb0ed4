/-
  What the call Words of package gfp answers: the product of two words, its high word and its low one, for all words.
-/
import Derived.Test.YtfpbfibnkknhdaaDoorGfpA
import Derived.Outline
import Derived.WalkMore
import Derived.Deep.LoopGhost
namespace Go.Proofs.YtfpbfibnkknhdaaDoor
open Go.RowKit G
set_option linter.unusedVariables false

theorem and1 (r : Nat) (h : r < 18446744073709551616) : bits .and .u64 (r : Int) 1 = ((r % 2 : Nat) : Int) := by
  have := u64_and_nat r 1 h (by decide)
  rw [Nat.and_one_is_mod] at this
  exact this
theorem div_int (b k : Nat) : (b : Int) / 2 ^ k = ((b / 2 ^ k : Nat) : Int) := by rw [Int.natCast_ediv, Int.natCast_pow]; rfl
theorem mul_int (b k : Nat) : (b : Int) * 2 ^ k = ((b * 2 ^ k : Nat) : Int) := by rw [Int.natCast_mul, Int.natCast_pow]; rfl
theorem xor_int (x y : Nat) (hx : x < 18446744073709551616) (hy : y < 18446744073709551616) : bits .xor .u64 (x : Int) (y : Int) = ((x ^^^ y : Nat) : Int) := u64_xor_nat x y hx hy
theorem wrap_nat (n : Nat) : IntKind.u64.wrap (n : Int) = ((n % 18446744073709551616 : Nat) : Int) := by simp [IntKind.wrap, IntKind.bits, IntKind.signed]
theorem bit_mod (b k : Nat) : b.testBit k = decide (b / 2 ^ k % 2 = 1) := Nat.testBit_eq_decide_div_mod_eq

theorem words_same (a b k : Nat) (h : b / 2 ^ k % 2 = 0) : clm a (b % 2 ^ (k + 1)) = clm a (b % 2 ^ k) := by
  rw [parts_step, bit_mod, h]; simp
theorem words_more (a b k : Nat) (h : ¬ b / 2 ^ k % 2 = 0) (hk : k < 64) : clm a (b % 2 ^ (k + 1)) / 18446744073709551616 = clm a (b % 2 ^ k) / 18446744073709551616 ^^^ a / 2 ^ (64 - k) ∧
    clm a (b % 2 ^ (k + 1)) % 18446744073709551616 = clm a (b % 2 ^ k) % 18446744073709551616 ^^^ a * 2 ^ k % 18446744073709551616 := by
  have e : b.testBit k = true := by rw [bit_mod]; simp; omega
  rw [parts_step, if_pos e, show (18446744073709551616 : Nat) = 2 ^ 64 from rfl]
  exact ⟨by rw [xor_div, div_shift _ _ _ (by omega)], xor_mod _ _ _⟩

set_option maxHeartbeats 1000000 in
theorem cWords (a b : Nat) (ha : a < 18446744073709551616) (hb : b < 18446744073709551616) (w : World) :
    Calls Tryd.prog 32 #[.int .u64 a, .int .u64 b] w (fun e w' => e = .returned (.tuple #[.int .u64 ((clm a b / 18446744073709551616 : Nat) : Int), .int .u64 ((clm a b % 18446744073709551616 : Nat) : Int)]) ∧ w = w') := by
  go_enter Tryd.func32, Tryd.ntmps32
  go_wp2
  go_step3
  go_wp2
  go_step3
  go_wp2
  go_loopg [6, 7, 8] 64 (fun g h l i wr => ∃ k x y : Nat, k + g = 64 ∧ i = .int .i64 k ∧ h = .int .u64 (x : Int) ∧ l = .int .u64 (y : Int) ∧ x < 18446744073709551616 ∧ y < 18446744073709551616 ∧ Hid (x = clm a (b % 2 ^ k) / 18446744073709551616 ∧ y = clm a (b % 2 ^ k) % 18446744073709551616) ∧ wr = w)
  case atStart => exact ⟨0, 0, 0, by omega, rfl, rfl, rfl, by decide, by decide, Lib.hid (by simp [Nat.mod_one, clm_zero]), rfl⟩
  case round =>
    obtain ⟨k, x, y, hk, rfl, rfl, rfl, hx, hy, HV, rfl⟩ := hrel
    have hr : b / 2 ^ k < 18446744073709551616 := Nat.lt_of_le_of_lt (Nat.div_le_self _ _) hb
    by_cases h0 : b / 2 ^ k = 0
    · have t0 : ((b : Int) / 2 ^ k == 0) = true := by rw [div_int, h0]; rfl
      have e : b % 2 ^ k = b := Nat.mod_eq_of_lt (by
        rcases Nat.lt_or_ge b (2 ^ k) with h | h
        · exact h
        · have := Nat.div_pos h (Nat.two_pow_pos k); omega)
      have E := Lib.hid e
      clear e h0 hr
      go_wp2
      rw [Exit.noGoto_ret]
      go_ret2
      obtain ⟨e1, e2⟩ := HV.out
      rw [E.out] at e1 e2
      exact ⟨by rw [← e1, ← e2]; rfl, rfl⟩
    · have hk64 : k < 64 := by
        rcases Nat.lt_or_ge k 64 with h | h
        · exact h
        · exfalso
          obtain rfl : k = 64 := by omega
          exact h0 (Nat.div_eq_of_lt hb)
      have t0 : ((b : Int) / 2 ^ k == 0) = false := by
        have : ((b / 2 ^ k : Nat) : Int) ≠ 0 := by omega
        rw [div_int]; simpa using this
      by_cases h1 : b / 2 ^ k % 2 = 0
      · have t1 : (bits .and .u64 ((b : Int) / 2 ^ k) 1 == 0) = true := by rw [div_int, and1 _ hr, h1]; rfl
        have H1 := Lib.hid h1
        clear h1 h0 hr
        go_wp2
        go_roundg (gk - 1)
        case measure => omega
        case rel => exact ⟨k + 1, x, y, by omega, by go_num, rfl, rfl, hx, hy, Lib.hid (by rw [words_same a b k H1.out]; exact HV.out), rfl⟩
      · have t1 : (bits .and .u64 ((b : Int) / 2 ^ k) 1 == 0) = false := by
          have : ((b / 2 ^ k % 2 : Nat) : Int) ≠ 0 := by omega
          rw [div_int, and1 _ hr]; simpa using this
        have H1 := Lib.hid h1
        clear h1 h0 hr
        have g1 : a / 2 ^ (64 - k) < 18446744073709551616 := Nat.lt_of_le_of_lt (Nat.div_le_self _ _) ha
        have g2 : a * 2 ^ k % 18446744073709551616 < 18446744073709551616 := Nat.mod_lt _ (by decide)
        go_wp2
        go_roundg (gk - 1)
        case measure => omega
        case rel =>
          obtain ⟨e1, e2⟩ := HV.out
          obtain ⟨m1, m2⟩ := words_more a b k H1.out hk64
          refine ⟨k + 1, x ^^^ a / 2 ^ (64 - k), y ^^^ a * 2 ^ k % 18446744073709551616, by omega, by go_num, ?_, ?_, word_xor hx g1, word_xor hy g2, Lib.hid ⟨?_, ?_⟩, rfl⟩
          · rw [div_int, xor_int _ _ hx g1]
          · show Value.int .u64 _ = _
            rw [mul_int, wrap_nat, xor_int _ _ hy g2]
          · rw [m1, e1]
          · rw [m2, e2]
end Go.Proofs.YtfpbfibnkknhdaaDoor
