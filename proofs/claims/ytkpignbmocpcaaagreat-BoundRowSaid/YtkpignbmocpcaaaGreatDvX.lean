/-
  What math/bits.Div64 answers, for all words where the divisor is above the high one.
-/
import Derived.Test.YtkpignbmocpcaaaGreatDvW
import Derived.Test.YtkpignbmocpcaaaGreatWideS
import Derived.Test.YtkpignbmocpcaaaGreatWideM
namespace Go.Proofs.YtkpignbmocpcaaaGreat.Dv
open Go.RowKit
set_option linter.unusedVariables false
set_option maxRecDepth 100000

set_option maxHeartbeats 1000000 in
theorem divLow {l y : Nat} (hy : 0 < y) (hl : l < 18446744073709551616) (w : World) :
    Calls Tryz.prog 22 #[.int .u64 0, .int .u64 (l : Int), .int .u64 (y : Int)] w (fun e w' => e = .returned (.tuple #[.int .u64 ((l / y : Nat) : Int), .int .u64 ((l % y : Nat) : Int)]) ∧ Below w.heap.size w w') := by
  have z1 : ((y : Int) == 0) = false := by simp; omega
  have z2 : ¬ (y : Int) ≤ 0 := by omega
  have z3 : ¬ (y : Int) = 0 := by omega
  have e1 : (l : Int).tdiv (y : Int) = ((l / y : Nat) : Int) := by rw [Int.tdiv_eq_ediv_of_nonneg (by omega), Int.natCast_ediv]
  have e2 : (l : Int) / (y : Int) = ((l / y : Nat) : Int) := by rw [Int.natCast_ediv]
  have e3 : (l : Int).tmod (y : Int) = ((l % y : Nat) : Int) := by rw [Int.tmod_eq_emod_of_nonneg (by omega), Int.natCast_emod]
  have e4 : (l : Int) % (y : Int) = ((l % y : Nat) : Int) := by rw [Int.natCast_emod]
  have b1 : l / y ≤ l := Nat.div_le_self _ _
  have b2 : l % y ≤ l := Nat.mod_le _ _
  generalize l / y = q at e1 e2 b1 ⊢
  generalize l % y = r at e3 e4 b2 ⊢
  have e5 : IntKind.u64.wrap (q : Int) = (q : Int) := by rw [IntKind.wrap_u64]; omega
  have e6 : IntKind.u64.wrap (r : Int) = (r : Int) := by rw [IntKind.wrap_u64]; omega
  clear b1 b2 hl hy
  go_enter Tryz.func22, Tryz.ntmps22
  go_wp2
  go_quiet (fail)
  go_wp2
  go_ret2
  exact ⟨rfl, Wd.below_drewN' (Below.refl _ _) _⟩
theorem div64 {h l y : Nat} (hy : h < y) (hl : l < 18446744073709551616) (hY : y < 18446744073709551616) (w : World) :
    Calls Tryz.prog 22 #[.int .u64 (h : Int), .int .u64 (l : Int), .int .u64 (y : Int)] w (fun e w' => e = .returned (.tuple #[.int .u64 (((h * 18446744073709551616 + l) / y : Nat) : Int), .int .u64 (((h * 18446744073709551616 + l) % y : Nat) : Int)]) ∧ Below w.heap.size w w') := by
  rcases Nat.eq_zero_or_pos h with rfl | h0
  · rw [Nat.zero_mul, Nat.zero_add]
    exact divLow hy hl w
  · obtain ⟨a1, a2, a3, a4⟩ := Wd.bitLen_bd y hY
    have b0 : y ≠ 0 := by omega
    have c1 := a2 b0
    have c2 := a4 b0
    have c3 := Wd.bitLen_le y
    have LZ : Hid (∀ w : World, Calls Tryz.prog 33 #[.int .u64 (y : Int)] w (fun e w' => e = .returned (.int .i64 ((64 - Lib.bitLen y : Nat) : Int)) ∧ w = w')) := Lib.hid (fun W => by
      have k := Wd.lz64 (y : Int) W (by omega) (by omega)
      rw [Int.toNat_natCast, show (64 : Int) - (Lib.bitLen y : Int) = ((64 - Lib.bitLen y : Nat) : Int) by omega] at k
      exact k)
    generalize Lib.bitLen y = m at a1 c1 c2 c3 LZ
    have pp : 2 ^ m * 2 ^ (64 - m) = 18446744073709551616 := by rw [← Nat.pow_add, show m + (64 - m) = 64 by omega]
    have p0 : 0 < 2 ^ (64 - m) := Nat.two_pow_pos _
    have u1 : y * 2 ^ (64 - m) < 18446744073709551616 := by
      rw [← pp]
      exact Nat.mul_lt_mul_of_pos_right a1 p0
    have u2 : 9223372036854775808 ≤ y * 2 ^ (64 - m) := by
      have := Nat.mul_le_mul_right (2 ^ (64 - m)) c1
      rw [pp, Nat.mul_assoc] at this
      omega
    refine (divCore h0 hy hl (by omega) u1 u2 LZ w).mono ?_
    rintro e w' ⟨rfl, rfl⟩
    exact ⟨rfl, Below.refl _ _⟩
end Go.Proofs.YtkpignbmocpcaaaGreat.Dv
