/-
  What the calls Left, Right, Bit and Len of package wide answer: a times 2^n modulo 2^128, a by 2^n down, a bit, and how many bits there are, for all words and all places.
  No condition beside that each word lies below 2^64 and each place is an int.
-/
import Derived.Test.YtolicfackceomaaWideA
import Derived.Test.YtolicfackceomaaWideM
import Derived.Test.YtolicfackceomaaWideS
namespace Go.Proofs.Ytolicfackceomaa.Wd
open Go.RowKit
set_option linter.unusedVariables false

theorem is_of_nat {n h l : Nat} (b2 : h < 18446744073709551616) (b4 : l < 18446744073709551616) (hv : h * 18446744073709551616 + l = n) : Is (n : Int) (h : Int) (l : Int) :=
  ⟨by omega, by omega, by omega, by omega, by omega⟩

set_option maxRecDepth 100000 in
set_option maxHeartbeats 400000 in
theorem wRightNeg (ah al n : Int) (hn : n ≤ 0) (w : World) :
    Calls Try.prog 34 #[.agg #[.int .u64 ah, .int .u64 al], .int .i64 n] w (U1 (fun h l => h = ah ∧ l = al) w) := by
  go_enter Try.func34, Try.ntmps34
  go_wp2
  go_returns
  exact ⟨_, _, ⟨rfl, rfl⟩, rfl, by go_grown⟩

set_option maxRecDepth 100000 in
set_option maxHeartbeats 400000 in
theorem wRightOut (ah al : Int) (n : Nat) (hn : 128 ≤ n) (w : World) :
    Calls Try.prog 34 #[.agg #[.int .u64 ah, .int .u64 al], .int .i64 n] w (U1 (fun h l => h = 0 ∧ l = 0) w) := by
  go_enter Try.func34, Try.ntmps34
  go_wp2
  go_returns
  exact ⟨_, _, ⟨rfl, rfl⟩, rfl, by go_grown⟩

set_option maxRecDepth 100000 in
set_option maxHeartbeats 400000 in
theorem wRightHigh (ah al n : Nat) (h1 : ah < 18446744073709551616) (h2 : al < 18446744073709551616) (hn : 64 ≤ n) (hm : n < 128) (w : World) :
    Calls Try.prog 34 #[.agg #[.int .u64 ah, .int .u64 al], .int .i64 n] w (U1 (fun h l => Is (((ah * 18446744073709551616 + al) / 2 ^ n : Nat) : Int) h l) w) := by
  go_enter Try.func34, Try.ntmps34
  go_wp2
  go_returns
  refine ⟨_, _, ?_, rfl, by go_grown⟩
  rw [div_shr]
  have hl : ah / 2 ^ (n - 64) ≤ ah := Nat.div_le_self _ _
  refine is_of_nat (h := 0) (by omega) (by omega) ?_
  have := right_high ah al (n - 64) h2
  rw [show 64 + (n - 64) = n from by omega] at this
  rw [← this, Nat.zero_mul, Nat.zero_add]

set_option maxRecDepth 100000 in
set_option maxHeartbeats 400000 in
theorem wRightLow (ah al n : Nat) (h1 : ah < 18446744073709551616) (h2 : al < 18446744073709551616) (hn : 0 < n) (hm : n < 64) (w : World) :
    Calls Try.prog 34 #[.agg #[.int .u64 ah, .int .u64 al], .int .i64 n] w (U1 (fun h l => Is (((ah * 18446744073709551616 + al) / 2 ^ n : Nat) : Int) h l) w) := by
  go_enter Try.func34, Try.ntmps34
  go_wp2
  go_region
  go_wp2
  go_returns
  refine ⟨_, _, ?_, rfl, by go_grown⟩
  obtain ⟨e1, e2, e3⟩ := right_low ah al n (by omega) h1 h2
  rw [e1, div_shr]
  have hl : ah / 2 ^ n ≤ ah := Nat.div_le_self _ _
  exact is_of_nat (by omega) e2 e3

theorem wRight (ah al n : Int) (a1 : 0 ≤ ah) (a2 : ah < 18446744073709551616) (a3 : 0 ≤ al) (a4 : al < 18446744073709551616) (w : World) :
    Calls Try.prog 34 #[.agg #[.int .u64 ah, .int .u64 al], .int .i64 n] w
      (U1 (fun h l => Is ((ah * 18446744073709551616 + al) / 2 ^ n.toNat) h l) w) := by
  by_cases hn : n ≤ 0
  · refine (wRightNeg ah al n hn w).mono ?_
    rintro e w' ⟨h, l, ⟨rfl, rfl⟩, rfl, hb⟩
    rw [show n.toNat = 0 from by omega]
    exact ⟨_, _, ⟨a1, a2, a3, a4, by omega⟩, rfl, hb⟩
  · obtain ⟨ah, rfl⟩ := Int.eq_ofNat_of_zero_le a1
    obtain ⟨al, rfl⟩ := Int.eq_ofNat_of_zero_le a3
    obtain ⟨n, rfl⟩ := Int.eq_ofNat_of_zero_le (show 0 ≤ n from by omega)
    have e : (((ah : Int) * 18446744073709551616 + al) / 2 ^ ((n : Int).toNat)) = (((ah * 18446744073709551616 + al) / 2 ^ n : Nat) : Int) := by
      rw [Int.natCast_ediv, Int.natCast_pow, Int.natCast_add, Int.natCast_mul, Int.toNat_natCast]; rfl
    rw [e]
    by_cases h1 : n < 64
    · exact wRightLow ah al n (by omega) (by omega) (by omega) h1 w
    · by_cases h2 : n < 128
      · exact wRightHigh ah al n (by omega) (by omega) (by omega) h2 w
      · refine (wRightOut ah al n (by omega) w).mono ?_
        rintro e w' ⟨h, l, ⟨rfl, rfl⟩, rfl, hb⟩
        rw [right_out _ n (by omega) (by omega)]
        exact ⟨_, _, ⟨by omega, by omega, by omega, by omega, by omega⟩, rfl, hb⟩

/-- How many bits a number of two words has. -/
def lenOf (ah al : Int) : Int := if ah = 0 then (Lib.bitLen al.toNat : Int) else 64 + (Lib.bitLen ah.toNat : Int)
/-- A bit of a number. -/
def bitOf (v n : Int) : Int := if n < 0 then 0 else v / 2 ^ n.toNat % 2

end Go.Proofs.Ytolicfackceomaa.Wd
