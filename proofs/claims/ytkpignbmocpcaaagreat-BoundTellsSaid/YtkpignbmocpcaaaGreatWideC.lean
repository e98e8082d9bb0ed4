/-
  What the calls Left, Right, Bit and Len of package wide answer: a times 2^n modulo 2^128, a by 2^n down, a bit, and how many bits there are, for all words and all places.
  No condition beside that each word lies below 2^64 and each place is an int.
-/
import Derived.Test.YtkpignbmocpcaaaGreatWideA
import Derived.Test.YtkpignbmocpcaaaGreatWideM
namespace Go.Proofs.YtkpignbmocpcaaaGreat.Wd
open Go.RowKit
set_option linter.unusedVariables false

theorem is_of_nat {n h l : Nat} (b2 : h < 18446744073709551616) (b4 : l < 18446744073709551616) (hv : h * 18446744073709551616 + l = n) : Is (n : Int) (h : Int) (l : Int) :=
  ⟨by omega, by omega, by omega, by omega, by omega⟩

set_option maxRecDepth 100000 in
set_option maxHeartbeats 400000 in
theorem wLeftNeg (ah al n : Int) (hn : n ≤ 0) (w : World) :
    Calls Tryz.prog 46 #[.agg #[.int .u64 ah, .int .u64 al], .int .i64 n] w (U1 (fun h l => h = ah ∧ l = al) w) := by
  go_enter Tryz.func46, Tryz.ntmps46
  go_wp2
  go_returns
  exact ⟨_, _, ⟨rfl, rfl⟩, rfl, by go_grown⟩

set_option maxRecDepth 100000 in
set_option maxHeartbeats 400000 in
theorem wLeftOut (ah al : Int) (n : Nat) (hn : 128 ≤ n) (w : World) :
    Calls Tryz.prog 46 #[.agg #[.int .u64 ah, .int .u64 al], .int .i64 n] w (U1 (fun h l => h = 0 ∧ l = 0) w) := by
  go_enter Tryz.func46, Tryz.ntmps46
  go_wp2
  go_returns
  exact ⟨_, _, ⟨rfl, rfl⟩, rfl, by go_grown⟩

set_option maxRecDepth 100000 in
set_option maxHeartbeats 400000 in
theorem wLeftHigh (ah al n : Nat) (h1 : ah < 18446744073709551616) (h2 : al < 18446744073709551616) (hn : 64 ≤ n) (hm : n < 128) (w : World) :
    Calls Tryz.prog 46 #[.agg #[.int .u64 ah, .int .u64 al], .int .i64 n] w (U1 (fun h l => Is (((ah * 18446744073709551616 + al) * 2 ^ n % 340282366920938463463374607431768211456 : Nat) : Int) h l) w) := by
  go_enter Tryz.func46, Tryz.ntmps46
  go_wp2
  go_returns
  refine ⟨_, _, ?_, rfl, by go_grown⟩
  rw [wrap_shl]
  refine is_of_nat (l := 0) (Nat.mod_lt _ (by omega)) (by omega) ?_
  have := left_high ah al (n - 64) h2
  rw [show 64 + (n - 64) = n from by omega] at this
  rw [← this, Nat.add_zero]

set_option maxRecDepth 100000 in
set_option maxHeartbeats 400000 in
theorem wLeftLow (ah al n : Nat) (h1 : ah < 18446744073709551616) (h2 : al < 18446744073709551616) (hn : 0 < n) (hm : n < 64) (w : World) :
    Calls Tryz.prog 46 #[.agg #[.int .u64 ah, .int .u64 al], .int .i64 n] w (U1 (fun h l => Is (((ah * 18446744073709551616 + al) * 2 ^ n % 340282366920938463463374607431768211456 : Nat) : Int) h l) w) := by
  go_enter Tryz.func46, Tryz.ntmps46
  go_wp2
  go_region
  go_wp2
  go_returns
  refine ⟨_, _, ?_, rfl, by go_grown⟩
  obtain ⟨e1, e2, e3⟩ := left_low ah al n (by omega) h1 h2
  rw [e1, wrap_shl]
  exact is_of_nat e2 (Nat.mod_lt _ (by omega)) e3

theorem wLeft (ah al n : Int) (a1 : 0 ≤ ah) (a2 : ah < 18446744073709551616) (a3 : 0 ≤ al) (a4 : al < 18446744073709551616) (w : World) :
    Calls Tryz.prog 46 #[.agg #[.int .u64 ah, .int .u64 al], .int .i64 n] w
      (U1 (fun h l => Is ((ah * 18446744073709551616 + al) * 2 ^ n.toNat % 340282366920938463463374607431768211456) h l) w) := by
  by_cases hn : n ≤ 0
  · refine (wLeftNeg ah al n hn w).mono ?_
    rintro e w' ⟨h, l, ⟨rfl, rfl⟩, rfl, hb⟩
    rw [show n.toNat = 0 from by omega]
    exact ⟨_, _, ⟨a1, a2, a3, a4, by omega⟩, rfl, hb⟩
  · obtain ⟨ah, rfl⟩ := Int.eq_ofNat_of_zero_le a1
    obtain ⟨al, rfl⟩ := Int.eq_ofNat_of_zero_le a3
    obtain ⟨n, rfl⟩ := Int.eq_ofNat_of_zero_le (show 0 ≤ n from by omega)
    have e : (((ah : Int) * 18446744073709551616 + al) * 2 ^ ((n : Int).toNat) % 340282366920938463463374607431768211456) = (((ah * 18446744073709551616 + al) * 2 ^ n % 340282366920938463463374607431768211456 : Nat) : Int) := by
      rw [Int.natCast_emod, Int.natCast_mul, Int.natCast_pow, Int.natCast_add, Int.natCast_mul, Int.toNat_natCast]; rfl
    rw [e]
    by_cases h1 : n < 64
    · exact wLeftLow ah al n (by omega) (by omega) (by omega) h1 w
    · by_cases h2 : n < 128
      · exact wLeftHigh ah al n (by omega) (by omega) (by omega) h2 w
      · refine (wLeftOut ah al n (by omega) w).mono ?_
        rintro e w' ⟨h, l, ⟨rfl, rfl⟩, rfl, hb⟩
        rw [left_out _ n (by omega)]
        exact ⟨_, _, ⟨by omega, by omega, by omega, by omega, by omega⟩, rfl, hb⟩

set_option maxRecDepth 100000 in
set_option maxHeartbeats 400000 in
theorem wRightNeg (ah al n : Int) (hn : n ≤ 0) (w : World) :
    Calls Tryz.prog 144 #[.agg #[.int .u64 ah, .int .u64 al], .int .i64 n] w (U1 (fun h l => h = ah ∧ l = al) w) := by
  go_enter Tryz.func144, Tryz.ntmps144
  go_wp2
  go_returns
  exact ⟨_, _, ⟨rfl, rfl⟩, rfl, by go_grown⟩

set_option maxRecDepth 100000 in
set_option maxHeartbeats 400000 in
theorem wRightOut (ah al : Int) (n : Nat) (hn : 128 ≤ n) (w : World) :
    Calls Tryz.prog 144 #[.agg #[.int .u64 ah, .int .u64 al], .int .i64 n] w (U1 (fun h l => h = 0 ∧ l = 0) w) := by
  go_enter Tryz.func144, Tryz.ntmps144
  go_wp2
  go_returns
  exact ⟨_, _, ⟨rfl, rfl⟩, rfl, by go_grown⟩

set_option maxRecDepth 100000 in
set_option maxHeartbeats 400000 in
theorem wRightHigh (ah al n : Nat) (h1 : ah < 18446744073709551616) (h2 : al < 18446744073709551616) (hn : 64 ≤ n) (hm : n < 128) (w : World) :
    Calls Tryz.prog 144 #[.agg #[.int .u64 ah, .int .u64 al], .int .i64 n] w (U1 (fun h l => Is (((ah * 18446744073709551616 + al) / 2 ^ n : Nat) : Int) h l) w) := by
  go_enter Tryz.func144, Tryz.ntmps144
  go_wp2
  go_returns
  refine ⟨_, _, ?_, rfl, by go_grown⟩
  rw [div_shr]
  have hl : ah / 2 ^ (n - 64) ≤ ah := Nat.div_le_self _ _
  refine is_of_nat (h := 0) (by omega) (by omega) ?_
  have := right_high ah al (n - 64) h2
  rw [show 64 + (n - 64) = n from by omega] at this
  rw [← this, Nat.zero_mul, Nat.zero_add]

set_option maxRecDepth 100000 in
set_option maxHeartbeats 400000 in
theorem wRightLow (ah al n : Nat) (h1 : ah < 18446744073709551616) (h2 : al < 18446744073709551616) (hn : 0 < n) (hm : n < 64) (w : World) :
    Calls Tryz.prog 144 #[.agg #[.int .u64 ah, .int .u64 al], .int .i64 n] w (U1 (fun h l => Is (((ah * 18446744073709551616 + al) / 2 ^ n : Nat) : Int) h l) w) := by
  go_enter Tryz.func144, Tryz.ntmps144
  go_wp2
  go_region
  go_wp2
  go_returns
  refine ⟨_, _, ?_, rfl, by go_grown⟩
  obtain ⟨e1, e2, e3⟩ := right_low ah al n (by omega) h1 h2
  rw [e1, div_shr]
  have hl : ah / 2 ^ n ≤ ah := Nat.div_le_self _ _
  exact is_of_nat (by omega) e2 e3

theorem wRight (ah al n : Int) (a1 : 0 ≤ ah) (a2 : ah < 18446744073709551616) (a3 : 0 ≤ al) (a4 : al < 18446744073709551616) (w : World) :
    Calls Tryz.prog 144 #[.agg #[.int .u64 ah, .int .u64 al], .int .i64 n] w
      (U1 (fun h l => Is ((ah * 18446744073709551616 + al) / 2 ^ n.toNat) h l) w) := by
  by_cases hn : n ≤ 0
  · refine (wRightNeg ah al n hn w).mono ?_
    rintro e w' ⟨h, l, ⟨rfl, rfl⟩, rfl, hb⟩
    rw [show n.toNat = 0 from by omega]
    exact ⟨_, _, ⟨a1, a2, a3, a4, by omega⟩, rfl, hb⟩
  · obtain ⟨ah, rfl⟩ := Int.eq_ofNat_of_zero_le a1
    obtain ⟨al, rfl⟩ := Int.eq_ofNat_of_zero_le a3
    obtain ⟨n, rfl⟩ := Int.eq_ofNat_of_zero_le (show 0 ≤ n from by omega)
    have e : (((ah : Int) * 18446744073709551616 + al) / 2 ^ ((n : Int).toNat)) = (((ah * 18446744073709551616 + al) / 2 ^ n : Nat) : Int) := by
      rw [Int.natCast_ediv, Int.natCast_pow, Int.natCast_add, Int.natCast_mul, Int.toNat_natCast]; rfl
    rw [e]
    by_cases h1 : n < 64
    · exact wRightLow ah al n (by omega) (by omega) (by omega) h1 w
    · by_cases h2 : n < 128
      · exact wRightHigh ah al n (by omega) (by omega) (by omega) h2 w
      · refine (wRightOut ah al n (by omega) w).mono ?_
        rintro e w' ⟨h, l, ⟨rfl, rfl⟩, rfl, hb⟩
        rw [right_out _ n (by omega) (by omega)]
        exact ⟨_, _, ⟨by omega, by omega, by omega, by omega, by omega⟩, rfl, hb⟩

/-- A bit of a number. -/
def bitOf (v n : Int) : Int := if n < 0 then 0 else v / 2 ^ n.toNat % 2

set_option maxRecDepth 100000 in
set_option maxHeartbeats 400000 in
theorem wBit (ah al n : Int) (a1 : 0 ≤ ah) (a2 : ah < 18446744073709551616) (a3 : 0 ≤ al) (a4 : al < 18446744073709551616) (w : World) :
    Calls Tryz.prog 133 #[.agg #[.int .u64 ah, .int .u64 al], .int .i64 n] w
      (I1 (fun r => r = bitOf (ah * 18446744073709551616 + al) n) w) := by
  by_cases hn : n < 0
  · have E := Lib.hid (show 0 = bitOf (ah * 18446744073709551616 + al) n from by rw [bitOf, if_pos hn])
    go_enter Tryz.func133, Tryz.ntmps133
    go_wp2
    go_returns
    exact ⟨_, E.out, rfl, by go_grown⟩
  · have E := Lib.hid (show (ah * 18446744073709551616 + al) / 2 ^ n.toNat % 2 = bitOf (ah * 18446744073709551616 + al) n from by rw [bitOf, if_neg hn])
    go_enter Tryz.func133, Tryz.ntmps133
    go_wp2_with fail
    refine (wRight _ _ _ a1 a2 a3 a4 _).mono ?_
    rintro e w' ⟨h, l, ⟨c1, c2, c3, c4, hv⟩, rfl, hb⟩
    have hb0 : Below w.heap.size w w' := below_then (by go_grown) hb
    have e1 := and_one l c3 c4
    have fld : ∀ w0 : World, (Instr.field 31 (.agg #[.int .u64 h, .int .u64 l]) 1).run Tryz.prog w0 = .ok (.int .u64 l) w0 := fun _ => by kernel_rfl
    have HV := Lib.hid hv
    clear hv
    go_wp2
    go_returns
    refine ⟨_, ?_, rfl, hb0⟩
    have hv := HV.out
    rw [← E.out, ← hv]
    omega
end Go.Proofs.YtkpignbmocpcaaaGreat.Wd
