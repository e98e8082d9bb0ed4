/-
  What math/bits.Div64 answers at ten, and Print of package wide.
-/
import Derived.Test.YtolicfackceomaaWideA
import Derived.Test.YtolicfackceomaaWideM
import Derived.Test.YtolicfackceomaaWideS
import Derived.BigQuiet
import Derived.Deep.QuietTactic
namespace Go.Proofs.Ytolicfackceomaa.Wd
open Go.RowKit
set_option linter.unusedVariables false

/-- An answer that is two words. -/
def W2 (P : Int → Int → Prop) (w : World) (e : Ending) (w' : World) : Prop :=
  ∃ q r : Int, P q r ∧ e = .returned (.tuple #[.int .u64 q, .int .u64 r]) ∧ Below w.heap.size w w'

theorem or60 (h l : Int) (a1 : 0 ≤ l) (a2 : l < 18446744073709551616) (h0 : 0 ≤ h) (h1 : h < 10) : bits .or .u64 (h * 1152921504606846976) (l / 16) = h * 1152921504606846976 + l / 16 := by
  obtain ⟨h, rfl⟩ := Int.eq_ofNat_of_zero_le h0
  obtain ⟨l, rfl⟩ := Int.eq_ofNat_of_zero_le a1
  have e := bits_or_u64_nat (2 ^ 60 * h) (l / 16) (by omega) (by omega)
  rw [← Nat.two_pow_add_eq_or_of_lt (show l / 16 < 2 ^ 60 from by omega)] at e
  have k1 : ((2 ^ 60 * h : Nat) : Int) = (h : Int) * 1152921504606846976 := by omega
  have k2 : ((l / 16 : Nat) : Int) = (l : Int) / 16 := by omega
  rw [k1, k2] at e
  rw [e]
  omega
theorem and32 (l : Int) (h0 : 0 ≤ l) (h1 : l < 18446744073709551616) : bits .and .u64 l 4294967295 = l % 4294967296 := by
  obtain ⟨l, rfl⟩ := Int.eq_ofNat_of_zero_le h0
  rw [maskI l (by omega)]
  omega
theorem tdiv_pos (a b : Int) (h : 0 ≤ a) : a.tdiv b = a / b := Int.tdiv_eq_ediv_of_nonneg h

theorem part1 (X : Int) (xa : 0 ≤ X) (xb : X < 11529215046068469760) : ∃ q r : Int, IntKind.u64.wrap (X / 2684354560) = q ∧ IntKind.u64.wrap (X - IntKind.u64.wrap (q * 2684354560)) = r ∧
    0 ≤ q ∧ q < 4294967296 ∧ 0 ≤ r ∧ r < 2684354560 ∧ X = q * 2684354560 + r := by
  have a : X / 2684354560 < 4294967296 := by omega
  have b : 0 ≤ X / 2684354560 := by omega
  refine ⟨X / 2684354560, X % 2684354560, ?_, ?_, b, a, by omega, by omega, by omega⟩
  · rw [IntKind.wrap_u64]; omega
  · rw [IntKind.wrap_u64, IntKind.wrap_u64]
    have c : X / 2684354560 * 2684354560 ≤ X := by omega
    rw [Int.emod_eq_of_lt (a := X / 2684354560 * 2684354560) (by omega) (by omega)]
    omega
theorem part2 (X q r u : Int) (hX : X = q * 2684354560 + r) (ra : 0 ≤ r) (rb : r < 2684354560) (ua : 0 ≤ u) (ub : u < 4294967296) :
    IntKind.u64.wrap (IntKind.u64.wrap (IntKind.u64.wrap (X * 4294967296) + u) - IntKind.u64.wrap (q * 11529215046068469760)) = r * 4294967296 + u := by
  simp only [IntKind.wrap_u64]
  omega

theorem part3 (h l X q1 r1 u1 Y q0 r0 : Int) (a1 : 0 ≤ l) (e0 : h * 1152921504606846976 + l / 16 = X) (e1 : X = q1 * 2684354560 + r1) (e2 : u1 = l % 16 * 268435456) (e3 : r1 * 4294967296 + u1 = Y)
    (e4 : Y = q0 * 2684354560 + r0) (r0a : 0 ≤ r0) (r0b : r0 < 2684354560) :
    q1 * 4294967296 + q0 = (h * 18446744073709551616 + l) / 10 ∧
    IntKind.u64.wrap (IntKind.u64.wrap (IntKind.u64.wrap (Y * 4294967296)) - IntKind.u64.wrap (q0 * 11529215046068469760)) / 1152921504606846976 = (h * 18446744073709551616 + l) % 10 := by
  have hd : r0 = 268435456 * (16 * r1 + l % 16 - 10 * q0) := by omega
  have hN : h * 18446744073709551616 + l = 10 * (q1 * 4294967296 + q0) + (16 * r1 + l % 16 - 10 * q0) := by omega
  generalize 16 * r1 + l % 16 - 10 * q0 = d at hd hN
  rw [hN]
  refine ⟨by omega, ?_⟩
  have hw : IntKind.u64.wrap (IntKind.u64.wrap (IntKind.u64.wrap (Y * 4294967296)) - IntKind.u64.wrap (q0 * 11529215046068469760)) = r0 * 4294967296 := by
    simp only [IntKind.wrap_u64]
    rw [e4]
    omega
  rw [hw, hd]
  omega

/-- An answer that is one number of 128 bits, and a word. -/
def U3 (P : Int → Int → Int → Prop) (w : World) (e : Ending) (w' : World) : Prop :=
  ∃ h l d : Int, P h l d ∧ e = .returned (.tuple #[.agg #[.int .u64 h, .int .u64 l], .int .u64 d]) ∧ Below w.heap.size w w'

end Go.Proofs.Ytolicfackceomaa.Wd
