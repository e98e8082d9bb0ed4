/-
  What math/bits.Div64 answers at ten, and Print of package wide.
-/
import Derived.Test.YtjgpmbgfcdckhaaWideA
import Derived.Test.YtjgpmbgfcdckhaaWideM
import Derived.Test.YtjgpmbgfcdckhaaWideS
import Derived.BigQuiet
import Derived.Deep.QuietTactic
namespace Go.Proofs.Ytjgpmbgfcdckhaa
open Go.RowKit
set_option linter.unusedVariables false

/-- An answer that is two words. -/
def W2 (P : Int → Int → Prop) (w : World) (e : Ending) (w' : World) : Prop :=
  ∃ q r : Int, P q r ∧ e = .returned (.tuple #[.int .u64 q, .int .u64 r]) ∧ Below w.heap.size w w'

theorem or60 (h l : Int) (a1 : 0 ≤ l) (a2 : l < 18446744073709551616) (h0 : 0 ≤ h) (h1 : h < 10) : bits .or .u64 (h * 1152921504606846976) (l / 16) = h * 1152921504606846976 + l / 16 := by
  obtain ⟨h, rfl⟩ := Int.eq_ofNat_of_zero_le h0
  obtain ⟨l, rfl⟩ := Int.eq_ofNat_of_zero_le a1
  have e := bits_or_u64_nat (2 ^ 60 * h) (l / 16) (by omega) (by omega)
  rw [← Nat.two_pow_add_eq_or_of_lt (show l / 16 < 2 ^ 60 from by omega)] at e
  have k1 : ((2 ^ 60 * h : Nat) : Int) = (h : Int) * 1152921504606846976 := by omega
  have k2 : ((l / 16 : Nat) : Int) = (l : Int) / 16 := by omega
  rw [k1, k2] at e
  rw [e]
  omega
theorem and32 (l : Int) (h0 : 0 ≤ l) (h1 : l < 18446744073709551616) : bits .and .u64 l 4294967295 = l % 4294967296 := by
  obtain ⟨l, rfl⟩ := Int.eq_ofNat_of_zero_le h0
  rw [maskI l (by omega)]
  omega
theorem tdiv_pos (a b : Int) (h : 0 ≤ a) : a.tdiv b = a / b := Int.tdiv_eq_ediv_of_nonneg h

theorem part1 (X : Int) (xa : 0 ≤ X) (xb : X < 11529215046068469760) : ∃ q r : Int, IntKind.u64.wrap (X / 2684354560) = q ∧ IntKind.u64.wrap (X - IntKind.u64.wrap (q * 2684354560)) = r ∧
    0 ≤ q ∧ q < 4294967296 ∧ 0 ≤ r ∧ r < 2684354560 ∧ X = q * 2684354560 + r := by
  have a : X / 2684354560 < 4294967296 := by omega
  have b : 0 ≤ X / 2684354560 := by omega
  refine ⟨X / 2684354560, X % 2684354560, ?_, ?_, b, a, by omega, by omega, by omega⟩
  · rw [IntKind.wrap_u64]; omega
  · rw [IntKind.wrap_u64, IntKind.wrap_u64]
    have c : X / 2684354560 * 2684354560 ≤ X := by omega
    rw [Int.emod_eq_of_lt (a := X / 2684354560 * 2684354560) (by omega) (by omega)]
    omega
theorem part2 (X q r u : Int) (hX : X = q * 2684354560 + r) (ra : 0 ≤ r) (rb : r < 2684354560) (ua : 0 ≤ u) (ub : u < 4294967296) :
    IntKind.u64.wrap (IntKind.u64.wrap (IntKind.u64.wrap (X * 4294967296) + u) - IntKind.u64.wrap (q * 11529215046068469760)) = r * 4294967296 + u := by
  simp only [IntKind.wrap_u64]
  omega

theorem part3 (h l X q1 r1 u1 Y q0 r0 : Int) (a1 : 0 ≤ l) (e0 : h * 1152921504606846976 + l / 16 = X) (e1 : X = q1 * 2684354560 + r1) (e2 : u1 = l % 16 * 268435456) (e3 : r1 * 4294967296 + u1 = Y)
    (e4 : Y = q0 * 2684354560 + r0) (r0a : 0 ≤ r0) (r0b : r0 < 2684354560) :
    q1 * 4294967296 + q0 = (h * 18446744073709551616 + l) / 10 ∧
    IntKind.u64.wrap (IntKind.u64.wrap (IntKind.u64.wrap (Y * 4294967296)) - IntKind.u64.wrap (q0 * 11529215046068469760)) / 1152921504606846976 = (h * 18446744073709551616 + l) % 10 := by
  have hd : r0 = 268435456 * (16 * r1 + l % 16 - 10 * q0) := by omega
  have hN : h * 18446744073709551616 + l = 10 * (q1 * 4294967296 + q0) + (16 * r1 + l % 16 - 10 * q0) := by omega
  generalize 16 * r1 + l % 16 - 10 * q0 = d at hd hN
  rw [hN]
  refine ⟨by omega, ?_⟩
  have hw : IntKind.u64.wrap (IntKind.u64.wrap (IntKind.u64.wrap (Y * 4294967296)) - IntKind.u64.wrap (q0 * 11529215046068469760)) = r0 * 4294967296 := by
    simp only [IntKind.wrap_u64]
    rw [e4]
    omega
  rw [hw, hd]
  omega

set_option maxRecDepth 100000 in
set_option maxHeartbeats 1000000 in
theorem div10_0 (l : Int) (a1 : 0 ≤ l) (a2 : l < 18446744073709551616) (w : World) :
    Calls Try.prog 42 #[.int .u64 0, .int .u64 l, .int .u64 10] w (W2 (fun q r => q = l / 10 ∧ r = l % 10) w) := by
  go_enter Try.func42, Try.ntmps42
  go_wp2
  go_quiet (fail)
  go_wp2
  go_ret2
  exact ⟨_, _, ⟨rfl, rfl⟩, rfl, below_drewN _⟩

set_option maxRecDepth 100000 in
set_option maxHeartbeats 1000000 in
theorem div10_1 (h l : Int) (a1 : 0 ≤ l) (a2 : l < 18446744073709551616) (h0 : 0 < h) (h1 : h < 10) (w : World) :
    Calls Try.prog 42 #[.int .u64 h, .int .u64 l, .int .u64 10] w (W2 (fun q r => q = (h * 18446744073709551616 + l) / 10 ∧ r = (h * 18446744073709551616 + l) % 10) w) := by
  have hb : (h == 0) = false := by simp; omega
  go_enter Try.func42, Try.ntmps42
  go_wp2_with fail
  refine (lz64 10 _ (by omega) (by omega)).mono ?_
  rintro e w' ⟨rfl, rfl⟩
  rw [show (64 - (Lib.bitLen (10 : Int).toNat : Int)) = 60 from by decide +kernel]
  go_wp2
  rw [show IntKind.u64.wrap (l * 1152921504606846976) = l % 16 * 1152921504606846976 from by rw [IntKind.wrap_u64]; omega]
  rw [or60 h l a1 a2 (by omega) h1, and32 11529215046068469760 (by omega) (by omega), and32 (l % 16 * 1152921504606846976) (by omega) (by omega)]
  rw [show (11529215046068469760 : Int) % 4294967296 = 0 from by decide]
  rw [tdiv_pos _ _ (by omega)]
  have xa : 0 ≤ h * 1152921504606846976 + l / 16 := by omega
  have xb : h * 1152921504606846976 + l / 16 < 11529215046068469760 := by omega
  generalize hX : h * 1152921504606846976 + l / 16 = X at xa xb ⊢
  have E0 := Lib.hid hX
  clear hX
  obtain ⟨q1, r1, f1, f2, q1a, q1b, r1a, r1b, f3⟩ := part1 X xa xb
  rw [f1, f2]
  have E1 := Lib.hid f3
  clear f1 f2 f3
  generalize hu1 : l % 16 * 1152921504606846976 / 4294967296 = u1
  have u1a : 0 ≤ u1 := by omega
  have u1b : u1 < 4294967296 := by omega
  have E2 := Lib.hid (show u1 = l % 16 * 268435456 from by omega)
  clear hu1
  rw [show l % 16 * 1152921504606846976 % 4294967296 = 0 from by omega]
  refine wp_loop_rounds 1 ?_
  rw [rounds_succ]
  go_wp2
  rw [part2 X q1 r1 u1 E1.out r1a r1b u1a u1b, tdiv_pos _ _ (by omega)]
  have ya : 0 ≤ r1 * 4294967296 + u1 := by omega
  have yb : r1 * 4294967296 + u1 < 11529215046068469760 := by omega
  generalize hY : r1 * 4294967296 + u1 = Y at ya yb ⊢
  have E3 := Lib.hid hY
  clear hY
  obtain ⟨q0, r0, f1, f2, q0a, q0b, r0a, r0b, f3⟩ := part1 Y ya yb
  rw [f1, f2]
  have E4 := Lib.hid f3
  clear f1 f2 f3
  refine wp_loop_rounds 1 ?_
  rw [rounds_succ]
  go_wp2
  go_ret2
  refine ⟨_, _, ⟨?_, ?_⟩, rfl, Below.refl _ _⟩
  · show _ = _
    exact (part3 h l X q1 r1 u1 Y q0 r0 a1 E0.out E1.out E2.out E3.out E4.out r0a r0b).1
  · show _ = _
    exact (part3 h l X q1 r1 u1 Y q0 r0 a1 E0.out E1.out E2.out E3.out E4.out r0a r0b).2

theorem div10 (h l : Int) (a1 : 0 ≤ l) (a2 : l < 18446744073709551616) (h0 : 0 ≤ h) (h1 : h < 10) (w : World) :
    Calls Try.prog 42 #[.int .u64 h, .int .u64 l, .int .u64 10] w (W2 (fun q r => q = (h * 18446744073709551616 + l) / 10 ∧ r = (h * 18446744073709551616 + l) % 10) w) := by
  by_cases hz : h = 0
  · subst hz
    rw [Int.zero_mul, Int.zero_add]
    exact div10_0 l a1 a2 w
  · exact div10_1 h l a1 a2 (by omega) h1 w

/-- An answer that is one number of 128 bits, and a word. -/
def U3 (P : Int → Int → Int → Prop) (w : World) (e : Ending) (w' : World) : Prop :=
  ∃ h l d : Int, P h l d ∧ e = .returned (.tuple #[.agg #[.int .u64 h, .int .u64 l], .int .u64 d]) ∧ Below w.heap.size w w'

set_option maxRecDepth 100000 in
set_option maxHeartbeats 1000000 in
theorem wByTen (ah al : Int) (a1 : 0 ≤ ah) (a2 : ah < 18446744073709551616) (a3 : 0 ≤ al) (a4 : al < 18446744073709551616) (w : World) :
    Calls Try.prog 40 #[.agg #[.int .u64 ah, .int .u64 al]] w
      (U3 (fun h l d => Is ((ah * 18446744073709551616 + al) / 10) h l ∧ d = (ah * 18446744073709551616 + al) % 10) w) := by
  go_enter Try.func40, Try.ntmps40
  go_wp2_with fail
  go_quiet (fail)
  go_wp2_with fail
  refine (div10 _ _ (by omega) (by omega) (by omega) (by omega) _).mono ?_
  rintro e w' ⟨q, r, ⟨eq, er⟩, rfl, hb⟩
  obtain ⟨z0, c0, c1, f0, f1⟩ := ((Own.fresh _ (.int .u64 0) (.int .u64 0) 24).drewN _).below hb
  simp only [World.size_alloc] at z0 c0 c1 f0 f1
  have hb0 : Below w.heap.size w w' := below_then (below_drewN' (by go_grown) _) hb
  have EQ := Lib.hid eq
  have ER := Lib.hid er
  clear eq er
  go_wp2
  refine bodyPost_ret (v := .tuple #[.agg #[.int .u64 (ah / 10), .int .u64 q], .int .u64 r]) (by simp [results, Try.results40, go_sem, c0, c1]) rfl ⟨_, _, _, ⟨?_, ?_⟩, rfl, ?_⟩
  · have := EQ.out
    refine ⟨by omega, by omega, by omega, by omega, by omega⟩
  · have := ER.out
    omega
  · go_grown
end Go.Proofs.Ytjgpmbgfcdckhaa
