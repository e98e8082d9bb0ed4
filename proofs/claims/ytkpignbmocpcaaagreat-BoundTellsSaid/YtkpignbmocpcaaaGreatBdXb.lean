/-
  What the call Range of package bound answers, and Next where it refuses.
-/
import Derived.Test.YtkpignbmocpcaaaGreatBdXa
namespace Go.Proofs.YtkpignbmocpcaaaGreat
open Go.RowKit
set_option linter.unusedVariables false
set_option maxRecDepth 100000

theorem ceil_of {A b : Nat} (hb : 0 < b) : (A + (b - 1)) / b = if 0 < A % b then A / b + 1 else A / b := by
  have h := Nat.div_add_mod A b
  have l := Nat.mod_lt A hb
  generalize A / b = q at h ⊢
  generalize A % b = r at h l ⊢
  subst h
  rw [Nat.add_assoc, Nat.mul_add_div hb]
  by_cases c : 0 < r
  · rw [if_pos c, show r + (b - 1) = (r - 1) + b by omega, Nat.add_div_right _ hb, Nat.div_eq_of_lt (by omega)]
  · rw [if_neg c, Nat.div_eq_of_lt (by omega)]; rfl
set_option maxHeartbeats 2000000 in
theorem bRangeYes {v b : Nat} (hv : v < b) (hb : b < N64) (w : World) : Calls Tryz.prog 8 #[.int .u64 (v : Int), .int .u64 (b : Int)] w (fun e w' => e = .returned (.tuple #[.int .u64 ((lowB N64 v b : Nat) : Int), .int .u64 ((highB N64 v b : Nat) : Int), .int .i64 0]) ∧ Below w.heap.size w w') := by
  have h0 : 0 < b := by omega
  have CR := Lib.hid (bRest h0 hb)
  have hr : N64 % b < b := Nat.mod_lt _ h0
  have hb' : b < 18446744073709551616 := hb
  have hw := low_le_high (N := N64) (v := v) h0 (Nat.le_of_lt hb)
  have hh : highB N64 v b < 18446744073709551616 := high_lt (N := N64) (by decide) hv
  have hl : lowB N64 v b = if 0 < (v * N64 + N64 % b) % b then (v * N64 + N64 % b) / b + 1 else (v * N64 + N64 % b) / b := ceil_of h0
  have C1 := Lib.hid (Dv.div64 (h := v) (l := N64 % b) (y := b) hv (by omega) hb')
  have C2 : Hid (∀ W : World, Calls Tryz.prog 22 #[.int .u64 (v : Int), .int .u64 18446744073709551615, .int .u64 (b : Int)] W (fun e w' => e = .returned (.tuple #[.int .u64 ((highB N64 v b : Nat) : Int), .int .u64 (((v * 18446744073709551616 + 18446744073709551615) % b : Nat) : Int)]) ∧ Below W.heap.size W w')) := Lib.hid (Dv.div64 (h := v) (l := 18446744073709551615) (y := b) hv (by decide) hb')
  change Hid (∀ W : World, Calls Tryz.prog 22 #[.int .u64 (v : Int), .int .u64 ((N64 % b : Nat) : Int), .int .u64 (b : Int)] W (fun e w' => e = .returned (.tuple #[.int .u64 (((v * N64 + N64 % b) / b : Nat) : Int), .int .u64 (((v * N64 + N64 % b) % b : Nat) : Int)]) ∧ Below W.heap.size W w')) at C1
  have z1 : ((b : Int) == 0) = false := by simp; omega
  have z2 : ¬ (b : Int) ≤ (v : Int) := by omega
  generalize (v * N64 + N64 % b) / b = q at C1 hl
  generalize (v * N64 + N64 % b) % b = m at C1 hl
  generalize highB N64 v b = H at C2 hw hh ⊢
  generalize lowB N64 v b = L at hl hw ⊢
  generalize N64 % b = R at CR C1
  generalize (v * 18446744073709551616 + 18446744073709551615) % b = m2 at C2
  clear hr hb hb' h0 hv
  have hL : L < 18446744073709551616 := by omega
  clear hw hh
  go_enter Tryz.func8, Tryz.ntmps8
  go_wp2_with fail
  refine (CR.out _).mono ?_
  rintro e V1 ⟨rfl, hb⟩
  have B := Lib.hid hb
  clear hb CR
  go_wp2_with fail
  refine (C1.out _).mono ?_
  rintro e V2 ⟨rfl, hb⟩
  replace B := Lib.hid (below_then B.out hb)
  clear hb C1
  by_cases hm : 0 < m
  · rw [if_pos hm] at hl
    have m1 : ((m : Int) == 0) = false := by simp; omega
    have m4 : ¬ (m : Int) = 0 := by omega
    have m3 : IntKind.u64.wrap ((q : Int) + 1) = (L : Int) := by rw [IntKind.wrap_u64]; omega
    clear hm hL hl
    go_wp2_with fail
    refine (C2.out _).mono ?_
    rintro e V3 ⟨rfl, hb⟩
    replace B := Lib.hid (below_then B.out hb)
    clear hb C2
    go_wp2_with fail
    go_returns
    exact ⟨rfl, B.out⟩
  · rw [if_neg hm] at hl
    subst hl
    obtain rfl : m = 0 := by omega
    clear hm hL
    go_wp2_with fail
    refine (C2.out _).mono ?_
    rintro e V3 ⟨rfl, hb⟩
    replace B := Lib.hid (below_then B.out hb)
    clear hb C2
    go_wp2_with fail
    go_returns
    exact ⟨rfl, B.out⟩
theorem bRangeZero (v : Int) (w : World) : Calls Tryz.prog 8 #[.int .u64 v, .int .u64 0] w (fun e w' => e = .returned (.tuple #[.int .u64 0, .int .u64 0, .int .i64 8]) ∧ Below w.heap.size w w') := by
  go_enter Tryz.func8, Tryz.ntmps8
  go_wp2
  go_returns
  exact ⟨rfl, Below.refl _ _⟩
theorem bRangeArg {v b : Nat} (h0 : 0 < b) (hv : b ≤ v) (w : World) : Calls Tryz.prog 8 #[.int .u64 (v : Int), .int .u64 (b : Int)] w (fun e w' => e = .returned (.tuple #[.int .u64 0, .int .u64 0, .int .i64 1]) ∧ Below w.heap.size w w') := by
  have z1 : ((b : Int) == 0) = false := by simp; omega
  have z2 : (b : Int) ≤ (v : Int) := by omega
  clear h0 hv
  go_enter Tryz.func8, Tryz.ntmps8
  go_wp2
  go_returns
  exact ⟨rfl, Below.refl _ _⟩
theorem bRange {v b : Nat} (hv : v < N64) (hb : b < N64) (w : World) : Calls Tryz.prog 8 #[.int .u64 (v : Int), .int .u64 (b : Int)] w (fun e w' => e = .returned (.tuple #[.int .u64 ((rgL v b : Nat) : Int), .int .u64 ((rgH v b : Nat) : Int), .int .i64 (rgE v b)]) ∧ Below w.heap.size w w') := by
  rcases Nat.eq_zero_or_pos b with rfl | h0
  · rw [show rgL v 0 = 0 from if_pos (Or.inl rfl), show rgH v 0 = 0 from if_pos (Or.inl rfl), show rgE v 0 = 8 from if_pos rfl]
    exact bRangeZero v w
  · rcases Nat.lt_or_ge v b with h1 | h1
    · have hn : ¬ (b = 0 ∨ b ≤ v) := by omega
      rw [show rgL v b = lowB N64 v b from if_neg hn, show rgH v b = highB N64 v b from if_neg hn, show rgE v b = 0 by unfold rgE; rw [if_neg (by omega), if_neg (by omega)]]
      exact bRangeYes h1 hb w
    · rw [show rgL v b = 0 from if_pos (Or.inr h1), show rgH v b = 0 from if_pos (Or.inr h1), show rgE v b = 1 by unfold rgE; rw [if_neg (by omega), if_pos h1]]
      exact bRangeArg h0 h1 w
theorem bNextNil (b : Int) (w : World) : Calls Tryz.prog 14 #[.pointer none, .int .u64 b] w (fun e w' => e = .returned (.tuple #[.int .u64 0, .int .i64 1]) ∧ Below w.heap.size w w') := by
  go_enter Tryz.func14, Tryz.ntmps14
  go_wp2
  go_step3
  go_wp2
  rw [Exit.noGoto_ret]
  go_returns
  exact ⟨rfl, Below.refl _ _⟩
theorem bNextZero (d : Nat) (w : World) : Calls Tryz.prog 14 #[.pointer (some ⟨d, 0, none⟩), .int .u64 0] w (fun e w' => e = .returned (.tuple #[.int .u64 0, .int .i64 8]) ∧ Below w.heap.size w w') := by
  go_enter Tryz.func14, Tryz.ntmps14
  go_wp2
  go_step3
  go_wp2
  rw [Exit.noGoto_ret]
  go_returns
  exact ⟨rfl, Below.refl _ _⟩
set_option maxHeartbeats 2000000 in
/-- Next, where the first word is taken. -/
theorem bNextTake {d c n f s t b : Nat} {w : World} (h : Sm w d c n f s t) (hf : f < t) (hp : f + 8 ≤ 9223372036854775808) (ht : t ≤ 9223372036854775808) (h0 : 0 < b) (hb : b < N64) (hk : takenB N64 (mixN (stepN s)) b = true) :
    Calls Tryz.prog 14 #[.pointer (some ⟨d, 0, none⟩), .int .u64 (b : Int)] w (fun e w' => e = .returned (.tuple #[.int .u64 ((tellB N64 (mixN (stepN s)) b : Nat) : Int), .int .i64 0]) ∧ Sm w' d c n (f + 1) (stepN s) t ∧ Only c w w') := by
  have CU := Lib.hid (smUint64 hf hp ht h)
  have CA := Lib.hid (bAccept (x := mixN (stepN s)) (b := b) (mix_lt _) hb)
  have hv : acV (mixN (stepN s)) b = tellB N64 (mixN (stepN s)) b := if_pos hk
  rw [hk, hv] at CA
  clear hk hv h hf
  generalize ((tellB N64 (mixN (stepN s)) b : Nat) : Int) = v at CA ⊢
  generalize ((mixN (stepN s) : Nat) : Int) = x at CA CU
  have z1 : ((b : Int) == 0) = false := by simp; omega
  clear h0 hb hp ht
  go_enter Tryz.func14, Tryz.ntmps14
  go_wp2
  go_step3
  go_wp2
  go_step3
  go_wp2
  go_loopg [6] 1 (fun g a wr => g = 1 ∧ a = .int .u64 0 ∧ wr = w)
  case atStart => exact ⟨rfl, rfl, rfl⟩
  case round =>
    obtain ⟨rfl, rfl, rfl⟩ := hrel
    go_wp2_with fail
    refine CU.out.mono ?_
    rintro e V ⟨rfl, hs, ho⟩
    have HK := Lib.hid (And.intro hs ho)
    clear hs ho CU
    go_wp2_with fail
    refine (CA.out _).mono ?_
    rintro e V2 ⟨rfl, hb⟩
    have F := Lib.hid (And.intro (HK.out.1.below hb) (HK.out.2.trans (Only.of_below hb)))
    clear HK hb CA
    go_wp2
    rw [Exit.noGoto_ret]
    go_returns
    exact ⟨rfl, F.out.1, F.out.2⟩
set_option maxHeartbeats 2000000 in
/-- Next, where nothing is left. -/
theorem bNextNone {d c f b : Nat} {w : World} (h : Sz w d c f f) (hp : f ≤ 9223372036854775808) (h0 : 0 < b) (hlt : b < N64) :
    Calls Tryz.prog 14 #[.pointer (some ⟨d, 0, none⟩), .int .u64 (b : Int)] w (fun e w' => e = .returned (.tuple #[.int .u64 0, .int .i64 7]) ∧ Below w.heap.size w w') := by
  have CU := Lib.hid (smEmpty hp h)
  have CA := Lib.hid (bAccept (x := 0) (b := b) (by decide) hlt)
  generalize acV 0 b = v at CA
  generalize takenB N64 0 b = tk at CA
  rw [show (((0 : Nat) : Int)) = 0 from rfl] at CA
  have z1 : ((b : Int) == 0) = false := by simp; omega
  clear h0 hp h hlt
  go_enter Tryz.func14, Tryz.ntmps14
  go_wp2
  go_step3
  go_wp2
  go_step3
  go_wp2
  go_loopg [6] 1 (fun g a wr => g = 1 ∧ a = .int .u64 0 ∧ wr = w)
  case atStart => exact ⟨rfl, rfl, rfl⟩
  case round =>
    obtain ⟨rfl, rfl, rfl⟩ := hrel
    go_wp2_with fail
    refine CU.out.mono ?_
    rintro e V ⟨rfl, hb⟩
    have HB := Lib.hid hb
    clear hb CU
    go_wp2_with fail
    refine (CA.out _).mono ?_
    rintro e V2 ⟨rfl, hb⟩
    replace HB := Lib.hid (below_then HB.out hb)
    clear hb CA
    go_wp2
    rw [Exit.noGoto_ret]
    go_returns
    exact ⟨rfl, HB.out⟩
end Go.Proofs.YtkpignbmocpcaaaGreat
