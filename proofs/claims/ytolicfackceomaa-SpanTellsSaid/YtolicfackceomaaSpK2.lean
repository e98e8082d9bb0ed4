/-
  What the calls Take and Halves of package span answer, for all spans and numbers, in the words of mathematics.
-/
import Derived.Test.YtolicfackceomaaSpD
import Derived.Test.YtolicfackceomaaSpI
namespace Go.Proofs.Ytolicfackceomaa
open Go.RowKit
set_option linter.unusedVariables false
set_option maxRecDepth 100000

theorem cmp_lt {M N : Nat} (h : M < N) : cmpN M N < 0 := of_decide_eq_true ((cmpN_lt M N).trans (decide_eq_true h))
theorem cmp_nlt {M N : Nat} (h : ¬ M < N) : ¬ cmpN M N < 0 := of_decide_eq_false ((cmpN_lt M N).trans (decide_eq_false h))
theorem cmp_le {M N : Nat} (h : M ≤ N) : cmpN M N ≤ 0 := of_decide_eq_true ((cmpN_le M N).trans (decide_eq_true h))
section
variable {s0 s1 s2 s3 k j : Int} {s : Sp} {n : Nat}
theorem sTakeArg (h : Ws s0 s1 s2 s3 s) (c : ¬ s.f ≤ s.t) : TSS 11 #[.agg #[.int .u64 s0, .int .u64 s1, .int .u64 s2, .int .u64 s3], .agg #[.int .u64 k, .int .u64 j]] 0 0 0 0 0 0 0 0 1 := by
  have R := sRight h
  rw [decide_eq_false c] at R
  exact takeNo _ _ _ _ _ _ (Lib.hid R)
theorem sTakeShort (h : Ws s0 s1 s2 s3 s) (i : Wn k j n) (c : s.f ≤ s.t) (d : lenS s < n) : TSS 11 #[.agg #[.int .u64 s0, .int .u64 s1, .int .u64 s2, .int .u64 s3], .agg #[.int .u64 k, .int .u64 j]] 0 0 0 0 0 0 0 0 7 := by
  have R := sRight h
  rw [decide_eq_true c] at R
  exact takeShort _ _ _ _ _ _ _ _ (cmpN (lenS s) n) (cmp_lt d) (Lib.hid R) (Lib.hid (sLen h)) (Lib.hid fun w => cCmp (wn_of (lenS_lt h.ok)) i w)
theorem sTakeOk (h : Ws s0 s1 s2 s3 s) (i : Wn k j n) (c : s.f ≤ s.t) (d : ¬ lenS s < n) :
    TSS 11 #[.agg #[.int .u64 s0, .int .u64 s1, .int .u64 s2, .int .u64 s3], .agg #[.int .u64 k, .int .u64 j]] s0 s1 ((hiW (s.f + n) : Nat) : Int) ((loW (s.f + n) : Nat) : Int) ((hiW (s.f + n) : Nat) : Int) ((loW (s.f + n) : Nat) : Int) s2 s3 0 := by
  have R := sRight h
  rw [decide_eq_true c] at R
  have D := fun w => cAdd h.f i w
  have lt : s.f + n < Q := by have := h.t.lt; unfold lenS at d; show _ < 340282366920938463463374607431768211456; omega
  rw [Nat.mod_eq_of_lt lt] at D
  exact takeYes _ _ _ _ _ _ _ _ (cmpN (lenS s) n) _ _ _ (cmp_nlt d) (Lib.hid R) (Lib.hid (sLen h)) (Lib.hid fun w => cCmp (wn_of (lenS_lt h.ok)) i w) (Lib.hid D)
def upS (s : Sp) : Nat := lenS s - lenS s / 2
theorem sHalvesArg (h : Ws s0 s1 s2 s3 s) (c : ¬ s.f ≤ s.t) : TSS 8 #[.agg #[.int .u64 s0, .int .u64 s1, .int .u64 s2, .int .u64 s3]] 0 0 0 0 0 0 0 0 1 := by
  have R := sRight h
  rw [decide_eq_false c] at R
  exact halvesNo _ _ _ _ _ _ (Lib.hid (sLen h)) (Lib.hid R)
theorem of2 : TU 31 #[.int .u64 2] 0 2 := fun w => cOf 2 2 rfl (by decide) w
theorem of1 : TU 31 #[.int .u64 1] 0 1 := fun w => cOf 1 1 rfl (by decide) w
theorem wn2 : Wn 0 2 2 := ⟨by decide, by decide, by decide, by decide, rfl⟩
theorem wn1 : Wn 0 1 1 := ⟨by decide, by decide, by decide, by decide, rfl⟩
theorem sHalvesShort (h : Ws s0 s1 s2 s3 s) (c : s.f ≤ s.t) (d : lenS s < 2) : TSS 8 #[.agg #[.int .u64 s0, .int .u64 s1, .int .u64 s2, .int .u64 s3]] 0 0 0 0 0 0 0 0 6 := by
  have R := sRight h
  rw [decide_eq_true c] at R
  exact halvesShort _ _ _ _ _ _ (cmpN (lenS s) 2) (cmp_lt d) (Lib.hid (sLen h)) (Lib.hid R) (Lib.hid of2) (Lib.hid fun w => cCmp (wn_of (lenS_lt h.ok)) wn2 w)
theorem sHalvesOk (h : Ws s0 s1 s2 s3 s) (c : s.f ≤ s.t) (d : ¬ lenS s < 2) :
    TSS 8 #[.agg #[.int .u64 s0, .int .u64 s1, .int .u64 s2, .int .u64 s3]] s0 s1 ((hiW (s.f + upS s) : Nat) : Int) ((loW (s.f + upS s) : Nat) : Int) ((hiW (s.f + upS s) : Nat) : Int) ((loW (s.f + upS s) : Nat) : Int) s2 s3 0 := by
  have R := sRight h
  rw [decide_eq_true c] at R
  have hl := lenS_lt h.ok
  have D := fun w => cSub (wn_of hl) (wn_of (N := lenS s / 2) (Nat.lt_of_le_of_lt (Nat.div_le_self _ _) hl)) w
  rw [sub_q (Nat.div_le_self _ _) hl] at D
  have up : upS s < Q := Nat.lt_of_le_of_lt (Nat.sub_le _ _) hl
  exact halvesYes _ _ _ _ _ _ (cmpN (lenS s) 2) _ _ _ _ _ _ _ _ _ _ _ _ _ _ (cmp_nlt d) (Lib.hid (sLen h)) (Lib.hid R) (Lib.hid of2) (Lib.hid fun w => cCmp (wn_of hl) wn2 w) (Lib.hid fun w => cRight1 (wn_of hl) w) (Lib.hid D)
    (Lib.hid (sTakeOk h (wn_of up) c (by unfold upS; omega)))
end
end Go.Proofs.Ytolicfackceomaa
