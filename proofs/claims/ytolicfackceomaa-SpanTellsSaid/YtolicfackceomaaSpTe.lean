/-
  Halves and Take of package span and of the reference of layer 15 answer the same.
-/
import Derived.Test.YtolicfackceomaaSpRc
import Derived.Test.YtolicfackceomaaSpK2
namespace Go.Proofs.Ytolicfackceomaa
open Go.RowKit
set_option linter.unusedVariables false
set_option maxRecDepth 100000

theorem cmp_gt {M N : Nat} (h : N < M) : 0 < cmpN M N := of_decide_eq_true ((cmpN_gt M N).trans (decide_eq_true h))
theorem cmp_ngt {M N : Nat} (h : ¬ N < M) : ¬ 0 < cmpN M N := of_decide_eq_false ((cmpN_gt M N).trans (decide_eq_false h))
section
variable {s0 s1 s2 s3 k j : Int} {s : Sp} {n : Nat}
theorem srTakeArg (h : Ws s0 s1 s2 s3 s) (c : ¬ s.f ≤ s.t) : TSS 12 #[.agg #[.int .u64 s0, .int .u64 s1, .int .u64 s2, .int .u64 s3], .agg #[.int .u64 k, .int .u64 j]] 0 0 0 0 0 0 0 0 1 := by
  have R := srRight h
  rw [decide_eq_false c] at R
  exact takeNoR _ _ _ _ _ _ (Lib.hid R)
theorem srTakeShort (h : Ws s0 s1 s2 s3 s) (i : Wn k j n) (c : s.f ≤ s.t) (d : lenS s < n) : TSS 12 #[.agg #[.int .u64 s0, .int .u64 s1, .int .u64 s2, .int .u64 s3], .agg #[.int .u64 k, .int .u64 j]] 0 0 0 0 0 0 0 0 7 := by
  have R := srRight h
  rw [decide_eq_true c] at R
  exact takeShortR _ _ _ _ _ _ _ _ (cmpN n (lenS s)) (cmp_gt d) (Lib.hid R) (Lib.hid (srLen h)) (Lib.hid fun w => rrCmp i (wn_of (lenS_lt h.ok)) w)
theorem srTakeOk (h : Ws s0 s1 s2 s3 s) (i : Wn k j n) (c : s.f ≤ s.t) (d : ¬ lenS s < n) :
    TSS 12 #[.agg #[.int .u64 s0, .int .u64 s1, .int .u64 s2, .int .u64 s3], .agg #[.int .u64 k, .int .u64 j]] s0 s1 ((hiW (s.f + n) : Nat) : Int) ((loW (s.f + n) : Nat) : Int) ((hiW (s.f + n) : Nat) : Int) ((loW (s.f + n) : Nat) : Int) s2 s3 0 := by
  have R := srRight h
  rw [decide_eq_true c] at R
  have D := fun w => rrAdd h.f i w
  have lt : s.f + n < Q := by have := h.t.lt; unfold lenS at d; show _ < 340282366920938463463374607431768211456; omega
  rw [Nat.mod_eq_of_lt lt] at D
  exact takeYesR _ _ _ _ _ _ _ _ (cmpN n (lenS s)) _ _ _ (cmp_ngt d) (Lib.hid R) (Lib.hid (srLen h)) (Lib.hid fun w => rrCmp i (wn_of (lenS_lt h.ok)) w) (Lib.hid D)
theorem tmod_two (x : Nat) : (x : Int).tmod 2 = ((x % 2 : Nat) : Int) := rfl
theorem srHalvesArg (h : Ws s0 s1 s2 s3 s) (c : ¬ s.f ≤ s.t) : TSS 9 #[.agg #[.int .u64 s0, .int .u64 s1, .int .u64 s2, .int .u64 s3]] 0 0 0 0 0 0 0 0 1 := by
  have R := srRight h
  rw [decide_eq_false c] at R
  exact rHalvesNo _ _ _ _ (Lib.hid ⟨R⟩)
theorem srHalvesShort (h : Ws s0 s1 s2 s3 s) (c : s.f ≤ s.t) (d : lenS s < 2) : TSS 9 #[.agg #[.int .u64 s0, .int .u64 s1, .int .u64 s2, .int .u64 s3]] 0 0 0 0 0 0 0 0 6 := by
  have R := srRight h
  rw [decide_eq_true c] at R
  exact rHalvesShort _ _ _ _ _ _ (cmpN (lenS s) 2) (cmp_lt d) (Lib.hid ⟨R, srLen h, fun w => rrCmp (wn_of (lenS_lt h.ok)) wn2 w⟩)
theorem srHalvesOk (h : Ws s0 s1 s2 s3 s) (c : s.f ≤ s.t) (d : ¬ lenS s < 2) :
    TSS 9 #[.agg #[.int .u64 s0, .int .u64 s1, .int .u64 s2, .int .u64 s3]] s0 s1 ((hiW (s.f + upS s) : Nat) : Int) ((loW (s.f + upS s) : Nat) : Int) ((hiW (s.f + upS s) : Nat) : Int) ((loW (s.f + upS s) : Nat) : Int) s2 s3 0 := by
  have R := srRight h
  rw [decide_eq_true c] at R
  have hl := lenS_lt h.ok
  have hh : lenS s / 2 < Q := Nat.lt_of_le_of_lt (Nat.div_le_self _ _) hl
  have up : upS s < Q := Nat.lt_of_le_of_lt (Nat.sub_le _ _) hl
  have T := srTakeOk h (wn_of up) c (by unfold upS; omega)
  have lo : loW (lenS s) % 2 = lenS s % 2 := by
    show lenS s % 18446744073709551616 % 2 = _
    omega
  by_cases o : lenS s % 2 = 0
  · have e : lenS s / 2 = upS s := by unfold upS; omega
    have G := fun w => rrRight1 (wn_of hl) w
    rw [e] at G
    exact rHalvesEven _ _ _ _ _ _ (cmpN (lenS s) 2) _ _ _ _ _ _ _ _ _ _ _ (cmp_nlt d) (by rw [tmod_two, lo, o]; rfl) (Lib.hid ⟨R, srLen h, fun w => rrCmp (wn_of hl) wn2 w, G, T⟩)
  · have e : lenS s / 2 + 1 = upS s := by unfold upS; omega
    have D := fun w => rrAdd (wn_of hh) wn1 w
    rw [e, Nat.mod_eq_of_lt up, decide_eq_false (Nat.not_le.2 up)] at D
    exact rHalvesOdd _ _ _ _ _ _ (cmpN (lenS s) 2) _ _ _ _ _ _ _ _ _ _ _ _ _ (cmp_nlt d) (by rw [tmod_two, lo, show lenS s % 2 = 1 from by omega]; rfl) (Lib.hid ⟨R, srLen h, fun w => rrCmp (wn_of hl) wn2 w, fun w => rrRight1 (wn_of hl) w, D, T⟩)
/-- Both tell the same. -/
theorem bothTake (h : Ws s0 s1 s2 s3 s) (i : Wn k j n) : ∃ p0 p1 p2 p3 q0 q1 q2 q3 e, TSS 11 #[.agg #[.int .u64 s0, .int .u64 s1, .int .u64 s2, .int .u64 s3], .agg #[.int .u64 k, .int .u64 j]] p0 p1 p2 p3 q0 q1 q2 q3 e ∧ TSS 12 #[.agg #[.int .u64 s0, .int .u64 s1, .int .u64 s2, .int .u64 s3], .agg #[.int .u64 k, .int .u64 j]] p0 p1 p2 p3 q0 q1 q2 q3 e := by
  by_cases c : s.f ≤ s.t
  · by_cases d : lenS s < n
    · exact ⟨_, _, _, _, _, _, _, _, _, sTakeShort h i c d, srTakeShort h i c d⟩
    · exact ⟨_, _, _, _, _, _, _, _, _, sTakeOk h i c d, srTakeOk h i c d⟩
  · exact ⟨_, _, _, _, _, _, _, _, _, sTakeArg h c, srTakeArg h c⟩
theorem bothHalves (h : Ws s0 s1 s2 s3 s) : ∃ p0 p1 p2 p3 q0 q1 q2 q3 e, TSS 8 #[.agg #[.int .u64 s0, .int .u64 s1, .int .u64 s2, .int .u64 s3]] p0 p1 p2 p3 q0 q1 q2 q3 e ∧ TSS 9 #[.agg #[.int .u64 s0, .int .u64 s1, .int .u64 s2, .int .u64 s3]] p0 p1 p2 p3 q0 q1 q2 q3 e := by
  by_cases c : s.f ≤ s.t
  · by_cases d : lenS s < 2
    · exact ⟨_, _, _, _, _, _, _, _, _, sHalvesShort h c d, srHalvesShort h c d⟩
    · exact ⟨_, _, _, _, _, _, _, _, _, sHalvesOk h c d, srHalvesOk h c d⟩
  · exact ⟨_, _, _, _, _, _, _, _, _, sHalvesArg h c, srHalvesArg h c⟩
end
end Go.Proofs.Ytolicfackceomaa
