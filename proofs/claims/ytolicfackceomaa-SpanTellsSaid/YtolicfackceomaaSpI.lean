/-
  What the calls Right, Len, Has, Meet of package span and of the reference answer, for all spans and numbers, in the words of mathematics.
-/
import Derived.Test.YtolicfackceomaaSpL
import Derived.Test.YtolicfackceomaaSpRa
namespace Go.Proofs.Ytolicfackceomaa
open Go.RowKit
set_option linter.unusedVariables false
set_option maxRecDepth 100000

def lenS (s : Sp) : Nat := s.t - s.f
def hasS (s : Sp) (n : Nat) : Bool := decide (s.f ≤ n) && decide (n < s.t)
def meetS (s u : Sp) : Bool := hasS s (max s.f u.f) && hasS u (max s.f u.f)
theorem sub_q {M N : Nat} (h : N ≤ M) (hM : M < Q) : (M + Q - N) % Q = M - N := by
  have : M < 340282366920938463463374607431768211456 := hM
  show (M + 340282366920938463463374607431768211456 - N) % 340282366920938463463374607431768211456 = _
  omega
theorem lenS_lt {s : Sp} (h : s.Ok) : lenS s < Q := Nat.lt_of_le_of_lt (Nat.sub_le _ _) h.2
theorem sRight {a b c d : Int} {s : Sp} (h : Ws a b c d s) : TB 13 #[.agg #[.int .u64 a, .int .u64 b, .int .u64 c, .int .u64 d]] (decide (s.f ≤ s.t)) := by
  rw [← cmpN_le]
  exact rightMain _ _ _ _ _ (Lib.hid fun w => cCmp h.f h.t w)
theorem sLen {a b c d : Int} {s : Sp} (h : Ws a b c d s) : TU 15 #[.agg #[.int .u64 a, .int .u64 b, .int .u64 c, .int .u64 d]] ((hiW (lenS s) : Nat) : Int) ((loW (lenS s) : Nat) : Int) := by
  have R := sRight h
  by_cases hs : s.f ≤ s.t
  · rw [decide_eq_true hs] at R
    have D := fun w => cSub h.t h.f w
    rw [sub_q hs h.t.lt] at D
    exact lenYes _ _ _ _ _ _ _ (Lib.hid R) (Lib.hid D)
  · rw [decide_eq_false hs] at R
    have := lenNo _ _ _ _ (Lib.hid R)
    have e : lenS s = 0 := by unfold lenS; omega
    rw [e]
    exact this
theorem sHas {a b c d m l : Int} {s : Sp} {n : Nat} (h : Ws a b c d s) (i : Wn m l n) : TB 17 #[.agg #[.int .u64 a, .int .u64 b, .int .u64 c, .int .u64 d], .agg #[.int .u64 m, .int .u64 l]] (hasS s n) := by
  unfold hasS
  rw [← cmpN_le, ← cmpN_lt]
  exact hasMain _ _ _ _ _ _ _ _ (Lib.hid fun w => cCmp h.f i w) (Lib.hid fun w => cCmp i h.t w)
theorem sGreater {a b c d : Int} {M N : Nat} (h : Wn a b M) (i : Wn c d N) : TU 39 #[.agg #[.int .u64 a, .int .u64 b], .agg #[.int .u64 c, .int .u64 d]] ((hiW (max M N) : Nat) : Int) ((loW (max M N) : Nat) : Int) := by
  refine greaterMain _ _ _ _ _ _ _ (Lib.hid fun w => cCmp h i w) (Lib.hid ⟨fun hc => ?_, fun hc => ?_⟩)
  · have : M < N := of_decide_eq_true ((cmpN_lt M N).symm.trans (decide_eq_true hc))
    rw [Nat.max_eq_right (by omega)]
    obtain ⟨rfl, rfl⟩ := i.of
    exact ⟨rfl, rfl⟩
  · have : ¬ M < N := of_decide_eq_false ((cmpN_lt M N).symm.trans (decide_eq_false hc))
    rw [Nat.max_eq_left (by omega)]
    obtain ⟨rfl, rfl⟩ := h.of
    exact ⟨rfl, rfl⟩
theorem sMeet {a b c d e f g k : Int} {s u : Sp} (h : Ws a b c d s) (i : Ws e f g k u) : TB 19 #[.agg #[.int .u64 a, .int .u64 b, .int .u64 c, .int .u64 d], .agg #[.int .u64 e, .int .u64 f, .int .u64 g, .int .u64 k]] (meetS s u) := by
  have m : max s.f u.f < Q := Nat.max_lt.2 ⟨h.f.lt, i.f.lt⟩
  exact meetMain _ _ _ _ _ _ _ _ _ _ _ _ (Lib.hid (sGreater h.f i.f)) (Lib.hid (sHas h (wn_of m))) (Lib.hid (sHas i (wn_of m)))
theorem srRight {a b c d : Int} {s : Sp} (h : Ws a b c d s) : TB 14 #[.agg #[.int .u64 a, .int .u64 b, .int .u64 c, .int .u64 d]] (decide (s.f ≤ s.t)) := by
  rw [← cmpN_le]
  exact rightMainR _ _ _ _ _ (Lib.hid fun w => rrCmp h.f h.t w)
theorem srLen {a b c d : Int} {s : Sp} (h : Ws a b c d s) : TU 16 #[.agg #[.int .u64 a, .int .u64 b, .int .u64 c, .int .u64 d]] ((hiW (lenS s) : Nat) : Int) ((loW (lenS s) : Nat) : Int) := by
  have R := srRight h
  by_cases hs : s.f ≤ s.t
  · rw [decide_eq_true hs] at R
    have D := fun w => rrSub h.t h.f w
    rw [sub_q hs h.t.lt] at D
    exact lenYesR _ _ _ _ _ _ _ (Lib.hid R) (Lib.hid D)
  · rw [decide_eq_false hs] at R
    have := lenNoR _ _ _ _ (Lib.hid R)
    have e : lenS s = 0 := by unfold lenS; omega
    rw [e]
    exact this
theorem srHas {a b c d m l : Int} {s : Sp} {n : Nat} (h : Ws a b c d s) (i : Wn m l n) : TB 18 #[.agg #[.int .u64 a, .int .u64 b, .int .u64 c, .int .u64 d], .agg #[.int .u64 m, .int .u64 l]] (hasS s n) := by
  unfold hasS
  rw [← cmpN_ge, ← cmpN_lt]
  exact hasMainR _ _ _ _ _ _ _ _ (Lib.hid fun w => rrCmp i h.f w) (Lib.hid fun w => rrCmp i h.t w)
theorem srMeet {a b c d e f g k : Int} {s u : Sp} (h : Ws a b c d s) (i : Ws e f g k u) : TB 20 #[.agg #[.int .u64 a, .int .u64 b, .int .u64 c, .int .u64 d], .agg #[.int .u64 e, .int .u64 f, .int .u64 g, .int .u64 k]] (meetS s u) := by
  unfold meetS
  by_cases hm : s.f < u.f
  · have e1 : max s.f u.f = u.f := Nat.max_eq_right (Nat.le_of_lt hm)
    rw [e1]
    refine meetMainR _ _ _ _ _ _ _ _ e f _ _ _ (Lib.hid fun w => rrCmp i.f h.f w) (Lib.hid ⟨fun _ => ⟨rfl, rfl⟩, fun hc => ?_⟩) (Lib.hid (srHas h i.f)) (Lib.hid (srHas i i.f))
    have := cmpN_gt u.f s.f
    rw [decide_eq_true hm] at this
    have := of_decide_eq_true this
    omega
  · have e1 : max s.f u.f = s.f := Nat.max_eq_left (by omega)
    rw [e1]
    refine meetMainR _ _ _ _ _ _ _ _ a b _ _ _ (Lib.hid fun w => rrCmp i.f h.f w) (Lib.hid ⟨fun hc => ?_, fun _ => ⟨rfl, rfl⟩⟩) (Lib.hid (srHas h h.f)) (Lib.hid (srHas i h.f))
    have := cmpN_gt u.f s.f
    rw [decide_eq_false hm] at this
    have := of_decide_eq_false this
    omega
end Go.Proofs.Ytolicfackceomaa
