/-
  SpanParts answers true, whichever way it goes.
-/
import Derived.Test.YtolicfackceomaaSpK2
import Derived.Test.YtolicfackceomaaSpPartsA
import Derived.Test.YtolicfackceomaaSpPartsB
import Derived.Test.YtolicfackceomaaSpPartsC
import Derived.Test.YtolicfackceomaaSpPartsD
import Derived.Test.YtolicfackceomaaSpPartsE
namespace Go.Proofs.Ytolicfackceomaa
open Go.RowKit
set_option linter.unusedVariables false
set_option maxRecDepth 100000

theorem spanParts (AW : Hid (∀ w, Calls Try.prog 7 #[] w (fun e w' => e = .returned (.bool true) ∧ Below w.heap.size w w'))) {s0 s1 s2 s3 m l k j : Int} {s : Sp} {a n : Nat} (hs : Ws s0 s1 s2 s3 s) (ha : Wn m l a) (hn : Wn k j n) (w : World) :
    Calls Try.prog 4 #[.agg #[.int .u64 s0, .int .u64 s1, .int .u64 s2, .int .u64 s3], .agg #[.int .u64 m, .int .u64 l], .agg #[.int .u64 k, .int .u64 j]] w (fun e w' => e = .returned (.bool true) ∧ Below w.heap.size w w') := by
  have R := sRight hs
  by_cases c : s.f ≤ s.t
  · rw [decide_eq_true c] at R
    have hl := lenS_lt hs.ok
    have OK : ∀ x, x ≤ lenS s → Ws s0 s1 ((hiW (s.f + x) : Nat) : Int) ((loW (s.f + x) : Nat) : Int) ⟨s.f, s.f + x⟩ ∧ Ws ((hiW (s.f + x) : Nat) : Int) ((loW (s.f + x) : Nat) : Int) s2 s3 ⟨s.f + x, s.t⟩ := fun x hx => by
      have lt : s.f + x < Q := by have := hs.t.lt; unfold lenS at hx; show _ < 340282366920938463463374607431768211456; omega
      exact ⟨⟨hs.f, wn_of lt⟩, ⟨wn_of lt, hs.t⟩⟩
    have XOR : ∀ x, x ≤ lenS s → hasS s a = (hasS ⟨s.f, s.f + x⟩ a != hasS ⟨s.f + x, s.t⟩ a) := fun x hx => by
      unfold hasS
      unfold lenS at hx
      by_cases h1 : s.f ≤ a <;> by_cases h2 : a < s.f + x <;> by_cases h3 : a < s.t <;> by_cases h4 : s.f + x ≤ a <;> simp [h1, h2, h3, h4] <;> omega
    have NM : ∀ x, meetS ⟨s.f, s.f + x⟩ ⟨s.f + x, s.t⟩ = false := fun x => by
      unfold meetS hasS
      simp
    by_cases d : lenS s < 2
    · have C1 := fun w => cCmp (wn_of hl) wn1 w
      have e1 := cmp_le (M := lenS s) (N := 1) (by omega)
      by_cases t : lenS s < n
      · exact partsB _ _ _ _ _ _ _ _ _ _ _ _ e1 (cmp_lt t) w (Lib.hid ⟨AW.out, sHalvesShort hs c d, R, sLen hs, of1, C1, sTakeShort hs hn c t, fun w => cCmp (wn_of hl) hn w⟩)
      · obtain ⟨o1, o2⟩ := OK n (by omega)
        have L := sLen o1
        have el : lenS ⟨s.f, s.f + n⟩ = n := by unfold lenS; exact Nat.add_sub_cancel_left _ _
        rw [el, ← hn.of.1, ← hn.of.2] at L
        have M := sMeet o1 o2
        rw [NM] at M
        have H := sHas hs ha
        rw [XOR n (by omega)] at H
        exact partsC _ _ _ _ _ _ _ _ _ _ _ _ _ _ _ e1 w (Lib.hid ⟨AW.out, sHalvesShort hs c d, R, sLen hs, of1, C1, sTakeOk hs hn c t, L, M, sHas o1 ha, sHas o2 ha, H⟩)
    · have hu : upS s ≤ lenS s := Nat.sub_le _ _
      obtain ⟨o1, o2⟩ := OK (upS s) hu
      have M := sMeet o1 o2
      rw [NM] at M
      have H := sHas hs ha
      rw [XOR (upS s) hu] at H
      have l1 : lenS ⟨s.f, s.f + upS s⟩ = upS s := by unfold lenS; exact Nat.add_sub_cancel_left _ _
      have l2 : lenS ⟨s.f + upS s, s.t⟩ = lenS s / 2 := by
        show s.t - (s.f + upS s) = _
        unfold upS lenS
        omega
      have LA := sLen o1
      have LB := sLen o2
      rw [l1] at LA
      rw [l2] at LB
      have w1 : upS s < Q := Nat.lt_of_le_of_lt hu hl
      have w2 : lenS s / 2 < Q := Nat.lt_of_le_of_lt (Nat.div_le_self _ _) hl
      have le : lenS s / 2 ≤ upS s := by unfold upS; omega
      have SU := fun w => cSub (wn_of w1) (wn_of w2) w
      rw [sub_q le w1, decide_eq_false (by omega : ¬ upS s < lenS s / 2)] at SU
      have C1 := fun w => cCmp (wn_of (N := upS s - lenS s / 2) (Nat.lt_of_le_of_lt (Nat.sub_le _ _) w1)) wn1 w
      have e1 := cmp_le (M := upS s - lenS s / 2) (N := 1) (by unfold upS; omega)
      by_cases t : lenS s < n
      · exact partsD _ _ _ _ _ _ _ _ _ _ _ _ _ _ _ _ _ _ _ _ _ _ e1 (cmp_lt t) w (Lib.hid ⟨AW.out, sHalvesOk hs c d, LA, LB, SU, of1, C1, M, H, sHas o1 ha, sHas o2 ha, sTakeShort hs hn c t, R, sLen hs, fun w => cCmp (wn_of hl) hn w⟩)
      · obtain ⟨p1, p2⟩ := OK n (by omega)
        have L := sLen p1
        have el : lenS ⟨s.f, s.f + n⟩ = n := by unfold lenS; exact Nat.add_sub_cancel_left _ _
        rw [el, ← hn.of.1, ← hn.of.2] at L
        have M2 := sMeet p1 p2
        rw [NM] at M2
        have H2 := sHas hs ha
        rw [XOR n (by omega)] at H2
        exact partsE _ _ _ _ _ _ _ _ _ _ _ _ _ _ _ _ _ _ _ _ _ _ _ e1 w (Lib.hid ⟨AW.out, sHalvesOk hs c d, LA, LB, SU, of1, C1, M, H, sHas o1 ha, sHas o2 ha, sTakeOk hs hn c t, L, M2, sHas p1 ha, sHas p2 ha, H2⟩)
  · rw [decide_eq_false c] at R
    exact partsA _ _ _ _ _ _ _ _ w (Lib.hid ⟨AW.out, sHalvesArg hs c, R, sTakeArg hs c⟩)
end Go.Proofs.Ytolicfackceomaa
