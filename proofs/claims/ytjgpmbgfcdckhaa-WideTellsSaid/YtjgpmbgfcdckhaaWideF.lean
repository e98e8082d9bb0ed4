/-
  What the call Print of package wide answers: the number by ten, all digits and no more, for all pairs of words.
  No condition beside that each word lies below 2^64.
-/
import Derived.Test.YtjgpmbgfcdckhaaWideE
namespace Go.Proofs.Ytjgpmbgfcdckhaa
open Go.RowKit
set_option linter.unusedVariables false

/-- The lowest k digits of v by ten, the highest one first, as letters. -/
def decK : Nat → Int → List Int
  | 0, _ => []
  | k + 1, v => (48 + v / 10 ^ k % 10) :: decK k v
theorem decK_length : ∀ (k : Nat) (v : Int), (decK k v).length = k
  | 0, _ => rfl
  | k + 1, v => by simp [decK, decK_length k v]

/-- Behind k rounds: what is left of the number, and the digits. -/
structure PrInv (w : World) (v : Int) (k : Nat) (W : World) (h l : Int) : Prop where
  left : Is (v / 10 ^ k) h l
  own : Own W w.heap.size (.int .u64 h) (.int .u64 l)
  size : w.heap.size + 1 < W.heap.size
  there : ∀ j, j < 39 → (W.cell? ⟨w.heap.size + 1, j, none⟩).isSome = true
  free : ∀ j, W.frozen? ⟨w.heap.size + 1, j, none⟩ = false
  digs : ∀ i, i < k → W.cell? ⟨w.heap.size + 1, 39 - k + i, none⟩ = some (.int .u8 ((decK k v).getD i 0))
  below : Below w.heap.size w W

theorem pr_step {w : World} {v : Int} {k m : Nat} {W W1 : World} {h l h' l' d : Int} (inv : PrInv w v k W h l) (hb : Below W.heap.size W W1) (hk : 39 - k = m + 1)
    (hq : Is ((h * 18446744073709551616 + l) / 10) h' l') (hd : d = (h * 18446744073709551616 + l) % 10) :
    PrInv w v (k + 1) (((W1.setCell ⟨w.heap.size, 0, none⟩ (.int .u64 h')).setCell ⟨w.heap.size, 1, none⟩ (.int .u64 l')).setCell ⟨w.heap.size + 1, m, none⟩ (.int .u8 (48 + d))) h' l' := by
  have hsz1 : w.heap.size + 1 < W1.heap.size := Nat.lt_of_lt_of_le inv.size hb.size
  obtain ⟨p1, p2, p3, p4, p5⟩ := inv.own.below hb
  have e5 := inv.left.2.2.2.2
  have n1 : ∀ j, (⟨w.heap.size, 0, none⟩ : Addr) ≠ ⟨w.heap.size + 1, j, none⟩ := fun j q => by injection q with q; omega
  have n2 : ∀ j, (⟨w.heap.size, 1, none⟩ : Addr) ≠ ⟨w.heap.size + 1, j, none⟩ := fun j q => by injection q with q; omega
  have n3 : ∀ j, (⟨w.heap.size + 1, m, none⟩ : Addr) ≠ ⟨w.heap.size, j, none⟩ := fun j q => by injection q with q; omega
  have n4 : (⟨w.heap.size, 1, none⟩ : Addr) ≠ ⟨w.heap.size, 0, none⟩ := fun q => by injection q with _ q; omega
  have n5 : (⟨w.heap.size, 0, none⟩ : Addr) ≠ ⟨w.heap.size, 1, none⟩ := fun q => by injection q with _ q; omega
  have old : ∀ j, ((W1.setCell ⟨w.heap.size, 0, none⟩ (.int .u64 h')).setCell ⟨w.heap.size, 1, none⟩ (.int .u64 l')).cell? ⟨w.heap.size + 1, j, none⟩ = W.cell? ⟨w.heap.size + 1, j, none⟩ := fun j => by
    rw [World.cell?_setCell_other _ _ _ _ (n2 j), World.cell?_setCell_other _ _ _ _ (n1 j)]; exact hb.cell (p := ⟨w.heap.size + 1, j, none⟩) inv.size
  obtain ⟨u, hu⟩ := Option.isSome_iff_exists.1 (inv.there m (by omega))
  have hs := old m
  rw [hu] at hs
  refine ⟨?_, ⟨?_, ?_, ?_, ?_, ?_⟩, ?_, ?_, ?_, ?_, ?_⟩
  · rw [e5] at hq
    rw [Int.pow_succ, ← Int.ediv_ediv_of_nonneg (Int.le_of_lt (Int.pow_pos (by omega)))]
    exact hq
  · simpa [World.setCell] using p1
  · rw [World.cell?_setCell_other _ _ _ _ (n3 0), World.cell?_setCell_other _ _ _ _ n4]; exact World.cell?_setCell_same _ _ _ p2
  · rw [World.cell?_setCell_other _ _ _ _ (n3 1)]; exact World.cell?_setCell_same _ _ _ ((World.cell?_setCell_other _ _ _ _ n5).trans p3)
  · rw [World.frozen?_setCell, World.frozen?_setCell, World.frozen?_setCell]; exact p4
  · rw [World.frozen?_setCell, World.frozen?_setCell, World.frozen?_setCell]; exact p5
  · simpa [World.setCell] using hsz1
  · intro j hj
    by_cases hjm : j = m
    · subst hjm
      rw [World.cell?_setCell_same _ _ _ hs]; rfl
    · rw [World.cell?_setCell_other _ _ _ _ (fun q => by injection q with _ q; omega), old j]
      exact inv.there j hj
  · intro j
    rw [World.frozen?_setCell, World.frozen?_setCell, World.frozen?_setCell, hb.frozen (p := ⟨w.heap.size + 1, j, none⟩) inv.size]
    exact inv.free j
  · intro i hi
    cases i with
    | zero =>
      rw [show 39 - (k + 1) + 0 = m from by omega, World.cell?_setCell_same _ _ _ hs]
      rw [hd, e5]; rfl
    | succ j =>
      rw [World.cell?_setCell_other _ _ _ _ (fun q => by injection q with _ q; omega), old, show 39 - (k + 1) + (j + 1) = 39 - k + j from by omega]
      exact inv.digs j (by omega)
  · exact ((((inv.below.trans (hb.mono inv.below.size)).setCell (Nat.le_refl _) _).setCell (Nat.le_refl _) _).setCell (by simp) _)

theorem arr39 : Try.prog.underlying 67 = some (.array (Try.prog.arrayLen 67) (Try.prog.elem 67)) := by kernel_rfl
theorem cut39 (b m : Nat) (hm : m ≤ 38) (w0 : World) :
    (Instr.sliceAt 67 (.pointer (some ⟨b, 0, none⟩)) (some (.int .i64 (m : Int))) none none).run Try.prog w0 = .ok (.slice (some ⟨b, m, none⟩) (39 - m) (39 - m)) w0 := by
  have e1 : Try.prog.arrayLen 67 = 39 := by kernel_rfl
  have e2 : (sizeOf (Try.prog.elem 67)).run Try.prog w0 = .ok 1 w0 := by kernel_rfl
  rw [run_sliceAt_array_l w0 _ _ arr39 .i64 m (by omega) (by rw [e1]; omega), e2, e1]
  simp only [Result.andThen, slicedAt, Int.toNat_natCast]
  rw [if_neg (by omega), Nat.mul_one]
  simp [Addr.add]
  omega

/-- What Print answers. -/
def PrRet (v : Int) (w : World) (e : Ending) (w' : World) : Prop :=
  ∃ k : Nat, 1 ≤ k ∧ k ≤ 39 ∧ v / 10 ^ k = 0 ∧ (k = 1 ∨ v / 10 ^ (k - 1) ≠ 0) ∧ e = .returned (.string (strOfNums (decK k v))) ∧ Below w.heap.size w w'

theorem str_of {w : World} {v : Int} {k m : Nat} {W : World} {h l : Int} (inv : PrInv w v k W h l) (hm : 39 - k = m) (hk : k ≤ 39) :
    (convert 25 9 (.slice (some ⟨w.heap.size + 1, m, none⟩) (39 - m) (39 - m))).run Try.prog W = .ok (.string (strOfNums (decK k v))) W := by
  refine run_convert_bytes_arg W _ 5 Try.underlying25 Try.underlying5 _ _ _ _ _ ?_ ?_ _ Try.underlying9
  · rw [decK_length]; omega
  · intro i hi
    rw [← hm]
    exact inv.digs i (by omega)

theorem no39 (ah al : Int) (a1 : 0 ≤ ah) (a2 : ah < 18446744073709551616) (a3 : 0 ≤ al) (a4 : al < 18446744073709551616) : (ah * 18446744073709551616 + al) / 10 ^ 39 = 0 := by
  rw [show (10 : Int) ^ 39 = 1000000000000000000000000000000000000000 from by decide +kernel]
  omega

def zero39 : Array Value := #[.int .u8 0, .int .u8 0, .int .u8 0, .int .u8 0, .int .u8 0, .int .u8 0, .int .u8 0, .int .u8 0, .int .u8 0, .int .u8 0, .int .u8 0, .int .u8 0, .int .u8 0, .int .u8 0, .int .u8 0, .int .u8 0, .int .u8 0, .int .u8 0, .int .u8 0, .int .u8 0, .int .u8 0, .int .u8 0, .int .u8 0, .int .u8 0, .int .u8 0, .int .u8 0, .int .u8 0, .int .u8 0, .int .u8 0, .int .u8 0, .int .u8 0, .int .u8 0, .int .u8 0, .int .u8 0, .int .u8 0, .int .u8 0, .int .u8 0, .int .u8 0, .int .u8 0]
theorem pr_start (ah al : Int) (a1 : 0 ≤ ah) (a2 : ah < 18446744073709551616) (a3 : 0 ≤ al) (a4 : al < 18446744073709551616) (w : World) :
    PrInv w (ah * 18446744073709551616 + al) 0 ((w.alloc (.cells #[.int .u64 ah, .int .u64 al] 24)).alloc (.cells zero39 67)) ah al := by
  have hs : (w.alloc (.cells #[.int .u64 ah, .int .u64 al] 24)).heap.size = w.heap.size + 1 := by simp
  refine ⟨⟨a1, a2, a3, a4, by simp⟩, (Own.fresh w _ _ _).alloc _, by simp, ?_, ?_, fun i hi => absurd hi (Nat.not_lt_zero _), by go_grown⟩
  · intro j hj
    rw [← hs, World.cell?_alloc_new]
    have : zero39.size = 39 := rfl
    rw [Array.getElem?_eq_getElem (by omega)]
    rfl
  · intro j
    rw [frozen?_alloc_cells, frozen?_alloc_cells]
    simp [World.frozen?]

set_option maxRecDepth 100000 in
set_option maxHeartbeats 1000000 in
theorem wPrint (ah al : Int) (a1 : 0 ≤ ah) (a2 : ah < 18446744073709551616) (a3 : 0 ≤ al) (a4 : al < 18446744073709551616) (w : World) :
    Calls Try.prog 28 #[.agg #[.int .u64 ah, .int .u64 al]] w (PrRet (ah * 18446744073709551616 + al) w) := by
  go_enter Try.func28, Try.ntmps28
  go_wp2
  refine wp_scope_jumps 0 (fun a' w' => ∃ (k : Nat) (h l d : Int) (u6 u7 u8 u9 u10 u11 u12 u13 u14 u15 u16 u17 u18 u19 u20 u21 u22 u23 : Value), k ≤ 38 ∧ 0 < (ah * 18446744073709551616 + al) / 10 ^ k ∧ PrInv w (ah * 18446744073709551616 + al) k w' h l ∧ a' = { tmps := #[.agg #[.int .u64 ah, .int .u64 al], .pointer (some ⟨w.heap.size, 0, none⟩), .string ⟨#[]⟩, .pointer (some ⟨w.heap.size + 1, 0, none⟩), .int .i64 ((39 - k : Nat) : Int), .int .u64 d, u6, u7, u8, u9, u10, u11, u12, u13, u14, u15, u16, u17, u18, u19, u20, u21, u22, u23], defers := [] }) (fun a' _ => (intOf (a'.tmps.getD 4 undef)).toNat) rfl ?_ ?_
  · go_wp2_with fail
    go_step3
    go_wp2_with fail
    have inv : PrInv w (ah * 18446744073709551616 + al) 0 ((w.alloc (.cells #[.int .u64 ah, .int .u64 al] 24)).alloc (.cells zero39 67)) ah al := pr_start ah al a1 a2 a3 a4 w
    unfold zero39 at inv
    generalize (w.alloc _).alloc _ = W at inv ⊢
    refine (wByTen ah al a1 a2 a3 a4 _).mono ?_
    rintro e W1 ⟨h', l', d', ⟨⟨j1, j2, j3, j4, j5⟩, hd⟩, rfl, hb⟩
    have st := pr_step (m := 38) inv hb rfl ⟨j1, j2, j3, j4, j5⟩ hd
    obtain ⟨p1, p2, p3, p4, p5⟩ := inv.own.below hb
    obtain ⟨v0, ps⟩ : ∃ v0, W1.cell? ⟨w.heap.size + 1, 38, none⟩ = some v0 := Option.isSome_iff_exists.1 (by rw [hb.cell (p := ⟨w.heap.size + 1, 38, none⟩) inv.size]; exact inv.there 38 (by omega))
    have pf : W1.frozen? ⟨w.heap.size + 1, 38, none⟩ = false := by rw [hb.frozen (p := ⟨w.heap.size + 1, 38, none⟩) inv.size]; exact inv.free 38
    have ct := cut39 (w.heap.size + 1) 38 (by omega)
    have LT : Hid ((ah * 18446744073709551616 + al) / 10 ^ (0 + 1) = h' * 18446744073709551616 + l') := Lib.hid st.left.2.2.2.2.symm
    have d1 : 0 ≤ d' := by omega
    have d2 : d' < 10 := by omega
    clear j5 hd
    have ST := Lib.hid st
    clear st
    have IV := Lib.hid inv
    clear inv
    by_cases hz : h' = 0 ∧ l' = 0
    · obtain ⟨rfl, rfl⟩ := hz
      have sc := str_of (m := 38) ST.out (by rfl) (by omega)
      have FZ := Lib.hid (show (ah * 18446744073709551616 + al) / 10 ^ (0 + 1) = 0 from by rw [LT.out]; decide)
      have FB := Lib.hid ST.out.below
      go_wp2_with fail
      simp only [Exit.jump]
      go_ret
      exact ⟨0 + 1, by omega, by omega, FZ.out, Or.inl rfl, rfl, FB.out⟩
    · have NZ := Lib.hid (show 0 < (ah * 18446744073709551616 + al) / 10 ^ (0 + 1) from by rw [LT.out]; omega)
      have KL : 0 + 1 ≤ 38 := by
        omega
      
      go_wp2_with fail
      all_goals
        go_step3
        first
        | exact ⟨rfl, 0 + 1, _, _, _, _, _, _, _, _, _, _, _, _, _, _, _, _, _, _, _, _, _, KL, NZ.out, ST.out, rfl⟩
        | (have q : h' = 0 := by assumption
           subst q
           exact ⟨rfl, 0 + 1, _, _, _, _, _, _, _, _, _, _, _, _, _, _, _, _, _, _, _, _, _, KL, NZ.out, ST.out, rfl⟩)
  · rintro a' W ⟨k, h, l, d, u6, u7, u8, u9, u10, u11, u12, u13, u14, u15, u16, u17, u18, u19, u20, u21, u22, u23, k2, k3, inv, rfl⟩
    obtain ⟨m, hm⟩ : ∃ m : Nat, 39 - k = m + 1 := ⟨38 - k, by omega⟩
    rw [hm]
    have HM := Lib.hid hm
    have K3 := Lib.hid k3
    clear hm k3
    obtain ⟨o1, o2, o3, o4, o5⟩ := inv.own
    have IV0 := Lib.hid inv
    clear inv
    go_wp2_with fail
    have inv := IV0.out
    have HL := Lib.hid inv.left.2.2.2.2
    refine (wByTen h l inv.left.1 inv.left.2.1 inv.left.2.2.1 inv.left.2.2.2.1 _).mono ?_
    rintro e W1 ⟨h', l', d', ⟨⟨j1, j2, j3, j4, j5⟩, hd⟩, rfl, hb⟩
    have st := pr_step (m := m) inv hb HM.out ⟨j1, j2, j3, j4, j5⟩ hd
    have m1 : m ≤ 38 := by have := HM.out; omega
    obtain ⟨p1, p2, p3, p4, p5⟩ := inv.own.below hb
    obtain ⟨v0, ps⟩ : ∃ v0, W1.cell? ⟨w.heap.size + 1, m, none⟩ = some v0 := Option.isSome_iff_exists.1 (by rw [hb.cell (p := ⟨w.heap.size + 1, m, none⟩) inv.size]; exact inv.there m (by omega))
    have pf : W1.frozen? ⟨w.heap.size + 1, m, none⟩ = false := by rw [hb.frozen (p := ⟨w.heap.size + 1, m, none⟩) inv.size]; exact inv.free m
    have ct := cut39 (w.heap.size + 1) m m1
    have LT : Hid ((ah * 18446744073709551616 + al) / 10 ^ (k + 1) = h' * 18446744073709551616 + l') := Lib.hid st.left.2.2.2.2.symm
    have d1 : 0 ≤ d' := by omega
    have d2 : d' < 10 := by omega
    clear j5 hd
    have ST := Lib.hid st
    clear st
    have IV := Lib.hid inv
    clear inv
    by_cases hz : h' = 0 ∧ l' = 0
    · obtain ⟨rfl, rfl⟩ := hz
      have sc := str_of (m := m) ST.out (by have := HM.out; omega) (by omega)
      have FZ := Lib.hid (show (ah * 18446744073709551616 + al) / 10 ^ (k + 1) = 0 from by rw [LT.out]; decide)
      have FB := Lib.hid ST.out.below
      go_wp2_with fail
      simp only [Exit.jump]
      go_ret
      exact ⟨k + 1, by omega, by omega, FZ.out, Or.inr (by have := K3.out; simp only [Nat.add_sub_cancel]; omega), rfl, FB.out⟩
    · have NZ := Lib.hid (show 0 < (ah * 18446744073709551616 + al) / 10 ^ (k + 1) from by rw [LT.out]; omega)
      have KL : k + 1 ≤ 38 := by
        by_cases hk : k = 38; exact absurd NZ.out (by subst hk; rw [no39 ah al a1 a2 a3 a4]; omega); omega
      have EM : Hid (((39 - (k + 1) : Nat) : Int) = (m : Int)) := Lib.hid (by have := HM.out; omega)
      go_wp2_with fail
      all_goals
        go_step3
        first
        | exact ⟨rfl, ⟨k + 1, _, _, _, _, _, _, _, _, _, _, _, _, _, _, _, _, _, _, _, _, _, KL, NZ.out, ST.out, by rw [EM.out]⟩, by simp [intOf]⟩
        | (have q : h' = 0 := by assumption
           subst q
           exact ⟨rfl, ⟨k + 1, _, _, _, _, _, _, _, _, _, _, _, _, _, _, _, _, _, _, _, _, _, KL, NZ.out, ST.out, by rw [EM.out]⟩, by simp [intOf]⟩)
end Go.Proofs.Ytjgpmbgfcdckhaa
