/-
  For the walk of BoundRow: products of package wide, where a number of two words lies, and what is known of the words that tell a number.
-/
import Derived.Test.YtkpignbmocpcaaaGreatBdJ
namespace Go.Proofs.YtkpignbmocpcaaaGreat
open Go.RowKit
set_option linter.unusedVariables false
set_option maxRecDepth 100000

theorem cMulN {x b : Nat} (hx : x ≤ N64) (hb : b < N64) (hxb : x * b ≤ N64) (w : World) : Calls Tryz.prog 11 #[.agg #[.int .u64 ((hiW x : Nat) : Int), .int .u64 ((loW x : Nat) : Int)], .agg #[.int .u64 0, .int .u64 (b : Int)]] w (fun e w' => e = .returned (.agg #[.int .u64 ((hiW (x * b) : Nat) : Int), .int .u64 ((loW (x * b) : Nat) : Int)]) ∧ Below w.heap.size w w') := by
  have hx1 : x ≤ 18446744073709551616 := hx
  have hb1 : b < 18446744073709551616 := hb
  have hxb1 : x * b ≤ 18446744073709551616 := hxb
  have i := wn_of (N := x) (by omega)
  refine (Wd.wMul ((hiW x : Nat) : Int) ((loW x : Nat) : Int) 0 b i.h0 i.h1 i.l0 i.l1 (by decide) (by decide) (by omega) (by omega) w).mono ?_
  rintro e w' ⟨h, l, k, rfl, hb2⟩
  rw [i.eq, Int.zero_mul, Int.zero_add, ← Int.natCast_mul] at k
  generalize x * b = X at k hxb1 ⊢
  have e2 : ((X : Nat) : Int) % 340282366920938463463374607431768211456 = (X : Int) := by omega
  rw [e2] at k
  obtain ⟨rfl, rfl⟩ := (wn_is (N := X) k rfl).of
  exact ⟨rfl, hb2⟩
theorem cAddN {M N : Nat} (hM : M ≤ N64) (hN : N < N64) (w : World) : Calls Tryz.prog 9 #[.agg #[.int .u64 ((hiW M : Nat) : Int), .int .u64 ((loW M : Nat) : Int)], .agg #[.int .u64 0, .int .u64 (N : Int)]] w (fun e w' => e = .returned (.tuple #[.agg #[.int .u64 ((hiW (M + N) : Nat) : Int), .int .u64 ((loW (M + N) : Nat) : Int)], .bool false]) ∧ Below w.heap.size w w') := by
  have hM1 : M ≤ 18446744073709551616 := hM
  have hN1 : N < 18446744073709551616 := hN
  refine (cAdd (wn_of (N := M) (by omega)) (N := N) ⟨by decide, by decide, by omega, by omega, by omega⟩ w).mono ?_
  rintro e w' ⟨rfl, hb⟩
  have e0 : (M + N) % Q = M + N := by
    show (M + N) % 340282366920938463463374607431768211456 = _
    omega
  refine ⟨?_, hb⟩
  rw [e0, decide_eq_false (by show ¬ (340282366920938463463374607431768211456 ≤ M + N); omega)]
theorem cAddO {k : Nat} (h : k < N64) (w : World) : Calls Tryz.prog 9 #[.agg #[.int .u64 0, .int .u64 (k : Int)], .agg #[.int .u64 0, .int .u64 1]] w (fun e w' => e = .returned (.tuple #[.agg #[.int .u64 ((hiW (k + 1) : Nat) : Int), .int .u64 ((loW (k + 1) : Nat) : Int)], .bool false]) ∧ Below w.heap.size w w') := by
  have h1 : k < 18446744073709551616 := h
  have a := cAddN (M := k) (N := 1) (by show k ≤ 18446744073709551616; omega) (by decide) w
  rw [show hiW k = 0 from Nat.div_eq_of_lt h1, show loW k = k from Nat.mod_eq_of_lt h1] at a
  exact a
theorem cCmpT {M : Nat} (hM : M < Q) (w : World) : Calls Tryz.prog 12 #[.agg #[.int .u64 ((hiW M : Nat) : Int), .int .u64 ((loW M : Nat) : Int)], .agg #[.int .u64 1, .int .u64 0]] w (fun e w' => e = .returned (.int .i64 (cmpN M N64)) ∧ Below w.heap.size w w') :=
  cCmp (wn_of hM) (N := N64) ⟨by decide, by decide, by decide, by decide, by decide⟩ w
/-- Where a number of two words lies that was laid beside calls. -/
def CutM (W : World) (p q : Int) (v : Value) (wr : World) : Prop := ∃ b : Nat, v = .pointer (some ⟨b, 0, none⟩) ∧ UB 31 wr b p q ∧ Below W.heap.size W wr
theorem CutM.late {W x : World} {p q : Int} (hb : Below W.heap.size W x) : CutM W p q (.pointer (some ⟨x.heap.size, 0, none⟩)) (x.alloc (.cells #[.int .u64 p, .int .u64 q] 31)) :=
  ⟨x.heap.size, rfl, UB.new _ _ _ _, below_alloc hb _⟩
theorem CutM.early {W x : World} {b : Nat} {p q : Int} (hb : Below W.heap.size W x) (z : UB 31 x b 0 0) (hn : W.heap.size ≤ b) : CutM W p q (.pointer (some ⟨b, 0, none⟩)) ((x.setCell ⟨b, 0, none⟩ (.int .u64 p)).setCell ⟨b, 1, none⟩ (.int .u64 q)) :=
  ⟨b, rfl, UB.put z, below_put2 hb hn _ _⟩
/-- What is known of a word. -/
theorem word_known {y v b : Nat} (hb : 0 < b) : (takenB N64 y b = true ∧ acV y b = v) ↔ (lowB N64 v b ≤ y ∧ y ≤ highB N64 v b) := by
  rw [← row_iff (N := N64) (by decide) hb]
  unfold acV
  constructor
  · rintro ⟨h1, h2⟩
    rw [if_pos h1] at h2
    exact ⟨h1, h2⟩
  · rintro ⟨h1, h2⟩
    rw [if_pos h1]
    exact ⟨h1, h2⟩
end Go.Proofs.YtkpignbmocpcaaaGreat
