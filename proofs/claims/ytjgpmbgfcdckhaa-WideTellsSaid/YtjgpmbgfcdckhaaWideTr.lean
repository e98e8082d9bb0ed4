/-
  What Print of the reference of layer 1 answers: mathematics of the doubling, and the rows.
-/
import Derived.Test.YtjgpmbgfcdckhaaWideTp
import Derived.Test.YtjgpmbgfcdckhaaWideTu
import Derived.Test.YtjgpmbgfcdckhaaWideF
import Derived.Deep.AppendLies
import Derived.Laws.Concat
namespace Go.Proofs.Ytjgpmbgfcdckhaa
open Go.RowKit
set_option linter.unusedVariables false

/-- So many digits by ten of a number, the lowest one first. -/
def dg : Nat → Int → List Int
  | 0, _ => []
  | k + 1, v => v % 10 :: dg k (v / 10)
theorem dg_length : ∀ (k : Nat) (v : Int), (dg k v).length = k
  | 0, _ => rfl
  | k + 1, v => by simp [dg, dg_length k]
theorem p10 (k : Nat) : (0 : Int) < 10 ^ k := Int.pow_pos (by decide)
theorem dg_getD : ∀ (k : Nat) (v : Int) (i : Nat), i < k → (dg k v).getD i 0 = v / 10 ^ i % 10
  | 0, _, _, h => by omega
  | k + 1, v, 0, _ => by simp [dg]
  | k + 1, v, i + 1, h => by
    have := dg_getD k (v / 10) i (by omega)
    rw [dg, Int.pow_succ, Int.mul_comm (10 ^ i), ← Int.ediv_ediv_of_nonneg (by decide)]
    simpa using this
/-- A list of digits: its first j digits are B's, the others are V's. -/
def Mx (K j : Nat) (V B : Int) (ds : List Int) : Prop := ds.length = K ∧ (∀ i, i < j → ds.getD i 0 = B / 10 ^ i % 10) ∧ (∀ i, j ≤ i → i < K → ds.getD i 0 = V / 10 ^ i % 10)
theorem Mx.start {K : Nat} {V : Int} (B : Int) : Mx K 0 V B (dg K V) := ⟨dg_length _ _, fun i hi => by omega, fun i _ hi => dg_getD K V i hi⟩
theorem list_ext (xs ys : List Int) (h : xs.length = ys.length) (hi : ∀ i, i < xs.length → xs.getD i 0 = ys.getD i 0) : xs = ys := by
  apply List.ext_getElem h
  intro i h1 h2
  have := hi i h1
  rw [List.getD_eq_getElem?_getD, List.getD_eq_getElem?_getD, List.getElem?_eq_getElem h1, List.getElem?_eq_getElem h2] at this
  simpa using this
theorem Mx.done {K : Nat} {V B : Int} {ds : List Int} (h : Mx K K V B ds) : ds = dg K B :=
  list_ext _ _ (by rw [h.1, dg_length]) (fun i hi => by rw [h.2.1 i (by rw [← h.1]; exact hi), dg_getD K B i (by rw [← h.1]; exact hi)])
theorem pow10_succ (v : Int) (j : Nat) : v / 10 ^ (j + 1) = v / 10 ^ j / 10 := by rw [Int.pow_succ, ← Int.ediv_ediv_of_nonneg (Int.le_of_lt (p10 j))]
theorem Mx.step {K j : Nat} {V B c n : Int} {ds : List Int} (h : Mx K j V B ds) (hj : j < K) (hc : c = B / 10 ^ j - 2 * (V / 10 ^ j)) (hn : 2 * ds.getD j 0 + c = n) : Mx K (j + 1) V B (ds.set j (n % 10)) ∧ n / 10 = B / 10 ^ (j + 1) - 2 * (V / 10 ^ (j + 1)) := by
  obtain ⟨h1, h2, h3⟩ := h
  have hd := h3 j (Nat.le_refl _) hj
  rw [hd] at hn
  have e : n % 10 = B / 10 ^ j % 10 ∧ n / 10 = B / 10 ^ j / 10 - 2 * (V / 10 ^ j / 10) := by omega
  have g : ∀ i, (ds.set j (n % 10)).getD i 0 = if i = j then n % 10 else ds.getD i 0 := by
    intro i
    rw [List.getD_eq_getElem?_getD, List.getElem?_set]
    by_cases q : j = i
    · subst q; simp [show j < ds.length from by omega]
    · rw [if_neg q, if_neg (by omega)]; rfl
  refine ⟨⟨by rw [List.length_set]; exact h1, fun i hi => ?_, fun i hi hk => ?_⟩, by rw [pow10_succ, pow10_succ]; exact e.2⟩
  · rw [g]
    by_cases q : i = j
    · rw [if_pos q, q]; exact e.1
    · rw [if_neg q]; exact h2 i (by omega)
  · rw [g, if_neg (by omega)]; exact h3 i (by omega) hk
theorem dg_append (K : Nat) (B : Int) (h : B / 10 ^ K = 1) : dg K B ++ [1] = dg (K + 1) B := by
  apply list_ext
  · simp [dg_length]
  · intro i hi
    rw [List.length_append, dg_length] at hi
    simp at hi
    rw [dg_getD (K + 1) B i (by omega)]
    by_cases q : i < K
    · rw [← dg_getD K B i q]
      simp only [List.getD_eq_getElem?_getD]
      rw [List.getElem?_append_left (by rw [dg_length]; exact q)]
    · have : i = K := by omega
      subst this
      rw [List.getD_eq_getElem?_getD, List.getElem?_append_right (by rw [dg_length]; exact Nat.le_refl _), dg_length, h]
      simp
/-- So many digits a number has. -/
def Dn (K : Nat) (V : Int) : Prop := 1 ≤ K ∧ V / 10 ^ K = 0 ∧ (K = 1 ∨ V / 10 ^ (K - 1) ≠ 0)
theorem div10_mono {a b : Int} (h : a ≤ b) (k : Nat) : a / 10 ^ k ≤ b / 10 ^ k := Int.ediv_le_ediv (p10 k) h
theorem div10_nn {a : Int} (h : 0 ≤ a) (k : Nat) : 0 ≤ a / 10 ^ k := Int.ediv_nonneg h (Int.le_of_lt (p10 k))
theorem Dn.keep {K : Nat} {V B : Int} (h : Dn K V) (h0 : 0 ≤ V) (hle : V ≤ B) (hb : B / 10 ^ K = 0) : Dn K B := by
  obtain ⟨a, b, c⟩ := h
  refine ⟨a, hb, c.imp_right (fun c => ?_)⟩
  have := div10_mono hle (K - 1)
  have := div10_nn h0 (K - 1)
  omega
theorem Dn.more {K : Nat} {B : Int} (hb : B / 10 ^ K = 1) : Dn (K + 1) B := by
  refine ⟨by omega, by rw [pow10_succ, hb]; rfl, .inr ?_⟩
  rw [Nat.add_sub_cancel, hb]; decide
theorem pow10_mono (a b : Nat) (h : a ≤ b) : (10 : Int) ^ a ≤ 10 ^ b := by
  have := Nat.pow_le_pow_right (show 0 < 10 by omega) h
  exact_mod_cast this
theorem Dn.uniq {a b : Nat} {V : Int} (h0 : 0 ≤ V) (h : Dn a V) (k : Dn b V) : a = b := by
  have key : ∀ {a b : Nat}, Dn a V → Dn b V → a ≤ b := by
    intro a b h k
    by_cases q : a ≤ b
    · exact q
    · obtain ⟨h1, h2, h3⟩ := h
      obtain ⟨k1, k2, k3⟩ := k
      rcases h3 with h3 | h3
      · omega
      · exfalso
        apply h3
        have lt : V < 10 ^ b := by
          have := Int.emod_add_mul_ediv V (10 ^ b)
          rw [k2, Int.mul_zero, Int.add_zero] at this
          rw [← this]; exact Int.emod_lt_of_pos V (p10 b)
        exact Int.ediv_eq_zero_of_lt h0 (Int.lt_of_lt_of_le lt (pow10_mono b (a - 1) (by omega)))
  exact Nat.le_antisymm (key h k) (key k h)
theorem Dn.le39 {K : Nat} {V : Int} (h : Dn K V) (r : Rng V) : K ≤ 39 := by
  by_cases q : K ≤ 39
  · exact q
  · obtain ⟨h1, h2, h3⟩ := h
    rcases h3 with h3 | h3
    · omega
    · exfalso
      apply h3
      have e : (10 : Int) ^ 39 = 1000000000000000000000000000000000000000 := by decide +kernel
      have m := pow10_mono 39 (K - 1) (by omega)
      rw [e] at m
      have := r.2
      exact Int.ediv_eq_zero_of_lt r.1 (by omega)
theorem carry_le {K : Nat} {V B c : Int} (hV : V / 10 ^ K = 0) (hc : c = B / 10 ^ K - 2 * (V / 10 ^ K)) : c = B / 10 ^ K := by rw [hc, hV]; omega

/-- The digits of Print, in a list that the call owns, beside the list of bits. -/
structure DigAt (W0 : World) (gl : Nat) (xs : List Int) (gd cap K : Nat) (ds : List Int) (wr : World) : Prop where
  own : wr.ownsRow W0.heap.size 3 1 (.slice (some ⟨gd, 0, none⟩) K cap) K (ds.map (Value.int .i64))
  len : ds.length = K
  far : Below W0.heap.size W0 wr
  kept : Kept gl xs wr
  ne : gl ≠ gd
  new : W0.heap.size ≤ gd
theorem DigAt.cell {W0 wr : World} {gl gd cap K : Nat} {xs ds : List Int} (h : DigAt W0 gl xs gd cap K ds wr) (j : Nat) (hj : j < K) : wr.cell? ⟨gd, j, none⟩ = some (.int .i64 (ds.getD j 0)) ∧ wr.frozen? ⟨gd, j, none⟩ = false := by
  refine ⟨?_, h.own.frozenAt j⟩
  rw [h.own.cellAt j (by omega)]
  have : j < ds.length := by rw [h.len]; exact hj
  simp [List.getElem?_eq_getElem this]
theorem DigAt.set {W0 wr : World} {gl gd cap K : Nat} {xs ds : List Int} (h : DigAt W0 gl xs gd cap K ds wr) (j : Nat) (v : Int) : DigAt W0 gl xs gd cap K (ds.set j v) (wr.setCell ⟨gd, j, none⟩ (.int .i64 v)) := by
  obtain ⟨a, b⟩ := h.own.stored j (.int .i64 v)
  exact ⟨by rw [List.map_set]; exact a, by rw [List.length_set]; exact h.len, h.far.setCell h.new _, h.kept.of (Below.heap_setCell wr ⟨gd, j, none⟩ _ gl h.ne), h.ne, h.new⟩
theorem DigAt.more {W0 wr w1 : World} {gl gd gd' cap cap' K : Nat} {xs ds : List Int} {o : Obj} (h : DigAt W0 gl xs gd cap K ds wr)
    (hown : w1.ownsRow W0.heap.size 3 1 (.slice (some ⟨gd', 0, none⟩) (K + 1) cap') (K + 1) (ds.map (Value.int .i64) ++ [.int .i64 1])) (hgrow : (wr.alloc o).grownBy w1 (some gd)) (hat : some gd = some gd' ∨ gd' = wr.heap.size + 1) : DigAt W0 gl xs gd' cap' (K + 1) (ds ++ [1]) w1 := by
  have kp := h.kept.alloc o
  have l := h.kept.lt
  have s := h.far.size
  refine ⟨by rw [List.map_append]; exact hown, by rw [List.length_append, h.len]; rfl, (below_alloc h.far o).grown hgrow (by simp; omega) (fun j hj => by injection hj with hj; rw [← hj]; exact h.new), kp.of (hgrow.block gl kp.lt (by intro e; injection e with e; exact h.ne e)), ?_, ?_⟩
  · rcases hat with e | e
    · injection e with e; rw [← e]; exact h.ne
    · omega
  · rcases hat with e | e
    · injection e with e; rw [← e]; exact h.new
    · omega
end Go.Proofs.Ytjgpmbgfcdckhaa
