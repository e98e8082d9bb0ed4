/-
  Two spans of the reference that are laid in a region whose order is drawn, beside calls: where they lie behind it.
-/
import Derived.Test.YtolicfackceomaaSpA
namespace Go.Proofs.Ytolicfackceomaa.T8
open Go.RowKit
set_option linter.unusedVariables false
set_option maxRecDepth 100000

theorem below_alloc {a w : World} (h : Below a.heap.size a w) (o : Obj) : Below a.heap.size a (w.alloc o) := h.alloc h.size o
/-- A block of four words in memory. -/
def B4 (w : World) (b : Nat) (p q r s : Int) : Prop := w.heap[b]? = some (.cells #[.int .u64 p, .int .u64 q, .int .u64 r, .int .u64 s] 34 (0, 0))
/-- Behind a region that lays two spans. -/
def Cut2 (W0 : World) (a0 a1 a2 a3 b0 b1 b2 b3 : Int) (p q : Value) (wr : World) : Prop :=
  ∃ x y : Nat, p = .pointer (some ⟨x, 0, none⟩) ∧ q = .pointer (some ⟨y, 0, none⟩) ∧ B4 wr x a0 a1 a2 a3 ∧ B4 wr y b0 b1 b2 b3 ∧ Below W0.heap.size W0 wr
section
variable {w w' : World} {b x : Nat} {p q r s p' q' r' s' : Int}
theorem B4.lt (h : B4 w b p q r s) : b < w.heap.size := (Array.getElem?_eq_some_iff.1 h).1
theorem B4.below (h : B4 w b p q r s) (hb : Below w.heap.size w w') : B4 w' b p q r s := (hb.block b h.lt).trans h
theorem B4.new (w : World) (p q r s : Int) : B4 (w.alloc (.cells #[.int .u64 p, .int .u64 q, .int .u64 r, .int .u64 s] 34)) w.heap.size p q r s := show (w.heap.push _)[w.heap.size]? = some _ by simp
theorem B4.cells (h : B4 w b p q r s) : w.cell? ⟨b, 0, none⟩ = some (.int .u64 p) ∧ w.cell? ⟨b, 1, none⟩ = some (.int .u64 q) ∧ w.cell? ⟨b, 2, none⟩ = some (.int .u64 r) ∧ w.cell? ⟨b, 3, none⟩ = some (.int .u64 s) := by
  unfold B4 at h
  refine ⟨?_, ?_, ?_, ?_⟩ <;> simp [World.cell?, h]
theorem B4.free (h : B4 w b p q r s) : w.frozen? ⟨b, 0, none⟩ = false ∧ w.frozen? ⟨b, 1, none⟩ = false ∧ w.frozen? ⟨b, 2, none⟩ = false ∧ w.frozen? ⟨b, 3, none⟩ = false := by
  unfold B4 at h
  refine ⟨?_, ?_, ?_, ?_⟩ <;> simp [World.frozen?, h]
theorem B4.far (h : B4 w b p q r s) {a : Addr} (hne : b ≠ a.block) (u : Value) : B4 (w.setCell a u) b p q r s := (Below.heap_setCell w a u b hne).trans h
theorem B4.far4 (h : B4 w b p q r s) (hne : b ≠ x) : B4 ((((w.setCell ⟨x, 0, none⟩ (.int .u64 p')).setCell ⟨x, 1, none⟩ (.int .u64 q')).setCell ⟨x, 2, none⟩ (.int .u64 r')).setCell ⟨x, 3, none⟩ (.int .u64 s')) b p q r s := (((h.far hne _).far hne _).far hne _).far hne _
theorem B4.at (h : B4 w b p q r s) (i : Nat) (v : Value) : (w.setCell ⟨b, i, none⟩ v).heap[b]? = some (.cells ((#[.int .u64 p, .int .u64 q, .int .u64 r, .int .u64 s] : Array Value).setIfInBounds i v) 34 (0, 0)) := by
  unfold B4 at h
  simp [World.setCell, Array.getElem?_modify, h]
theorem B4.set0 (h : B4 w b p q r s) (x : Int) : B4 (w.setCell ⟨b, 0, none⟩ (.int .u64 x)) b x q r s := (h.at 0 _).trans rfl
theorem B4.set1 (h : B4 w b p q r s) (x : Int) : B4 (w.setCell ⟨b, 1, none⟩ (.int .u64 x)) b p x r s := (h.at 1 _).trans rfl
theorem B4.set2 (h : B4 w b p q r s) (x : Int) : B4 (w.setCell ⟨b, 2, none⟩ (.int .u64 x)) b p q x s := (h.at 2 _).trans rfl
theorem B4.set3 (h : B4 w b p q r s) (x : Int) : B4 (w.setCell ⟨b, 3, none⟩ (.int .u64 x)) b p q r x := (h.at 3 _).trans rfl
theorem B4.put (h : B4 w x p q r s) : B4 ((((w.setCell ⟨x, 0, none⟩ (.int .u64 p')).setCell ⟨x, 1, none⟩ (.int .u64 q')).setCell ⟨x, 2, none⟩ (.int .u64 r')).setCell ⟨x, 3, none⟩ (.int .u64 s')) x p' q' r' s' := (((h.set0 p').set1 q').set2 r').set3 s'
theorem below_put4 {B : Nat} {a : World} (h : Below B a w) (hb : B ≤ x) : Below B a ((((w.setCell ⟨x, 0, none⟩ (.int .u64 p')).setCell ⟨x, 1, none⟩ (.int .u64 q')).setCell ⟨x, 2, none⟩ (.int .u64 r')).setCell ⟨x, 3, none⟩ (.int .u64 s')) := (((h.setCell hb _).setCell hb _).setCell hb _).setCell hb _
end
abbrev ZB (w : World) (b : Nat) : Prop := B4 w b 0 0 0 0
theorem ZB.new (w : World) : ZB (w.alloc (.cells #[.int .u64 0, .int .u64 0, .int .u64 0, .int .u64 0] 34)) w.heap.size := B4.new w 0 0 0 0
/-- One or two new spans ahead of a call. -/
theorem zb_early {w v : World} (hb : Below (w.alloc (.cells #[.int .u64 0, .int .u64 0, .int .u64 0, .int .u64 0] 34)).heap.size (w.alloc (.cells #[.int .u64 0, .int .u64 0, .int .u64 0, .int .u64 0] 34)) v) : ZB v w.heap.size := B4.below (ZB.new w) hb
theorem zb_early2 {w v : World} (hb : Below ((w.alloc (.cells #[.int .u64 0, .int .u64 0, .int .u64 0, .int .u64 0] 34)).alloc (.cells #[.int .u64 0, .int .u64 0, .int .u64 0, .int .u64 0] 34)).heap.size ((w.alloc (.cells #[.int .u64 0, .int .u64 0, .int .u64 0, .int .u64 0] 34)).alloc (.cells #[.int .u64 0, .int .u64 0, .int .u64 0, .int .u64 0] 34)) v) : ZB v w.heap.size ∧ ZB v (w.heap.size + 1) := by
  have z := ZB.new (w.alloc (.cells #[.int .u64 0, .int .u64 0, .int .u64 0, .int .u64 0] 34))
  rw [show (w.alloc (.cells #[.int .u64 0, .int .u64 0, .int .u64 0, .int .u64 0] 34)).heap.size = w.heap.size + 1 from Array.size_push _] at z
  exact ⟨B4.below (B4.below (ZB.new w) (below_allocs _ _)) hb, B4.below z hb⟩
section
variable {W0 v : World} {x y : Nat} {a0 a1 a2 a3 b0 b1 b2 b3 : Int}
theorem Cut2.e1 (h : Below W0.heap.size W0 v) : Cut2 W0 a0 a1 a2 a3 b0 b1 b2 b3 (.pointer (some ⟨v.heap.size, 0, none⟩)) (.pointer (some ⟨v.heap.size + 1, 0, none⟩)) ((v.alloc (.cells #[.int .u64 a0, .int .u64 a1, .int .u64 a2, .int .u64 a3] 34)).alloc (.cells #[.int .u64 b0, .int .u64 b1, .int .u64 b2, .int .u64 b3] 34)) := by
  have n := B4.new (v.alloc (.cells #[.int .u64 a0, .int .u64 a1, .int .u64 a2, .int .u64 a3] 34)) b0 b1 b2 b3
  rw [show (v.alloc (.cells #[.int .u64 a0, .int .u64 a1, .int .u64 a2, .int .u64 a3] 34)).heap.size = v.heap.size + 1 from Array.size_push _] at n
  exact ⟨_, _, rfl, rfl, (B4.below (B4.new v a0 a1 a2 a3) (below_allocs _ _)), n, below_alloc (below_alloc h _) _⟩
theorem Cut2.e2 (h : Below W0.heap.size W0 v) : Cut2 W0 a0 a1 a2 a3 b0 b1 b2 b3 (.pointer (some ⟨v.heap.size + 1, 0, none⟩)) (.pointer (some ⟨v.heap.size, 0, none⟩)) ((v.alloc (.cells #[.int .u64 b0, .int .u64 b1, .int .u64 b2, .int .u64 b3] 34)).alloc (.cells #[.int .u64 a0, .int .u64 a1, .int .u64 a2, .int .u64 a3] 34)) := by
  have n := B4.new (v.alloc (.cells #[.int .u64 b0, .int .u64 b1, .int .u64 b2, .int .u64 b3] 34)) a0 a1 a2 a3
  rw [show (v.alloc (.cells #[.int .u64 b0, .int .u64 b1, .int .u64 b2, .int .u64 b3] 34)).heap.size = v.heap.size + 1 from Array.size_push _] at n
  exact ⟨_, _, rfl, rfl, n, (B4.below (B4.new v b0 b1 b2 b3) (below_allocs _ _)), below_alloc (below_alloc h _) _⟩
theorem size_put (w : World) (x : Nat) (a0 a1 a2 a3 : Int) : ((((w.setCell ⟨x, 0, none⟩ (.int .u64 a0)).setCell ⟨x, 1, none⟩ (.int .u64 a1)).setCell ⟨x, 2, none⟩ (.int .u64 a2)).setCell ⟨x, 3, none⟩ (.int .u64 a3)).heap.size = w.heap.size := by simp [World.setCell]
theorem Cut2.e3 (h : Below W0.heap.size W0 v) (z : ZB v x) (l : W0.heap.size ≤ x) : Cut2 W0 a0 a1 a2 a3 b0 b1 b2 b3 (.pointer (some ⟨x, 0, none⟩)) (.pointer (some ⟨v.heap.size, 0, none⟩)) (((((v.setCell ⟨x, 0, none⟩ (.int .u64 a0)).setCell ⟨x, 1, none⟩ (.int .u64 a1)).setCell ⟨x, 2, none⟩ (.int .u64 a2)).setCell ⟨x, 3, none⟩ (.int .u64 a3)).alloc (.cells #[.int .u64 b0, .int .u64 b1, .int .u64 b2, .int .u64 b3] 34)) := by
  have n := B4.new ((((v.setCell ⟨x, 0, none⟩ (.int .u64 a0)).setCell ⟨x, 1, none⟩ (.int .u64 a1)).setCell ⟨x, 2, none⟩ (.int .u64 a2)).setCell ⟨x, 3, none⟩ (.int .u64 a3)) b0 b1 b2 b3
  rw [size_put] at n
  exact ⟨_, _, rfl, rfl, (B4.below (B4.put (p' := a0) (q' := a1) (r' := a2) (s' := a3) z) (below_allocs _ _)), n, below_alloc (below_put4 h l) _⟩
theorem Cut2.e4 (h : Below W0.heap.size W0 v) (z : ZB v x) (l : W0.heap.size ≤ x) : Cut2 W0 a0 a1 a2 a3 b0 b1 b2 b3 (.pointer (some ⟨v.heap.size, 0, none⟩)) (.pointer (some ⟨x, 0, none⟩)) (((((v.setCell ⟨x, 0, none⟩ (.int .u64 b0)).setCell ⟨x, 1, none⟩ (.int .u64 b1)).setCell ⟨x, 2, none⟩ (.int .u64 b2)).setCell ⟨x, 3, none⟩ (.int .u64 b3)).alloc (.cells #[.int .u64 a0, .int .u64 a1, .int .u64 a2, .int .u64 a3] 34)) := by
  have n := B4.new ((((v.setCell ⟨x, 0, none⟩ (.int .u64 b0)).setCell ⟨x, 1, none⟩ (.int .u64 b1)).setCell ⟨x, 2, none⟩ (.int .u64 b2)).setCell ⟨x, 3, none⟩ (.int .u64 b3)) a0 a1 a2 a3
  rw [size_put] at n
  exact ⟨_, _, rfl, rfl, n, (B4.below (B4.put (p' := b0) (q' := b1) (r' := b2) (s' := b3) z) (below_allocs _ _)), below_alloc (below_put4 h l) _⟩
theorem Cut2.e5 (h : Below W0.heap.size W0 v) (z : ZB v x) (z' : ZB v y) (l : W0.heap.size ≤ x) (l' : W0.heap.size ≤ y) (ne : x ≠ y) : Cut2 W0 a0 a1 a2 a3 b0 b1 b2 b3 (.pointer (some ⟨x, 0, none⟩)) (.pointer (some ⟨y, 0, none⟩)) ((((((((v.setCell ⟨x, 0, none⟩ (.int .u64 a0)).setCell ⟨x, 1, none⟩ (.int .u64 a1)).setCell ⟨x, 2, none⟩ (.int .u64 a2)).setCell ⟨x, 3, none⟩ (.int .u64 a3)).setCell ⟨y, 0, none⟩ (.int .u64 b0)).setCell ⟨y, 1, none⟩ (.int .u64 b1)).setCell ⟨y, 2, none⟩ (.int .u64 b2)).setCell ⟨y, 3, none⟩ (.int .u64 b3)) :=
  ⟨_, _, rfl, rfl, (B4.far4 (B4.put z) ne), (B4.put (B4.far4 z' (Ne.symm ne))), below_put4 (below_put4 h l) l'⟩
end
end Go.Proofs.Ytolicfackceomaa.T8
