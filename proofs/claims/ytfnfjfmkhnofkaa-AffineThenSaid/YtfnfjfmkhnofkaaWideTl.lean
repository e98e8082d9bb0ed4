/-
  Words for Put of the reference of layer 1 (the walk itself is not typed yet): bytes out of bits.
-/
import Derived.Test.YtfnfjfmkhnofkaaWideTi
namespace Go.Proofs.Ytfnfjfmkhnofkaa.Wd
open Go.RowKit
set_option linter.unusedVariables false

/-- The lowest k bytes of n, the lowest one first. -/
def bl : Nat → Int → List Int
  | 0, _ => []
  | k + 1, n => bl k n ++ [n / 2 ^ (8 * k) % 256]
theorem bl_length : ∀ (k : Nat) (n : Int), (bl k n).length = k
  | 0, _ => rfl
  | k + 1, n => by simp [bl, bl_length k n]
theorem infoByte : (Try.prog.info? 5).map (fun i => (i.zero, i.size, i.bytes)) = some (some (.int .u8 0), 1, 1) := by kernel_rfl
structure PutInv (W0 : World) (n : Int) (k : Nat) (v : Value) (wr : World) : Prop where
  own : wr.ownsRow W0.heap.size 5 1 v k ((bl k n).map (Value.int .u8))
  far : Below W0.heap.size W0 wr
theorem put_step {W0 : World} {n : Int} {k : Nat} {v v' : Value} {wr w1 : World} {o : Obj} (inv : PutInv W0 n k v wr)
    (hown' : w1.ownsRow W0.heap.size 5 1 v' (k + 1) ((bl k n).map (Value.int .u8) ++ [.int .u8 (n / 2 ^ (8 * k) % 256)])) (hgrow : (wr.alloc o).grownBy w1 v.ownBlock) : PutInv W0 n (k + 1) v' w1 := by
  refine ⟨?_, (below_alloc inv.far o).grown hgrow (by have := inv.far.size; simp; omega) (fun j hj => (inv.own.lt j hj).1)⟩
  rw [bl, List.map_append]
  exact hown'
theorem drop_step8 (ys : List Int) (t : Nat) (ht : t < 8) (hl : ys.length = 8) : leB (ys.drop (7 - t)) = ys.getD (7 - t) 0 + 2 * leB (ys.drop (8 - t)) := by
  have h : 7 - t < ys.length := by omega
  rw [List.drop_eq_getElem_cons h, show 7 - t + 1 = 8 - t from by omega]
  simp [leB, List.getElem?_eq_getElem h]

end Go.Proofs.Ytfnfjfmkhnofkaa.Wd
