/-
  A list of words that grows, and a state that is stored beside it. Made by wip/gen/hftells.py.
-/
import Derived.Test.YtdmoedjjbhkdmaaHfStepsW
import Derived.Deep.AppendLies
import Derived.Deep.DeepCutAuto
namespace Go.Proofs.Ytdmoedjjbhkdmaa
open Go.RowKit G
set_option linter.unusedVariables false

/-- What the loop keeps. -/
structure LH (w : World) (v : Value) (b : Nat) (us : List Nat) (y : Hw) (wr : World) : Prop where
  ow : wr.ownsRow w.heap.size 22 1 v us.length (u64s us)
  bx : K5 37 wr b y
  wd : Wds us
  below : Below w.heap.size w wr
  ge : w.heap.size ≤ b
theorem own_blockH {w : World} {base n : Nat} {T : TypeId} {v : Value} {xs : List Value} (h : w.ownsRow base T 1 v n xs) : v.ownBlock = none ∨ ∃ g cur, v.ownBlock = some g ∧ w.heap[g]? = some (.cells cur T (0, 0)) := by
  rcases h.2 with ⟨rfl, _⟩ | ⟨g, cap, cur, rfl, _, hh, _⟩
  · exact .inl rfl
  · exact .inr ⟨g, cur, rfl, hh⟩
theorem own_k5 {w : World} {base n b : Nat} {T : TypeId} {v : Value} {xs : List Value} {y : Hw} (hT : T ≠ 37) (h : w.ownsRow base T 1 v n xs) (hb : K5 37 w b y) : v.ownBlock = none ∨ v.ownBlock ≠ some b := by
  rcases own_blockH h with e | ⟨g, cur, e, hg⟩
  · exact .inl e
  · right
    rw [e]
    intro eq
    obtain rfl : g = b := by simpa using eq
    unfold K5 at hb
    rw [hg] at hb
    simp at hb
    exact hT hb.2
theorem k5_grown {t : TypeId} {w w' : World} {b : Nat} {y : Hw} {row : Option Nat} (h : K5 t w b y) (hg : w.grownBy w' row) (hne : row = none ∨ row ≠ some b) : K5 t w' b y :=
  (hg.block b h.lt (by rcases hne with e | e; rw [e]; simp; exact fun q => e q.symm)).trans h
theorem grown_put5t (w : World) (b : Nat) (z : Hw) : w.grownBy (put5 w b z) (some b) :=
  grown_set (grown_set (grown_set (grown_set (grown_set (grown_refl w _) 0 _) 1 _) 2 _) 3 _) 4 _
section
variable {w wr w' : World} {v v' : Value} {b : Nat} {us : List Nat} {y : Hw}
theorem LH.of (h : GrowW w v us wr) (k : K5 37 wr b y) (g : w.heap.size ≤ b) : LH w v b us y wr := ⟨h.own, k, h.wds, h.below, g⟩
theorem LH.far (h : LH w v b us y wr) (hb : Below wr.heap.size wr w') : LH w v b us y w' :=
  ⟨owns_below h.ow hb, h.bx.below hb, h.wd, below_then h.below hb, h.ge⟩
theorem LH.word (h : LH w v b us y wr) (x : Nat) (hx : x < 18446744073709551616) (hown : w'.ownsRow w.heap.size 22 1 v' (us.length + 1) (u64s us ++ [.int .u64 (x : Int)])) (hg : wr.grownBy w' v.ownBlock) : LH w v' b (us ++ [x]) y w' :=
  ⟨by rw [List.length_append, u64s, List.map_append]; exact hown, k5_grown h.bx hg (own_k5 (by decide) h.ow h.bx), fun y hy => by
    rcases List.mem_append.1 hy with hy | hy
    · exact h.wd y hy
    · rw [List.mem_singleton.1 hy]; exact hx, h.below.grown hg h.below.size (fun j hj => (h.ow.lt j hj).1), h.ge⟩
theorem LH.put (h : LH w v b us y wr) (z : Hw) : LH w v b us z (put5 wr b z) :=
  ⟨h.ow.kept (grown_put5t wr b z) (own_k5 (by decide) h.ow h.bx), K5.put h.bx z, h.wd, below_put5 h.below h.ge z, h.ge⟩
end
theorem sameL_selfH (us : List Nat) : sameL us us = true := by unfold sameL; simp
end Go.Proofs.Ytdmoedjjbhkdmaa
