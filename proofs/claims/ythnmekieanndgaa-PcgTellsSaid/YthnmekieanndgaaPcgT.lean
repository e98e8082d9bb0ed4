/-
  A list of words that grows, and a state that is stored beside it.
-/
import Derived.Test.YthnmekieanndgaaPcgC
import Derived.Test.YthnmekieanndgaaPcgBackW
import Derived.Test.YthnmekieanndgaaAffPowW
import Derived.Test.YthnmekieanndgaaGfpJa
import Derived.Deep.AppendLies
import Derived.Deep.DeepCutAuto
import Derived.Maps.OwnRows
namespace Go.Proofs.Ythnmekieanndgaa
open Go.RowKit G
set_option linter.unusedVariables false

/-- What the loop keeps. -/
structure LP (w : World) (v : Value) (b : Nat) (us : List Nat) (p q r s : Int) (wr : World) : Prop where
  ow : wr.ownsRow w.heap.size 22 1 v us.length (u64s us)
  bx : K4 33 wr b p q r s
  wd : Wds us
  below : Below w.heap.size w wr
  ge : w.heap.size ≤ b
theorem own_block {w : World} {base n : Nat} {T : TypeId} {v : Value} {xs : List Value} (h : w.ownsRow base T 1 v n xs) : v.ownBlock = none ∨ ∃ g cur, v.ownBlock = some g ∧ w.heap[g]? = some (.cells cur T (0, 0)) := by
  rcases h.2 with ⟨rfl, _⟩ | ⟨g, cap, cur, rfl, _, hh, _⟩
  · exact .inl rfl
  · exact .inr ⟨g, cur, rfl, hh⟩
theorem own_k4 {w : World} {base n b : Nat} {T : TypeId} {v : Value} {xs : List Value} {p q r s : Int} (hT : T ≠ 33) (h : w.ownsRow base T 1 v n xs) (hb : K4 33 w b p q r s) : v.ownBlock = none ∨ v.ownBlock ≠ some b := by
  rcases own_block h with e | ⟨g, cur, e, hg⟩
  · exact .inl e
  · right
    rw [e]
    intro eq
    obtain rfl : g = b := by simpa using eq
    unfold K4 at hb
    rw [hg] at hb
    simp at hb
    exact hT hb.2
theorem k4_grown {t : TypeId} {w w' : World} {b : Nat} {p q r s : Int} {row : Option Nat} (h : K4 t w b p q r s) (hg : w.grownBy w' row) (hne : row = none ∨ row ≠ some b) : K4 t w' b p q r s :=
  (hg.block b h.lt (by rcases hne with e | e; rw [e]; simp; exact fun q => e q.symm)).trans h
theorem grown_put (wr : World) (x : Nat) (i : Nat) (u : Value) : wr.grownBy (wr.setCell ⟨x, i, none⟩ u) (some x) :=
  ⟨rfl, rfl, rfl, by simp [World.setCell], fun k _ hne => Below.heap_setCell wr ⟨x, i, none⟩ u k (by simpa using hne)⟩
theorem grown_put4 (wr : World) (x : Nat) (u v y z : Value) : wr.grownBy ((((wr.setCell ⟨x, 0, none⟩ u).setCell ⟨x, 1, none⟩ v).setCell ⟨x, 2, none⟩ y).setCell ⟨x, 3, none⟩ z) (some x) :=
  (((grown_put wr x 0 u).trans (grown_put _ x 1 v)).trans (grown_put _ x 2 y)).trans (grown_put _ x 3 z)
section
variable {w wr w' : World} {v v' : Value} {b : Nat} {us : List Nat} {p q r s p' q' r' s' : Int}
theorem LP.of (h : GrowW w v us wr) (k : K4 33 wr b p q r s) (g : w.heap.size ≤ b) : LP w v b us p q r s wr := ⟨h.own, k, h.wds, h.below, g⟩
theorem LP.far (h : LP w v b us p q r s wr) (hb : Below wr.heap.size wr w') : LP w v b us p q r s w' :=
  ⟨owns_below h.ow hb, h.bx.below hb, h.wd, below_then h.below hb, h.ge⟩
theorem LP.word (h : LP w v b us p q r s wr) (x : Nat) (hx : x < 18446744073709551616) (hown : w'.ownsRow w.heap.size 22 1 v' (us.length + 1) (u64s us ++ [.int .u64 (x : Int)])) (hg : wr.grownBy w' v.ownBlock) : LP w v' b (us ++ [x]) p q r s w' :=
  ⟨by rw [List.length_append, u64s, List.map_append]; exact hown, k4_grown h.bx hg (own_k4 (by decide) h.ow h.bx), fun y hy => by
    rcases List.mem_append.1 hy with hy | hy
    · exact h.wd y hy
    · rw [List.mem_singleton.1 hy]; exact hx, h.below.grown hg h.below.size (fun j hj => (h.ow.lt j hj).1), h.ge⟩
theorem LP.put (h : LP w v b us p q r s wr) (p' q' r' s' : Int) : LP w v b us p' q' r' s' ((((wr.setCell ⟨b, 0, none⟩ (.int .u64 p')).setCell ⟨b, 1, none⟩ (.int .u64 q')).setCell ⟨b, 2, none⟩ (.int .u64 r')).setCell ⟨b, 3, none⟩ (.int .u64 s')) :=
  ⟨h.ow.kept (grown_put4 wr b _ _ _ _) (own_k4 (by decide) h.ow h.bx), K4.put h.bx, h.wd, below_putK4 h.below h.ge, h.ge⟩
end
/-- A block of zeros that is laid ahead of a call. -/
def Z4 (w : World) (b : Nat) : Prop := K4 26 w b 0 0 0 0
section
variable {w w' : World} {b : Nat}
theorem Z4.cells (h : Z4 w b) : w.cell? ⟨b, 0, none⟩ = some (.int .u64 0) ∧ w.cell? ⟨b, 1, none⟩ = some (.int .u64 0) ∧ w.cell? ⟨b, 2, none⟩ = some (.int .u64 0) ∧ w.cell? ⟨b, 3, none⟩ = some (.int .u64 0) := K4.cells h
theorem Z4.free (h : Z4 w b) : w.frozen? ⟨b, 0, none⟩ = false ∧ w.frozen? ⟨b, 1, none⟩ = false ∧ w.frozen? ⟨b, 2, none⟩ = false ∧ w.frozen? ⟨b, 3, none⟩ = false := K4.free h
theorem Z4.lt (h : Z4 w b) : b < w.heap.size := K4.lt h
theorem Z4.below (h : Z4 w b) (hb : Below w.heap.size w w') : Z4 w' b := K4.below h hb
end
theorem z4_early {w v : World} (hb : Below (w.alloc (.cells #[.int .u64 0, .int .u64 0, .int .u64 0, .int .u64 0] 26)).heap.size (w.alloc (.cells #[.int .u64 0, .int .u64 0, .int .u64 0, .int .u64 0] 26)) v) : Z4 v w.heap.size := k4_early hb
/-- Behind a region that lays a state, and tells a code. -/
def CutPE (W0 : World) (p q r s k : Int) (v x : Value) (wr : World) : Prop := ∃ b, v = .pointer (some ⟨b, 0, none⟩) ∧ x = .int .i64 k ∧ K4 26 wr b p q r s ∧ Below W0.heap.size W0 wr
section
variable {W0 v : World} {b : Nat} {p q r s k : Int}
theorem CutPE.of (hb : Below W0.heap.size W0 v) : CutPE W0 p q r s k (.pointer (some ⟨v.heap.size, 0, none⟩)) (.int .i64 k) (v.alloc (.cells #[.int .u64 p, .int .u64 q, .int .u64 r, .int .u64 s] 26)) := ⟨_, rfl, rfl, K4.new _ v p q r s, below_alloc hb _⟩
theorem CutPE.early (hb : Below W0.heap.size W0 v) (le : W0.heap.size ≤ b) (z : Z4 v b) : CutPE W0 p q r s k (.pointer (some ⟨b, 0, none⟩)) (.int .i64 k) ((((v.setCell ⟨b, 0, none⟩ (.int .u64 p)).setCell ⟨b, 1, none⟩ (.int .u64 q)).setCell ⟨b, 2, none⟩ (.int .u64 r)).setCell ⟨b, 3, none⟩ (.int .u64 s)) := ⟨_, rfl, rfl, K4.put z, below_putK4 hb le⟩
end
theorem sameL_self (us : List Nat) : sameL us us = true := by unfold sameL; simp
/-- Calls that tell a word, or a state and a code. -/
abbrev TU (f : FuncId) (args : Array Value) (v : Int) : Prop := ∀ W : World, Calls Try.prog f args W (fun e w' => e = .returned (.int .u64 v) ∧ Below W.heap.size W w')
abbrev TP (f : FuncId) (args : Array Value) (p q r s k : Int) : Prop := ∀ W : World, Calls Try.prog f args W (fun e w' => e = .returned (.tuple #[.agg #[.int .u64 p, .int .u64 q, .int .u64 r, .int .u64 s], .int .i64 k]) ∧ Below W.heap.size W w')
end Go.Proofs.Ythnmekieanndgaa
