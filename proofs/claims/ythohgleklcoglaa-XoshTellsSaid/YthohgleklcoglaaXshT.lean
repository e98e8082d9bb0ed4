/-
  A list of words and a list of bools that grow beside each other, and a state that is stored beside them.
-/
import Derived.Test.YthohgleklcoglaaXshJ
import Derived.Test.YthohgleklcoglaaWq
import Derived.Deep.AppendLies
import Derived.Deep.DeepCutAuto
import Derived.Maps.OwnRows
namespace Go.Proofs.Ythohgleklcoglaa
open Go.RowKit G
set_option linter.unusedVariables false

/-- What a loop keeps. -/
structure LSt (w : World) (v5 v6 : Value) (b7 : Nat) (us : List Nat) (ls : List Bool) (s : St) (wr : World) : Prop where
  ow : wr.ownsRow w.heap.size 22 1 v5 us.length (u64s us)
  ob : wr.ownsRow w.heap.size 4 1 v6 ls.length (ls.map Value.bool)
  bx : Bx 23 wr b7 s
  wd : Wds us
  below : Below w.heap.size w wr
  ge : w.heap.size ≤ b7
theorem own_block {w : World} {base n : Nat} {T : TypeId} {v : Value} {xs : List Value} (h : w.ownsRow base T 1 v n xs) : v.ownBlock = none ∨ ∃ g cur, v.ownBlock = some g ∧ w.heap[g]? = some (.cells cur T (0, 0)) := by
  rcases h.2 with ⟨rfl, _⟩ | ⟨g, cap, cur, rfl, _, hh, _⟩
  · exact .inl rfl
  · exact .inr ⟨g, cur, rfl, hh⟩
theorem own_apart {w : World} {base n m : Nat} {T T' : TypeId} {v v' : Value} {xs ys : List Value} (hT : T ≠ T') (h : w.ownsRow base T 1 v n xs) (h' : w.ownsRow base T' 1 v' m ys) : v.ownBlock = none ∨ v.ownBlock ≠ v'.ownBlock := by
  rcases own_block h with e | ⟨g, cur, e, hg⟩
  · exact .inl e
  · rcases own_block h' with e' | ⟨g', cur', e', hg'⟩
    · right; rw [e, e']; simp
    · right
      rw [e, e']
      intro eq
      obtain rfl : g = g' := by simpa using eq
      rw [hg] at hg'
      simp at hg'
      exact hT hg'.2
theorem own_bx {w : World} {base n b : Nat} {T : TypeId} {v : Value} {xs : List Value} {s : St} (hT : T ≠ 23) (h : w.ownsRow base T 1 v n xs) (hb : Bx 23 w b s) : v.ownBlock = none ∨ v.ownBlock ≠ some b := by
  rcases own_block h with e | ⟨g, cur, e, hg⟩
  · exact .inl e
  · right
    rw [e]
    intro eq
    obtain rfl : g = b := by simpa using eq
    unfold Bx at hb
    rw [hg] at hb
    simp at hb
    exact hT hb.2
theorem bx_grown {w w' : World} {b : Nat} {s : St} {row : Option Nat} (h : Bx 23 w b s) (hg : w.grownBy w' row) (hne : row = none ∨ row ≠ some b) : Bx 23 w' b s :=
  (hg.block b h.lt (by rcases hne with e | e; rw [e]; simp; exact fun q => e q.symm)).trans h
section
variable {w wr w' : World} {v5 v6 v' : Value} {b7 : Nat} {us : List Nat} {ls : List Bool} {s : St}
theorem LSt.far (h : LSt w v5 v6 b7 us ls s wr) (hb : Below wr.heap.size wr w') : LSt w v5 v6 b7 us ls s w' :=
  ⟨owns_below h.ow hb, owns_below h.ob hb, h.bx.below hb, h.wd, below_then h.below hb, h.ge⟩
theorem LSt.word (h : LSt w v5 v6 b7 us ls s wr) (x : Nat) (hx : x < 18446744073709551616) (hown : w'.ownsRow w.heap.size 22 1 v' (us.length + 1) (u64s us ++ [.int .u64 (x : Int)])) (hg : wr.grownBy w' v5.ownBlock) : LSt w v' v6 b7 (us ++ [x]) ls s w' :=
  ⟨by rw [List.length_append, u64s, List.map_append]; exact hown, h.ob.kept hg (own_apart (by decide) h.ob h.ow), bx_grown h.bx hg (own_bx (by decide) h.ow h.bx), fun y hy => by
    rcases List.mem_append.1 hy with hy | hy
    · exact h.wd y hy
    · rw [List.mem_singleton.1 hy]; exact hx, h.below.grown hg h.below.size (fun j hj => (h.ow.lt j hj).1), h.ge⟩
theorem LSt.bit (h : LSt w v5 v6 b7 us ls s wr) (x : Bool) (hown : w'.ownsRow w.heap.size 4 1 v' (ls.length + 1) (ls.map Value.bool ++ [.bool x])) (hg : wr.grownBy w' v6.ownBlock) : LSt w v5 v' b7 us (ls ++ [x]) s w' :=
  ⟨h.ow.kept hg (own_apart (by decide) h.ow h.ob), by rw [List.length_append, List.map_append]; exact hown, bx_grown h.bx hg (own_bx (by decide) h.ob h.bx), h.wd, h.below.grown hg h.below.size (fun j hj => (h.ob.lt j hj).1), h.ge⟩
theorem grown_put (wr : World) (x : Nat) (i : Nat) (u : Value) : wr.grownBy (wr.setCell ⟨x, i, none⟩ u) (some x) :=
  ⟨rfl, rfl, rfl, by simp [World.setCell], fun k _ hne => Below.heap_setCell wr ⟨x, i, none⟩ u k (by simpa using hne)⟩
theorem grown_put4 (wr : World) (x : Nat) (u v y z : Value) : wr.grownBy ((((wr.setCell ⟨x, 0, none⟩ u).setCell ⟨x, 1, none⟩ v).setCell ⟨x, 2, none⟩ y).setCell ⟨x, 3, none⟩ z) (some x) :=
  (((grown_put wr x 0 u).trans (grown_put _ x 1 v)).trans (grown_put _ x 2 y)).trans (grown_put _ x 3 z)
theorem LSt.put (h : LSt w v5 v6 b7 us ls s wr) (n : St) : LSt w v5 v6 b7 us ls n ((((wr.setCell ⟨b7, 0, none⟩ (.int .u64 (n.a : Int))).setCell ⟨b7, 1, none⟩ (.int .u64 (n.b : Int))).setCell ⟨b7, 2, none⟩ (.int .u64 (n.c : Int))).setCell ⟨b7, 3, none⟩ (.int .u64 (n.d : Int))) :=
  ⟨h.ow.kept (grown_put4 wr b7 _ _ _ _) (own_bx (by decide) h.ow h.bx), h.ob.kept (grown_put4 wr b7 _ _ _ _) (own_bx (by decide) h.ob h.bx), h.bx.put n, h.wd, below_put h.below h.ge, h.ge⟩
end
end Go.Proofs.Ythohgleklcoglaa
