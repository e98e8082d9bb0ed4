/-
  What the calls Of, Add, Up and Mul of the reference of layer 2 answer.
-/
import Derived.Test.YtfnfjfmkhnofkaaGfpTb
import Derived.Test.YtfnfjfmkhnofkaaGfpK
import Derived.RegionTactic
namespace Go.Proofs.Ytfnfjfmkhnofkaa
open Go.RowKit G
set_option linter.unusedVariables false

abbrev u64s (xs : List Nat) : List Value := xs.map fun x : Nat => Value.int .u64 (x : Int)
/-- A list of words that grows: a slice of the call's own. -/
structure GrowW (w : World) (v : Value) (xs : List Nat) (wr : World) : Prop where
  own : wr.ownsRow w.heap.size 22 1 v xs.length (u64s xs)
  wds : Wds xs
  below : Below w.heap.size w wr
theorem GrowW.start (w : World) : GrowW w (.slice (some ⟨w.heap.size, 0, none⟩) 0 0) [] (w.alloc (.cells #[] 22)) :=
  ⟨World.ownsRow_made w #[] 0 (Nat.le_refl _) (by decide) rfl, fun x hx => (by cases hx), below_alloc (Below.refl _ _) _⟩
theorem GrowW.far {w wr w' : World} {v : Value} {xs : List Nat} (h : GrowW w v xs wr) (hb : Below wr.heap.size wr w') : GrowW w v xs w' := ⟨owns_below h.own hb, h.wds, below_then h.below hb⟩
theorem GrowW.step {w wr w' : World} {v v' : Value} {xs ys : List Nat} (h : GrowW w v xs wr) (hy : Wds ys) (hown : w'.ownsRow w.heap.size 22 1 v' (xs.length + ys.length) (u64s xs ++ u64s ys)) (hg : wr.grownBy w' v.ownBlock) : GrowW w v' (xs ++ ys) w' :=
  ⟨by rw [List.length_append, u64s, List.map_append]; exact hown, fun x hx => by
    rcases List.mem_append.1 hx with hx | hx
    · exact h.wds x hx
    · exact hy x hx, h.below.grown hg h.below.size (fun j hj => (h.own.lt j hj).1)⟩
theorem sz_len (N k : Nat) : 64 * k < len N ↔ k < (wordsOf N).length := by
  show _ ↔ k < sz N
  by_cases h0 : N = 0
  · subst h0; rw [sz_zero, len_zero]; omega
  · obtain ⟨m, hm⟩ : ∃ m, sz N = m + 1 := ⟨sz N - 1, by have : 0 < sz N := by unfold sz; rw [wordsOf_pos h0]; simp
                                                        omega⟩
    obtain ⟨d1, d2, d3⟩ := deg_top (wordsOf N) N m (wds_wordsOf N) (leN_wordsOf N) hm
    have a := len_pos d1
    have b := len_word ((wds_wordsOf N).get m)
    rw [hm, d2]
    omega
theorem take_next (xs : List Nat) (k x : Nat) (hk : k < xs.length) (hx : xs.getD k 0 = x) : xs.take (k + 1) = xs.take k ++ [x] := by
  rw [List.take_succ_eq_append_getElem hk, ← hx]
  simp [List.getD_eq_getElem?_getD, List.getElem?_eq_getElem hk]
end Go.Proofs.Ytfnfjfmkhnofkaa
