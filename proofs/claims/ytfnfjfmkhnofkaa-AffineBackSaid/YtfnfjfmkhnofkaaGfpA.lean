/-
  What the calls word, size and Words of package gfp answer: a word of a list, how many words the own form has, and the product of two words, for all lists of words.
-/
import Derived.Test.YtfnfjfmkhnofkaaRows
import Derived.Test.YtfnfjfmkhnofkaaGfpM
import Derived.WalkKit
import Derived.ProofKit
import Derived.OpenShut
import Derived.Handy
import Derived.Lib.Hide
import Derived.Deep.QuietTactic
import Derived.BigQuiet
import Derived.Deep.OwnRows
import Derived.Laws.BitsAllLaws
namespace Go.Proofs.Ytfnfjfmkhnofkaa
open Go.RowKit G
set_option linter.unusedVariables false

/-- A slice (its address, its capacity) that holds these words. -/
structure Pol (w : World) (A : Option Addr) (cap : Nat) (xs : List Nat) : Prop where
  word : Wds xs
  cap1 : xs.length ≤ cap
  cap2 : cap ≤ 9223372036854775807
  cell : ∀ i, i < xs.length → ∃ b o, A = some ⟨b, o, none⟩ ∧ w.cell? ⟨b, o + i, none⟩ = some (.int .u64 ((xs.getD i 0 : Nat) : Int))
theorem Pol.below {w w' : World} {A : Option Addr} {cap : Nat} {xs : List Nat} (h : Pol w A cap xs) (hb : Below w.heap.size w w') : Pol w' A cap xs :=
  ⟨h.word, h.cap1, h.cap2, fun i hi => by
    obtain ⟨b, o, e, hc⟩ := h.cell i hi
    exact ⟨b, o, e, (hb.cell (p := ⟨b, o + i, none⟩) (World.block_lt_of_cell? w _ hc)).trans hc⟩⟩
theorem Pol.nil (w : World) (A : Option Addr) (cap : Nat) (h : cap ≤ 9223372036854775807) : Pol w A cap [] := ⟨fun x hx => (by cases hx), Nat.zero_le _, h, fun i hi => (by cases hi)⟩
theorem below_then {w W w' : World} (h : Below w.heap.size w W) (hb : Below W.heap.size W w') : Below w.heap.size w w' := h.trans (hb.mono h.size)
theorem below_drewN {w : World} (n : Nat) : Below w.heap.size w (w.drewN n) := ⟨rfl, rfl, rfl, Nat.le_refl _, fun _ _ => rfl⟩
theorem below_drewN' {B : Nat} {a w : World} (h : Below B a w) (n : Nat) : Below B a (w.drewN n) := ⟨h.os, h.tape, h.output, h.size, h.block⟩
theorem below_alloc {w W : World} (h : Below w.heap.size w W) (o : Obj) : Below w.heap.size w (W.alloc o) := h.alloc h.size o

/-- How many words the own form has. -/
def sz (n : Nat) : Nat := (wordsOf n).length
end Go.Proofs.Ytfnfjfmkhnofkaa
