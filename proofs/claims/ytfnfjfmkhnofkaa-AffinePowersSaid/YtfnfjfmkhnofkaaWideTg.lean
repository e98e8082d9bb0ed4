/-
  What Right of the reference of layer 1 answers.
-/
import Derived.Test.YtfnfjfmkhnofkaaWideTf
namespace Go.Proofs.Ytfnfjfmkhnofkaa.Wd
open Go.RowKit
set_option linter.unusedVariables false

theorem ints_drop {w : World} {b : Nat} {xs : List Int} (h : Ints w b 0 xs) (k : Nat) : Ints w b k (xs.drop k) := by
  intro i hi
  have hi' : k + i < xs.length := by simp at hi; omega
  have := h (k + i) hi'
  rw [Nat.zero_add] at this
  rw [this]
  simp [List.getElem?_drop]

theorem rOf0 (g off cap : Nat) (z : Int) (hz : md (leB []) = z) (w : World) (hlt : g < w.heap.size) :
    Calls Try.prog 39 #[.slice (some ⟨g, off, none⟩) 0 cap] w (N1 z w) := by
  subst hz
  exact rOfN g off cap [] (fun x hx => by simp at hx) (by simp) w hlt (fun i hi => by simp at hi)

end Go.Proofs.Ytfnfjfmkhnofkaa.Wd
