/-
  What Of of the reference of layer 1 answers: the number of 128 bits.
-/
import Derived.Test.YtfnfjfmkhnofkaaWideTb
namespace Go.Proofs.Ytfnfjfmkhnofkaa.Wd
open Go.RowKit
set_option linter.unusedVariables false

theorem Ints.below {W w' : World} {b off : Nat} {xs : List Int} (h : Ints W b off xs) (hlt : b < W.heap.size) (hb : Below W.heap.size W w') : Ints w' b off xs :=
  fun i hi => (hb.cell (p := ⟨b, off + i, none⟩) hlt).trans (h i hi)

set_option maxRecDepth 100000 in
set_option maxHeartbeats 1000000 in
theorem rOf (b off cap : Nat) (xs : List Int) (hb : AreBits xs) (hn : xs.length ≤ 1000) (w : World) (hlt : b < w.heap.size) (hc : Ints w b off xs) :
    Calls Try.prog 39 #[.slice (some ⟨b, off, none⟩) xs.length cap] w (U1 (fun h l => h = leB ((xs.drop 64).take 64) ∧ l = leB ((xs.drop 0).take 64)) w) := by
  have hc1 := hc.below hlt (below_alloc (Below.refl _ _) (.cells #[.int .u64 0, .int .u64 0] 31))
  have C1 := Lib.hid (rWord b off cap xs hb 64 (by omega) hn _ hc1)
  have C2 := Lib.hid (rWord b off cap xs hb 0 (by omega) hn _ hc1)
  clear hc hc1 hb
  go_enter Try.func39, Try.ntmps39
  go_wp2_with fail
  refine C1.out.mono ?_
  rintro e w' ⟨rfl, rfl⟩
  go_wp2_with fail
  refine C2.out.mono ?_
  rintro e w' ⟨rfl, rfl⟩
  go_wp2
  go_returns
  exact ⟨_, _, ⟨rfl, rfl⟩, rfl, by go_grown⟩
end Go.Proofs.Ytfnfjfmkhnofkaa.Wd
