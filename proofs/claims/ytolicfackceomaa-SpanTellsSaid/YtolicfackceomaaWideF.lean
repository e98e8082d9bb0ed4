/-
  What the call Print of package wide answers: the number by ten, all digits and no more, for all pairs of words.
  No condition beside that each word lies below 2^64.
-/
import Derived.Test.YtolicfackceomaaWideE
namespace Go.Proofs.Ytolicfackceomaa.Wd
open Go.RowKit
set_option linter.unusedVariables false

/-- The lowest k digits of v by ten, the highest one first, as letters. -/
def decK : Nat → Int → List Int
  | 0, _ => []
  | k + 1, v => (48 + v / 10 ^ k % 10) :: decK k v
theorem decK_length : ∀ (k : Nat) (v : Int), (decK k v).length = k
  | 0, _ => rfl
  | k + 1, v => by simp [decK, decK_length k v]

/-- Behind k rounds: what is left of the number, and the digits. -/
structure PrInv (w : World) (v : Int) (k : Nat) (W : World) (h l : Int) : Prop where
  left : Is (v / 10 ^ k) h l
  own : Own W w.heap.size (.int .u64 h) (.int .u64 l)
  size : w.heap.size + 1 < W.heap.size
  there : ∀ j, j < 39 → (W.cell? ⟨w.heap.size + 1, j, none⟩).isSome = true
  free : ∀ j, W.frozen? ⟨w.heap.size + 1, j, none⟩ = false
  digs : ∀ i, i < k → W.cell? ⟨w.heap.size + 1, 39 - k + i, none⟩ = some (.int .u8 ((decK k v).getD i 0))
  below : Below w.heap.size w W

theorem pr_step {w : World} {v : Int} {k m : Nat} {W W1 : World} {h l h' l' d : Int} (inv : PrInv w v k W h l) (hb : Below W.heap.size W W1) (hk : 39 - k = m + 1)
    (hq : Is ((h * 18446744073709551616 + l) / 10) h' l') (hd : d = (h * 18446744073709551616 + l) % 10) :
    PrInv w v (k + 1) (((W1.setCell ⟨w.heap.size, 0, none⟩ (.int .u64 h')).setCell ⟨w.heap.size, 1, none⟩ (.int .u64 l')).setCell ⟨w.heap.size + 1, m, none⟩ (.int .u8 (48 + d))) h' l' := by
  have hsz1 : w.heap.size + 1 < W1.heap.size := Nat.lt_of_lt_of_le inv.size hb.size
  obtain ⟨p1, p2, p3, p4, p5⟩ := inv.own.below hb
  have e5 := inv.left.2.2.2.2
  have n1 : ∀ j, (⟨w.heap.size, 0, none⟩ : Addr) ≠ ⟨w.heap.size + 1, j, none⟩ := fun j q => by injection q with q; omega
  have n2 : ∀ j, (⟨w.heap.size, 1, none⟩ : Addr) ≠ ⟨w.heap.size + 1, j, none⟩ := fun j q => by injection q with q; omega
  have n3 : ∀ j, (⟨w.heap.size + 1, m, none⟩ : Addr) ≠ ⟨w.heap.size, j, none⟩ := fun j q => by injection q with q; omega
  have n4 : (⟨w.heap.size, 1, none⟩ : Addr) ≠ ⟨w.heap.size, 0, none⟩ := fun q => by injection q with _ q; omega
  have n5 : (⟨w.heap.size, 0, none⟩ : Addr) ≠ ⟨w.heap.size, 1, none⟩ := fun q => by injection q with _ q; omega
  have old : ∀ j, ((W1.setCell ⟨w.heap.size, 0, none⟩ (.int .u64 h')).setCell ⟨w.heap.size, 1, none⟩ (.int .u64 l')).cell? ⟨w.heap.size + 1, j, none⟩ = W.cell? ⟨w.heap.size + 1, j, none⟩ := fun j => by
    rw [World.cell?_setCell_other _ _ _ _ (n2 j), World.cell?_setCell_other _ _ _ _ (n1 j)]; exact hb.cell (p := ⟨w.heap.size + 1, j, none⟩) inv.size
  obtain ⟨u, hu⟩ := Option.isSome_iff_exists.1 (inv.there m (by omega))
  have hs := old m
  rw [hu] at hs
  refine ⟨?_, ⟨?_, ?_, ?_, ?_, ?_⟩, ?_, ?_, ?_, ?_, ?_⟩
  · rw [e5] at hq
    rw [Int.pow_succ, ← Int.ediv_ediv_of_nonneg (Int.le_of_lt (Int.pow_pos (by omega)))]
    exact hq
  · simpa [World.setCell] using p1
  · rw [World.cell?_setCell_other _ _ _ _ (n3 0), World.cell?_setCell_other _ _ _ _ n4]; exact World.cell?_setCell_same _ _ _ p2
  · rw [World.cell?_setCell_other _ _ _ _ (n3 1)]; exact World.cell?_setCell_same _ _ _ ((World.cell?_setCell_other _ _ _ _ n5).trans p3)
  · rw [World.frozen?_setCell, World.frozen?_setCell, World.frozen?_setCell]; exact p4
  · rw [World.frozen?_setCell, World.frozen?_setCell, World.frozen?_setCell]; exact p5
  · simpa [World.setCell] using hsz1
  · intro j hj
    by_cases hjm : j = m
    · subst hjm
      rw [World.cell?_setCell_same _ _ _ hs]; rfl
    · rw [World.cell?_setCell_other _ _ _ _ (fun q => by injection q with _ q; omega), old j]
      exact inv.there j hj
  · intro j
    rw [World.frozen?_setCell, World.frozen?_setCell, World.frozen?_setCell, hb.frozen (p := ⟨w.heap.size + 1, j, none⟩) inv.size]
    exact inv.free j
  · intro i hi
    cases i with
    | zero =>
      rw [show 39 - (k + 1) + 0 = m from by omega, World.cell?_setCell_same _ _ _ hs]
      rw [hd, e5]; rfl
    | succ j =>
      rw [World.cell?_setCell_other _ _ _ _ (fun q => by injection q with _ q; omega), old, show 39 - (k + 1) + (j + 1) = 39 - k + j from by omega]
      exact inv.digs j (by omega)
  · exact ((((inv.below.trans (hb.mono inv.below.size)).setCell (Nat.le_refl _) _).setCell (Nat.le_refl _) _).setCell (by simp) _)

/-- What Print answers. -/
def PrRet (v : Int) (w : World) (e : Ending) (w' : World) : Prop :=
  ∃ k : Nat, 1 ≤ k ∧ k ≤ 39 ∧ v / 10 ^ k = 0 ∧ (k = 1 ∨ v / 10 ^ (k - 1) ≠ 0) ∧ e = .returned (.string (strOfNums (decK k v))) ∧ Below w.heap.size w w'

theorem no39 (ah al : Int) (a1 : 0 ≤ ah) (a2 : ah < 18446744073709551616) (a3 : 0 ≤ al) (a4 : al < 18446744073709551616) : (ah * 18446744073709551616 + al) / 10 ^ 39 = 0 := by
  rw [show (10 : Int) ^ 39 = 1000000000000000000000000000000000000000 from by decide +kernel]
  omega

def zero39 : Array Value := #[.int .u8 0, .int .u8 0, .int .u8 0, .int .u8 0, .int .u8 0, .int .u8 0, .int .u8 0, .int .u8 0, .int .u8 0, .int .u8 0, .int .u8 0, .int .u8 0, .int .u8 0, .int .u8 0, .int .u8 0, .int .u8 0, .int .u8 0, .int .u8 0, .int .u8 0, .int .u8 0, .int .u8 0, .int .u8 0, .int .u8 0, .int .u8 0, .int .u8 0, .int .u8 0, .int .u8 0, .int .u8 0, .int .u8 0, .int .u8 0, .int .u8 0, .int .u8 0, .int .u8 0, .int .u8 0, .int .u8 0, .int .u8 0, .int .u8 0, .int .u8 0, .int .u8 0]
end Go.Proofs.Ytolicfackceomaa.Wd
