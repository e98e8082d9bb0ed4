/-
  What the calls of package bound answer: as the statements' walks ask it.
-/
import Derived.Test.YtkpignbmocpcaaaGreatGnM
import Derived.Test.YtkpignbmocpcaaaGreatBdM
namespace Go.Proofs.YtkpignbmocpcaaaGreat
open Go.RowKit
set_option linter.unusedVariables false
set_option maxRecDepth 100000

abbrev N64 : Nat := 18446744073709551616
def acV (x b : Nat) : Nat := if takenB N64 x b = true then tellB N64 x b else 0
def rgL (v b : Nat) : Nat := if b = 0 ∨ b ≤ v then 0 else lowB N64 v b
def rgH (v b : Nat) : Nat := if b = 0 ∨ b ≤ v then 0 else highB N64 v b
def rgE (v b : Nat) : Int := if b = 0 then 8 else if b ≤ v then 1 else 0
/-- What the calls answer. -/
structure BX : Prop where
  acc : ∀ x b : Nat, x < N64 → b < N64 → ∀ w : World, Calls Tryz.prog 6 #[.int .u64 x, .int .u64 b] w (fun e w' => e = .returned (.tuple #[.int .u64 ((acV x b : Nat) : Int), .bool (takenB N64 x b)]) ∧ Below w.heap.size w w')
  rng : ∀ v b : Nat, v < N64 → b < N64 → ∀ w : World, Calls Tryz.prog 8 #[.int .u64 v, .int .u64 b] w (fun e w' => e = .returned (.tuple #[.int .u64 ((rgL v b : Nat) : Int), .int .u64 ((rgH v b : Nat) : Int), .int .i64 (rgE v b)]) ∧ Below w.heap.size w w')
  nil : ∀ (b : Nat) (w : World), b < N64 → Calls Tryz.prog 14 #[.pointer none, .int .u64 b] w (fun e w' => e = .returned (.tuple #[.int .u64 0, .int .i64 1]) ∧ Below w.heap.size w w')
  zero : ∀ (d : Nat) (w : World), Calls Tryz.prog 14 #[.pointer (some ⟨d, 0, none⟩), .int .u64 0] w (fun e w' => e = .returned (.tuple #[.int .u64 0, .int .i64 8]) ∧ Below w.heap.size w w')
  take : ∀ (d c n f s t b : Nat) (w : World), Sm w d c n f s t → f < t → f + 8 ≤ 9223372036854775808 → t ≤ 9223372036854775808 → 0 < b → b < N64 → takenB N64 (mixN (stepN s)) b = true →
    Calls Tryz.prog 14 #[.pointer (some ⟨d, 0, none⟩), .int .u64 b] w (fun e w' => e = .returned (.tuple #[.int .u64 ((tellB N64 (mixN (stepN s)) b : Nat) : Int), .int .i64 0]) ∧ Sm w' d c n (f + 1) (stepN s) t ∧ Only c w w')
  five : ∀ (d c n f s : Nat) (w : World), Sm w d c n f s (f + 1) → f + 8 ≤ 9223372036854775808 → takenB N64 (mixN (stepN s)) 5 = true →
    Calls Tryz.prog 15 #[.pointer (some ⟨d, 0, none⟩), .int .i64 5] w (fun e w' => e = .returned (.tuple #[.slice none 0 0, .int .i64 7]) ∧ Sz w' d c (f + 1) (f + 1) ∧ Only c w w')
  long : ∀ (d : Nat) (w : World), Calls Tryz.prog 15 #[.pointer (some ⟨d, 0, none⟩), .int .i64 257] w (fun e w' => e = .returned (.tuple #[.slice none 0 0, .int .i64 12]) ∧ Below w.heap.size w w')
  one : ∀ (d : Nat) (w : World), Calls Tryz.prog 15 #[.pointer (some ⟨d, 0, none⟩), .int .i64 1] w (fun e w' => ∃ (g cap : Nat), e = .returned (.tuple #[.slice (some ⟨g, 0, none⟩) 1 cap, .int .i64 0]) ∧ w'.cell? ⟨g, 0, none⟩ = some (.int .i64 0) ∧ Below w.heap.size w w')
end Go.Proofs.YtkpignbmocpcaaaGreat
