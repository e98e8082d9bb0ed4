/-
  The walk of AffineThen, from what affine's calls answer.
-/
import Derived.Test.YthnmekieanndgaaAffA
namespace Go.Proofs.Ythnmekieanndgaa
open Go.RowKit G
set_option linter.unusedVariables false
set_option maxRecDepth 100000

/-- A map's four words, named. -/
theorem mp_words (m : Mp) : ∃ p q r s : Int, m.val = .agg #[.int .u64 p, .int .u64 q, .int .u64 r, .int .u64 s] := ⟨_, _, _, _, rfl⟩
/-- Four words in memory. -/
structure F4 (w : World) (b : Nat) (p q r s : Int) : Prop where
  c0 : w.cell? ⟨b, 0, none⟩ = some (.int .u64 p)
  c1 : w.cell? ⟨b, 1, none⟩ = some (.int .u64 q)
  c2 : w.cell? ⟨b, 2, none⟩ = some (.int .u64 r)
  c3 : w.cell? ⟨b, 3, none⟩ = some (.int .u64 s)
theorem F4.below {w w' : World} {b : Nat} {p q r s : Int} (h : F4 w b p q r s) (hb : Below w.heap.size w w') : F4 w' b p q r s :=
  ⟨(hb.cell (p := ⟨b, 0, none⟩) (World.block_lt_of_cell? w _ h.c0)).trans h.c0, (hb.cell (p := ⟨b, 1, none⟩) (World.block_lt_of_cell? w _ h.c1)).trans h.c1, (hb.cell (p := ⟨b, 2, none⟩) (World.block_lt_of_cell? w _ h.c2)).trans h.c2, (hb.cell (p := ⟨b, 3, none⟩) (World.block_lt_of_cell? w _ h.c3)).trans h.c3⟩
theorem f4_of_block {w : World} {b : Nat} {p q r s : Int} {t : TypeId} (h : w.heap[b]? = some (.cells #[.int .u64 p, .int .u64 q, .int .u64 r, .int .u64 s] t (0, 0))) : F4 w b p q r s := by
  constructor <;> simp [World.cell?, h]
theorem F4.new (w : World) (p q r s : Int) (t : TypeId) : F4 (w.alloc (.cells #[.int .u64 p, .int .u64 q, .int .u64 r, .int .u64 s] t)) w.heap.size p q r s :=
  f4_of_block (t := t) (show (w.heap.push _)[w.heap.size]? = some _ by simp)
/-- A call that tells a map: its words named. -/
abbrev TM (f : FuncId) (args : Array Value) (p q r s : Int) : Prop := ∀ W : World, Calls Try.prog f args W (fun e w' => e = .returned (.agg #[.int .u64 p, .int .u64 q, .int .u64 r, .int .u64 s]) ∧ Below W.heap.size W w')
abbrev TN (f : FuncId) (args : Array Value) (h l : Int) : Prop := ∀ W : World, Calls Try.prog f args W (fun e w' => e = .returned (.agg #[.int .u64 h, .int .u64 l]) ∧ Below W.heap.size W w')
end Go.Proofs.Ythnmekieanndgaa
