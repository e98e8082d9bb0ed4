/-
  For layer 11 (and what else holds no lists): what a callee leaves alone, quiet regions, blocks of four and of two words of 32 bits, arrays that are compared, what the calls answer.
-/
import Derived.Test.YtdmoedjjbhkdmaaPhM
import Derived.Test.YtdmoedjjbhkdmaaPhB0
import Derived.WalkKit
import Derived.ProofKit
import Derived.OpenShut
import Derived.Handy
import Derived.Lib.Hide
import Derived.Deep.QuietTactic
import Derived.BigQuiet
import Derived.Laws.BitsAllLaws
import Derived.Deep.LoopGhost
import Derived.Deep.RegionWith
import Derived.Deep.RegionHeld3
import Derived.Deep.DeepCutAuto
import Derived.WalkMore
namespace Go.Proofs.Ytdmoedjjbhkdmaa
open Go.RowKit
set_option linter.unusedVariables false
set_option maxRecDepth 100000

theorem quiet4 {P : Program} {f : FuncId} {args : Array Value} {W0 w : World} {a b c d : Int} (h : Calls P f args w (fun e w' => e = .returned (.agg #[.int .u32 a, .int .u32 b, .int .u32 c, .int .u32 d]) ∧ Below w.heap.size w w')) (hC : Below W0.heap.size W0 w) :
    Calls P f args w (fun e w'' => e = .returned (.agg #[.int .u32 a, .int .u32 b, .int .u32 c, .int .u32 d]) ∧ Below W0.heap.size W0 w'') := quietOf h hC
theorem quiet2 {P : Program} {f : FuncId} {args : Array Value} {W0 w : World} {a b : Int} (h : Calls P f args w (fun e w' => e = .returned (.agg #[.int .u32 a, .int .u32 b]) ∧ Below w.heap.size w w')) (hC : Below W0.heap.size W0 w) :
    Calls P f args w (fun e w'' => e = .returned (.agg #[.int .u32 a, .int .u32 b]) ∧ Below W0.heap.size W0 w'') := quietOf h hC
/-- Blocks of four, and of two, words of 32 bits in memory. -/
def B4 (t : TypeId) (w : World) (b : Nat) (p q r s : Int) : Prop := w.heap[b]? = some (.cells #[.int .u32 p, .int .u32 q, .int .u32 r, .int .u32 s] t (0, 0))
def B2 (t : TypeId) (w : World) (b : Nat) (p q : Int) : Prop := w.heap[b]? = some (.cells #[.int .u32 p, .int .u32 q] t (0, 0))
section
variable {t : TypeId} {w w' : World} {b x : Nat} {p q r s p' q' r' s' : Int}
theorem B4.lt (h : B4 t w b p q r s) : b < w.heap.size := (Array.getElem?_eq_some_iff.1 h).1
theorem B4.below (h : B4 t w b p q r s) (hb : Below w.heap.size w w') : B4 t w' b p q r s := (hb.block b h.lt).trans h
theorem B4.new (t : TypeId) (w : World) (p q r s : Int) : B4 t (w.alloc (.cells #[.int .u32 p, .int .u32 q, .int .u32 r, .int .u32 s] t)) w.heap.size p q r s := show (w.heap.push _)[w.heap.size]? = some _ by simp
theorem B4.cells (h : B4 t w b p q r s) : w.cell? ⟨b, 0, none⟩ = some (.int .u32 p) ∧ w.cell? ⟨b, 1, none⟩ = some (.int .u32 q) ∧ w.cell? ⟨b, 2, none⟩ = some (.int .u32 r) ∧ w.cell? ⟨b, 3, none⟩ = some (.int .u32 s) := by
  unfold B4 at h
  refine ⟨?_, ?_, ?_, ?_⟩ <;> simp [World.cell?, h]
theorem B4.free (h : B4 t w b p q r s) : w.frozen? ⟨b, 0, none⟩ = false ∧ w.frozen? ⟨b, 1, none⟩ = false ∧ w.frozen? ⟨b, 2, none⟩ = false ∧ w.frozen? ⟨b, 3, none⟩ = false := by
  unfold B4 at h
  refine ⟨?_, ?_, ?_, ?_⟩ <;> simp [World.frozen?, h]
theorem B4.far (h : B4 t w b p q r s) {a : Addr} (hne : b ≠ a.block) (u : Value) : B4 t (w.setCell a u) b p q r s := (Below.heap_setCell w a u b hne).trans h
theorem B4.far4 (h : B4 t w b p q r s) (hne : b ≠ x) (u1 u2 u3 u4 : Value) : B4 t ((((w.setCell ⟨x, 0, none⟩ u1).setCell ⟨x, 1, none⟩ u2).setCell ⟨x, 2, none⟩ u3).setCell ⟨x, 3, none⟩ u4) b p q r s := (((h.far hne _).far hne _).far hne _).far hne _
theorem B4.far2 (h : B4 t w b p q r s) (hne : b ≠ x) (u1 u2 : Value) : B4 t ((w.setCell ⟨x, 0, none⟩ u1).setCell ⟨x, 1, none⟩ u2) b p q r s := (h.far hne _).far hne _
theorem B4.at (h : B4 t w b p q r s) (i : Nat) (v : Value) : (w.setCell ⟨b, i, none⟩ v).heap[b]? = some (.cells ((#[.int .u32 p, .int .u32 q, .int .u32 r, .int .u32 s] : Array Value).setIfInBounds i v) t (0, 0)) := by
  unfold B4 at h
  simp [World.setCell, Array.getElem?_modify, h]
theorem B4.set0 (h : B4 t w b p q r s) (x : Int) : B4 t (w.setCell ⟨b, 0, none⟩ (.int .u32 x)) b x q r s := (h.at 0 _).trans rfl
theorem B4.set1 (h : B4 t w b p q r s) (x : Int) : B4 t (w.setCell ⟨b, 1, none⟩ (.int .u32 x)) b p x r s := (h.at 1 _).trans rfl
theorem B4.set2 (h : B4 t w b p q r s) (x : Int) : B4 t (w.setCell ⟨b, 2, none⟩ (.int .u32 x)) b p q x s := (h.at 2 _).trans rfl
theorem B4.set3 (h : B4 t w b p q r s) (x : Int) : B4 t (w.setCell ⟨b, 3, none⟩ (.int .u32 x)) b p q r x := (h.at 3 _).trans rfl
theorem B4.put (h : B4 t w x p q r s) : B4 t ((((w.setCell ⟨x, 0, none⟩ (.int .u32 p')).setCell ⟨x, 1, none⟩ (.int .u32 q')).setCell ⟨x, 2, none⟩ (.int .u32 r')).setCell ⟨x, 3, none⟩ (.int .u32 s')) x p' q' r' s' := (((h.set0 p').set1 q').set2 r').set3 s'
theorem B2.lt (h : B2 t w b p q) : b < w.heap.size := (Array.getElem?_eq_some_iff.1 h).1
theorem B2.below (h : B2 t w b p q) (hb : Below w.heap.size w w') : B2 t w' b p q := (hb.block b h.lt).trans h
theorem B2.new (t : TypeId) (w : World) (p q : Int) : B2 t (w.alloc (.cells #[.int .u32 p, .int .u32 q] t)) w.heap.size p q := show (w.heap.push _)[w.heap.size]? = some _ by simp
theorem B2.cells (h : B2 t w b p q) : w.cell? ⟨b, 0, none⟩ = some (.int .u32 p) ∧ w.cell? ⟨b, 1, none⟩ = some (.int .u32 q) := by
  unfold B2 at h
  refine ⟨?_, ?_⟩ <;> simp [World.cell?, h]
theorem B2.free (h : B2 t w b p q) : w.frozen? ⟨b, 0, none⟩ = false ∧ w.frozen? ⟨b, 1, none⟩ = false := by
  unfold B2 at h
  refine ⟨?_, ?_⟩ <;> simp [World.frozen?, h]
theorem B2.far (h : B2 t w b p q) {a : Addr} (hne : b ≠ a.block) (u : Value) : B2 t (w.setCell a u) b p q := (Below.heap_setCell w a u b hne).trans h
theorem B2.far4 (h : B2 t w b p q) (hne : b ≠ x) (u1 u2 u3 u4 : Value) : B2 t ((((w.setCell ⟨x, 0, none⟩ u1).setCell ⟨x, 1, none⟩ u2).setCell ⟨x, 2, none⟩ u3).setCell ⟨x, 3, none⟩ u4) b p q := (((h.far hne _).far hne _).far hne _).far hne _
theorem B2.far2 (h : B2 t w b p q) (hne : b ≠ x) (u1 u2 : Value) : B2 t ((w.setCell ⟨x, 0, none⟩ u1).setCell ⟨x, 1, none⟩ u2) b p q := (h.far hne _).far hne _
theorem B2.at (h : B2 t w b p q) (i : Nat) (v : Value) : (w.setCell ⟨b, i, none⟩ v).heap[b]? = some (.cells ((#[.int .u32 p, .int .u32 q] : Array Value).setIfInBounds i v) t (0, 0)) := by
  unfold B2 at h
  simp [World.setCell, Array.getElem?_modify, h]
theorem B2.put (h : B2 t w x p q) : B2 t ((w.setCell ⟨x, 0, none⟩ (.int .u32 p')).setCell ⟨x, 1, none⟩ (.int .u32 q')) x p' q' := by
  have h1 : B2 t (w.setCell ⟨x, 0, none⟩ (.int .u32 p')) x p' q := (h.at 0 _).trans rfl
  exact (h1.at 1 _).trans rfl
theorem below_put4 {B : Nat} {a : World} (h : Below B a w) (hb : B ≤ x) (u1 u2 u3 u4 : Value) : Below B a ((((w.setCell ⟨x, 0, none⟩ u1).setCell ⟨x, 1, none⟩ u2).setCell ⟨x, 2, none⟩ u3).setCell ⟨x, 3, none⟩ u4) := (((h.setCell hb _).setCell hb _).setCell hb _).setCell hb _
theorem below_put2 {B : Nat} {a : World} (h : Below B a w) (hb : B ≤ x) (u1 u2 : Value) : Below B a ((w.setCell ⟨x, 0, none⟩ u1).setCell ⟨x, 1, none⟩ u2) := (h.setCell hb _).setCell hb _
end
/-- Arrays that are compared as a whole. -/
theorem eq4 (t : TypeId) (n : Nat) (ht : Try.prog.underlying t = some (.array 4 25)) (a b c d a' b' c' d' : Int) (w : World) :
    Sem.run Try.prog (Op.equalIn (n + 1 + 1) t (.agg #[.int .u32 a, .int .u32 b, .int .u32 c, .int .u32 d]) (.agg #[.int .u32 a', .int .u32 b', .int .u32 c', .int .u32 d'])) w = .ok (a == a' && (b == b' && (c == c' && d == d'))) w := by
  have u3 := Try.underlying25
  have a3 := Try.isAgg25
  have z3 := Try.sizeOf25
  have q := fun a b => run_equalIn_int w n _ .u32 .u32 a b u3
  rw [Op.equalIn]
  simp only [Sem.run_bind, run_underlying ht, Result.andThen_ok]
  simp only [Std.Legacy.Range.forIn_eq_forIn_range', Std.Legacy.Range.size, Nat.sub_zero, Nat.add_sub_cancel, Nat.div_one, List.range'_succ, List.range'_zero, List.forIn_cons, List.forIn_nil]
  go_simp
  by_cases h1 : a = a' <;> by_cases h2 : b = b' <;> by_cases h3 : c = c' <;> by_cases h4 : d = d' <;> simp [h1, h2, h3, h4]
theorem eq2 (t : TypeId) (n : Nat) (ht : Try.prog.underlying t = some (.array 2 25)) (a b a' b' : Int) (w : World) :
    Sem.run Try.prog (Op.equalIn (n + 1 + 1) t (.agg #[.int .u32 a, .int .u32 b]) (.agg #[.int .u32 a', .int .u32 b'])) w = .ok (a == a' && b == b') w := by
  have u3 := Try.underlying25
  have a3 := Try.isAgg25
  have z3 := Try.sizeOf25
  have q := fun a b => run_equalIn_int w n _ .u32 .u32 a b u3
  rw [Op.equalIn]
  simp only [Sem.run_bind, run_underlying ht, Result.andThen_ok]
  simp only [Std.Legacy.Range.forIn_eq_forIn_range', Std.Legacy.Range.size, Nat.sub_zero, Nat.add_sub_cancel, Nat.div_one, List.range'_succ, List.range'_zero, List.forIn_cons, List.forIn_nil]
  go_simp
  by_cases h1 : a = a' <;> by_cases h2 : b = b' <;> simp [h1, h2]
theorem eqB (a b c d a' b' c' d' : Int) (w : World) : Sem.run Try.prog (Op.equalIn 10000 47 (.agg #[.int .u32 a, .int .u32 b, .int .u32 c, .int .u32 d]) (.agg #[.int .u32 a', .int .u32 b', .int .u32 c', .int .u32 d'])) w = .ok (a == a' && (b == b' && (c == c' && d == d'))) w := eq4 _ 9998 Try.underlying47 a b c d a' b' c' d' w
theorem eqA (a b c d a' b' c' d' : Int) (w : World) : Sem.run Try.prog (Op.equalIn 10000 46 (.agg #[.int .u32 a, .int .u32 b, .int .u32 c, .int .u32 d]) (.agg #[.int .u32 a', .int .u32 b', .int .u32 c', .int .u32 d'])) w = .ok (a == a' && (b == b' && (c == c' && d == d'))) w := eq4 _ 9998 Try.underlying46 a b c d a' b' c' d' w
theorem eqK (a b a' b' : Int) (w : World) : Sem.run Try.prog (Op.equalIn 10000 27 (.agg #[.int .u32 a, .int .u32 b]) (.agg #[.int .u32 a', .int .u32 b'])) w = .ok (a == a' && b == b') w := eq2 _ 9998 Try.underlying27 a b a' b' w
theorem eqP (a b a' b' : Int) (w : World) : Sem.run Try.prog (Op.equalIn 10000 26 (.agg #[.int .u32 a, .int .u32 b]) (.agg #[.int .u32 a', .int .u32 b'])) w = .ok (a == a' && b == b') w := eq2 _ 9998 Try.underlying26 a b a' b' w
/-- Calls that tell a block, a key, or a block and a code. -/
abbrev T4 (f : FuncId) (args : Array Value) (p q r s : Int) : Prop := ∀ W : World, Calls Try.prog f args W (fun e w' => e = .returned (.agg #[.int .u32 p, .int .u32 q, .int .u32 r, .int .u32 s]) ∧ Below W.heap.size W w')
abbrev T2 (f : FuncId) (args : Array Value) (p q : Int) : Prop := ∀ W : World, Calls Try.prog f args W (fun e w' => e = .returned (.agg #[.int .u32 p, .int .u32 q]) ∧ Below W.heap.size W w')
abbrev T4E (f : FuncId) (args : Array Value) (p q r s k : Int) : Prop := ∀ W : World, Calls Try.prog f args W (fun e w' => e = .returned (.tuple #[.agg #[.int .u32 p, .int .u32 q, .int .u32 r, .int .u32 s], .int .i64 k]) ∧ Below W.heap.size W w')
abbrev Bk.val (x : Bk) : Value := .agg #[.int .u32 (x.a : Int), .int .u32 (x.b : Int), .int .u32 (x.c : Int), .int .u32 (x.d : Int)]
abbrev Ky.val (x : Ky) : Value := .agg #[.int .u32 (x.k : Int), .int .u32 (x.m : Int)]
/-- A call that tells this block, this key, this block and this code. -/
abbrev TB (f : FuncId) (args : Array Value) (x : Bk) : Prop := T4 f args (x.a : Int) (x.b : Int) (x.c : Int) (x.d : Int)
abbrev TK (f : FuncId) (args : Array Value) (x : Ky) : Prop := T2 f args (x.k : Int) (x.m : Int)
abbrev TE (f : FuncId) (args : Array Value) (x : Bk) (k : Int) : Prop := T4E f args (x.a : Int) (x.b : Int) (x.c : Int) (x.d : Int) k
end Go.Proofs.Ytdmoedjjbhkdmaa
