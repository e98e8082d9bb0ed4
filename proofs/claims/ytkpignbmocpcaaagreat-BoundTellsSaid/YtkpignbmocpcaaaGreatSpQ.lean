/-
  A region whose own operations read, and whose callees make memory, walked once in the text's order, whatever its order is.
-/
import Derived.Test.YtkpignbmocpcaaaGreatSpA
import Derived.Deep.QuietTactic
namespace Go.Proofs.YtkpignbmocpcaaaGreat
open Go.RowKit
set_option linter.unusedVariables false

/-- The walk of a quiet region, shut: left open, the type of what is still to be shown is laid out through all operations that do not run. -/
structure WQ (P : Program) (ops : Array Oper) (C : World → Prop) (Q : Act → Prop) (l : List Oper) (a : Act) : Prop where
  out : wpQuiet P ops C Q l a
theorem wp_region_class {P : Program} {id : Nat} {Q : Exit → Act → World → Prop} {a : Act} {w : World} {l : List Oper} (C : World → Prop) (hm : P.follows .mixedOrders = true) (hB : Region.lexB .any l.toArray = true) (hC : C w.drew)
    (h : WQ P l.toArray C (fun a' => ∀ w', C w' → Q .normal a' w') l a) : (Code.region id l.toArray true).wp P Q a w :=
  wp_region_quiet (C := C) hm hB hC (by simpa using h.out)
section
variable {P : Program} {ops : Array Oper} {C : World → Prop} {Q : Act → Prop} {a : Act} {o : Oper} {rest : List Oper}
theorem WQ.yes (v : Value) (hw : Region.wanted o (yielded ops a.tmps) = true) (h1 : ∀ w, C w → o.quietAt P a C w v) (h2 : WQ P ops C Q rest (a.put o.dst v)) : WQ P ops C Q (o :: rest) a :=
  ⟨wpQuiet_step fun K hK => by rw [if_pos hw]; exact ⟨v, h1, hK _ h2.out⟩⟩
theorem WQ.no (hw : Region.wanted o (yielded ops a.tmps) = false) (h2 : WQ P ops C Q rest (a.put o.dst undef)) : WQ P ops C Q (o :: rest) a :=
  ⟨wpQuiet_step fun K hK => by rw [if_neg (by rw [hw]; simp)]; exact hK _ h2.out⟩
theorem WQ.nil (h : Q a) : WQ P ops C Q [] a := ⟨wpQuiet_nil h⟩
end
theorem quietOf {P : Program} {f : FuncId} {args : Array Value} {W0 w : World} {v : Value} (h : Calls P f args w (fun e w' => e = .returned v ∧ Below w.heap.size w w')) (hC : Below W0.heap.size W0 w) :
    Calls P f args w (fun e w'' => e = .returned v ∧ Below W0.heap.size W0 w'') := h.mono fun _ _ ⟨a, b⟩ => ⟨a, below_then hC b⟩
theorem quietSame {P : Program} {f : FuncId} {args : Array Value} {W0 w : World} {v : Value} (h : Calls P f args w (fun e w' => e = .returned v ∧ w' = w)) (hC : Below W0.heap.size W0 w) :
    Calls P f args w (fun e w'' => e = .returned v ∧ Below W0.heap.size W0 w'') := h.mono fun _ _ ⟨a, b⟩ => ⟨a, by rw [b]; exact hC⟩
/-- The same for one kind of value: a bare value would not be found where the goal's own value is open. -/
theorem quietU {P : Program} {f : FuncId} {args : Array Value} {W0 w : World} {n : Int} (h : Calls P f args w (fun e w' => e = .returned (.int .u64 n) ∧ Below w.heap.size w w')) (hC : Below W0.heap.size W0 w) :
    Calls P f args w (fun e w'' => e = .returned (.int .u64 n) ∧ Below W0.heap.size W0 w'') := quietOf h hC
theorem quietUS {P : Program} {f : FuncId} {args : Array Value} {W0 w : World} {n : Int} (h : Calls P f args w (fun e w' => e = .returned (.int .u64 n) ∧ w' = w)) (hC : Below W0.heap.size W0 w) :
    Calls P f args w (fun e w'' => e = .returned (.int .u64 n) ∧ Below W0.heap.size W0 w'') := quietSame h hC
theorem quietA {P : Program} {f : FuncId} {args : Array Value} {W0 w : World} {a b : Int} (h : Calls P f args w (fun e w' => e = .returned (.agg #[.int .u64 a, .int .u64 b]) ∧ Below w.heap.size w w')) (hC : Below W0.heap.size W0 w) :
    Calls P f args w (fun e w'' => e = .returned (.agg #[.int .u64 a, .int .u64 b]) ∧ Below W0.heap.size W0 w'') := quietOf h hC
theorem quietA4 {P : Program} {f : FuncId} {args : Array Value} {W0 w : World} {a b c d : Int} (h : Calls P f args w (fun e w' => e = .returned (.agg #[.int .u64 a, .int .u64 b, .int .u64 c, .int .u64 d]) ∧ Below w.heap.size w w')) (hC : Below W0.heap.size W0 w) :
    Calls P f args w (fun e w'' => e = .returned (.agg #[.int .u64 a, .int .u64 b, .int .u64 c, .int .u64 d]) ∧ Below W0.heap.size W0 w'') := quietOf h hC
theorem quietB {P : Program} {f : FuncId} {args : Array Value} {W0 w : World} {b : Bool} (h : Calls P f args w (fun e w' => e = .returned (.bool b) ∧ Below w.heap.size w w')) (hC : Below W0.heap.size W0 w) :
    Calls P f args w (fun e w'' => e = .returned (.bool b) ∧ Below W0.heap.size W0 w'') := quietOf h hC
end Go.Proofs.YtkpignbmocpcaaaGreat
