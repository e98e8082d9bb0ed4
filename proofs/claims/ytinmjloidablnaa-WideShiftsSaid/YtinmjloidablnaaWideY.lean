/-
  A region that draws its order, and whose operations read, and whose callees make memory but turn nothing of what was there, is walked once, in the order of the text: the library's theorem on quiet regions at the class of worlds in which nothing of what was there has turned.
-/
import Derived.Test.YtinmjloidablnaaWideN
import Derived.Deep.QuietTactic
namespace Go.Proofs.Ytinmjloidablnaa
open Go.RowKit
set_option linter.unusedVariables false

/-- The walk of a quiet region, shut: left open, the type of what is still to be shown is laid out through all operations that do not run. -/
structure WQ (P : Program) (ops : Array Oper) (C : World → Prop) (Q : Act → Prop) (l : List Oper) (a : Act) : Prop where
  out : wpQuiet P ops C Q l a
theorem wp_region_class {P : Program} {id : Nat} {Q : Exit → Act → World → Prop} {a : Act} {w : World} {l : List Oper} (C : World → Prop) (hm : P.follows .mixedOrders = true) (hB : Region.lexB .any l.toArray = true) (hC : C w.drew)
    (h : WQ P l.toArray C (fun a' => ∀ w', C w' → Q .normal a' w') l a) : (Code.region id l.toArray true).wp P Q a w :=
  wp_region_quiet (C := C) hm hB hC (by simpa using h.out)
section
variable {P : Program} {ops : Array Oper} {C : World → Prop} {Q : Act → Prop} {a : Act} {o : Oper} {rest : List Oper}
theorem WQ.yes (v : Value) (hw : Region.wanted o (yielded ops a.tmps) = true) (h1 : ∀ w, C w → o.quietAt P a C w v) (h2 : WQ P ops C Q rest (a.put o.dst v)) : WQ P ops C Q (o :: rest) a :=
  ⟨wpQuiet_step fun K hK => by rw [if_pos hw]; exact ⟨v, h1, hK _ h2.out⟩⟩
theorem WQ.no (hw : Region.wanted o (yielded ops a.tmps) = false) (h2 : WQ P ops C Q rest (a.put o.dst undef)) : WQ P ops C Q (o :: rest) a :=
  ⟨wpQuiet_step fun K hK => by rw [if_neg (by rw [hw]; simp)]; exact hK _ h2.out⟩
theorem WQ.nil (h : Q a) : WQ P ops C Q [] a := ⟨wpQuiet_nil h⟩
end
theorem quietN1 {P : Program} {f : FuncId} {args : Array Value} {W0 w : World} {r : Int} (h : Calls P f args w (N1 r w)) (hC : Below W0.heap.size W0 w) :
    Calls P f args w (fun e w'' => e = .returned (.agg #[.int .u64 (hi r), .int .u64 (lo r)]) ∧ Below W0.heap.size W0 w'') := h.mono fun _ _ ⟨a, b⟩ => ⟨a, below_then hC b⟩
theorem quietNI {P : Program} {f : FuncId} {args : Array Value} {W0 w : World} {r : Int} (h : Calls P f args w (NI r w)) (hC : Below W0.heap.size W0 w) :
    Calls P f args w (fun e w'' => e = .returned (.int .i64 r) ∧ Below W0.heap.size W0 w'') := h.mono fun _ _ ⟨a, b⟩ => ⟨a, below_then hC b⟩
end Go.Proofs.Ytinmjloidablnaa
