/-
  What the calls Right, Len, Has, Meet, Take and Halves of package span answer, for all spans and numbers.
-/
import Derived.Test.YtkpignbmocpcaaaGreatSpQ
import Derived.LoopTactic
namespace Go.Proofs.YtkpignbmocpcaaaGreat
open Go.RowKit
set_option linter.unusedVariables false
set_option maxRecDepth 100000

/-- Contracts for all worlds. -/
abbrev TI (f : FuncId) (args : Array Value) (n : Int) : Prop := ∀ w, Calls Tryz.prog f args w (fun e w' => e = .returned (.int .i64 n) ∧ Below w.heap.size w w')
abbrev TB (f : FuncId) (args : Array Value) (b : Bool) : Prop := ∀ w, Calls Tryz.prog f args w (fun e w' => e = .returned (.bool b) ∧ Below w.heap.size w w')
abbrev TU (f : FuncId) (args : Array Value) (p q : Int) : Prop := ∀ w, Calls Tryz.prog f args w (fun e w' => e = .returned (.agg #[.int .u64 p, .int .u64 q]) ∧ Below w.heap.size w w')
abbrev TUB (f : FuncId) (args : Array Value) (p q : Int) (o : Bool) : Prop := ∀ w, Calls Tryz.prog f args w (fun e w' => e = .returned (.tuple #[.agg #[.int .u64 p, .int .u64 q], .bool o]) ∧ Below w.heap.size w w')
abbrev TS (f : FuncId) (args : Array Value) (p q r s : Int) : Prop := ∀ w, Calls Tryz.prog f args w (fun e w' => e = .returned (.agg #[.int .u64 p, .int .u64 q, .int .u64 r, .int .u64 s]) ∧ Below w.heap.size w w')
abbrev TSS (f : FuncId) (args : Array Value) (p q r s p' q' r' s' k : Int) : Prop := ∀ w, Calls Tryz.prog f args w (fun e w' => e = .returned (.tuple #[.agg #[.int .u64 p, .int .u64 q, .int .u64 r, .int .u64 s], .agg #[.int .u64 p', .int .u64 q', .int .u64 r', .int .u64 s'], .int .i64 k]) ∧ Below w.heap.size w w')
theorem notTrue : (!true) = false := rfl
set_option maxHeartbeats 1000000 in
theorem rightMain (a b c d r : Int) (C : Hid (TI 12 #[.agg #[.int .u64 a, .int .u64 b], .agg #[.int .u64 c, .int .u64 d]] r)) :
    TB 35 #[.agg #[.int .u64 a, .int .u64 b, .int .u64 c, .int .u64 d]] (decide (r ≤ 0)) := fun w => by
  go_enter Tryz.func35, Tryz.ntmps35
  go_wp2_with fail
  refine (C.out _).mono ?_
  rintro e V ⟨rfl, hb⟩
  have HB : Hid (Below w.heap.size w V) := Lib.hid (below_then (below_allocs _ _) hb)
  clear hb C
  go_wp2_with fail
  go_ret
  exact ⟨rfl, HB.out⟩
set_option maxHeartbeats 1000000 in
theorem lenYes (a b c d p q : Int) (o : Bool) (R : Hid (TB 35 #[.agg #[.int .u64 a, .int .u64 b, .int .u64 c, .int .u64 d]] true)) (D : Hid (TUB 42 #[.agg #[.int .u64 c, .int .u64 d], .agg #[.int .u64 a, .int .u64 b]] p q o)) :
    TU 28 #[.agg #[.int .u64 a, .int .u64 b, .int .u64 c, .int .u64 d]] p q := fun w => by
  have K0 := SB.new w a b c d 59
  have B0 := below_allocs w (.cells #[.int .u64 a, .int .u64 b, .int .u64 c, .int .u64 d] 59)
  have K1 := UB.new (w.alloc (.cells #[.int .u64 a, .int .u64 b, .int .u64 c, .int .u64 d] 59)) 0 0 31
  have B1 := below_allocs (w.alloc (.cells #[.int .u64 a, .int .u64 b, .int .u64 c, .int .u64 d] 59)) (.cells #[.int .u64 0, .int .u64 0] 31)
  have K := Lib.hid (And.intro ((K0).below B1) (And.intro (K1) (below_then B0 B1)))
  simp only [World.size_alloc] at K
  clear K0 B0 K1 B1
  go_enter Tryz.func28, Tryz.ntmps28
  go_wp2_with fail
  refine (R.out _).mono ?_
  rintro e V ⟨rfl, hb⟩
  have K2 := Lib.hid (And.intro (K.out.1.below hb) (And.intro (K.out.2.1.below hb) (below_then K.out.2.2 hb)))
  obtain ⟨x1, x2, x3, x4⟩ := K2.out.1.cells
  clear hb R K
  go_wp2_with fail
  refine (D.out _).mono ?_
  rintro e V2 ⟨rfl, hb⟩
  have hU := K2.out.2.1.below hb
  have hB : Below w.heap.size w V2 := below_then K2.out.2.2 hb
  have HR := Lib.hid ((UB.put (p' := p) (q' := q) hU).below (below_allocs _ (.cells #[.int .u64 p, .int .u64 q] 31)))
  have HB := Lib.hid (below_then (below_put2 hB (Nat.le_succ w.heap.size) (.int .u64 p) (.int .u64 q)) (below_allocs _ (.cells #[.int .u64 p, .int .u64 q] 31)))
  obtain ⟨f1, f2⟩ := (K2.out.2.1.below hb).free
  obtain ⟨z1, z2⟩ := (K2.out.2.1.below hb).cells
  have l1 := (K2.out.2.1.below hb).lt
  have n1 : w.heap.size + 1 ≠ V2.heap.size := Nat.ne_of_lt l1
  have n2 := n1.symm
  clear hb K2 D hU hB
  go_wp2_with fail
  generalize World.alloc (World.setCell (World.setCell V2 _ _) _ _) _ = V5 at HR HB ⊢
  obtain ⟨r1, r2⟩ := HR.out.cells
  try simp only [Exit.inBlock, Exit.then, Exit.noGoto]
  refine bodyPost_ret (by simp [results, Tryz.results28, go_sem, r1, r2]; try rfl) rfl ?_
  exact ⟨rfl, HB.out⟩
set_option maxHeartbeats 1000000 in
theorem lenNo (a b c d : Int) (R : Hid (TB 35 #[.agg #[.int .u64 a, .int .u64 b, .int .u64 c, .int .u64 d]] false)) :
    TU 28 #[.agg #[.int .u64 a, .int .u64 b, .int .u64 c, .int .u64 d]] 0 0 := fun w => by
  have K0 := SB.new w a b c d 59
  have B0 := below_allocs w (.cells #[.int .u64 a, .int .u64 b, .int .u64 c, .int .u64 d] 59)
  have K1 := UB.new (w.alloc (.cells #[.int .u64 a, .int .u64 b, .int .u64 c, .int .u64 d] 59)) 0 0 31
  have B1 := below_allocs (w.alloc (.cells #[.int .u64 a, .int .u64 b, .int .u64 c, .int .u64 d] 59)) (.cells #[.int .u64 0, .int .u64 0] 31)
  have K := Lib.hid (And.intro ((K0).below B1) (And.intro (K1) (below_then B0 B1)))
  simp only [World.size_alloc] at K
  clear K0 B0 K1 B1
  go_enter Tryz.func28, Tryz.ntmps28
  go_wp2_with fail
  refine (R.out _).mono ?_
  rintro e V ⟨rfl, hb⟩
  have K2 := Lib.hid (And.intro (K.out.1.below hb) (And.intro (K.out.2.1.below hb) (below_then K.out.2.2 hb)))
  have HR := Lib.hid (UB.put (p' := 0) (q' := 0) K2.out.2.1)
  have HB := Lib.hid (below_put2 K2.out.2.2 (Nat.le_succ w.heap.size) (.int .u64 0) (.int .u64 0))
  obtain ⟨f1, f2⟩ := K2.out.2.1.free
  obtain ⟨z1, z2⟩ := K2.out.2.1.cells
  clear hb R K K2
  go_wp2_with fail
  generalize World.setCell (World.setCell V _ _) _ _ = V5 at HR HB ⊢
  obtain ⟨r1, r2⟩ := HR.out.cells
  try simp only [Exit.inBlock, Exit.then, Exit.noGoto]
  refine bodyPost_ret (by simp [results, Tryz.results28, go_sem, r1, r2]; try rfl) rfl ?_
  exact ⟨rfl, HB.out⟩
end Go.Proofs.YtkpignbmocpcaaaGreat
