/-
  What the calls Right, Len, Has, Meet, Take and Halves of package span answer, for all spans and numbers.
-/
import Derived.Test.YtolicfackceomaaSpQ
import Derived.LoopTactic
namespace Go.Proofs.Ytolicfackceomaa
open Go.RowKit
set_option linter.unusedVariables false
set_option maxRecDepth 100000

/-- Contracts for all worlds. -/
abbrev TI (f : FuncId) (args : Array Value) (n : Int) : Prop := ∀ w, Calls Try.prog f args w (fun e w' => e = .returned (.int .i64 n) ∧ Below w.heap.size w w')
abbrev TB (f : FuncId) (args : Array Value) (b : Bool) : Prop := ∀ w, Calls Try.prog f args w (fun e w' => e = .returned (.bool b) ∧ Below w.heap.size w w')
abbrev TU (f : FuncId) (args : Array Value) (p q : Int) : Prop := ∀ w, Calls Try.prog f args w (fun e w' => e = .returned (.agg #[.int .u64 p, .int .u64 q]) ∧ Below w.heap.size w w')
abbrev TUB (f : FuncId) (args : Array Value) (p q : Int) (o : Bool) : Prop := ∀ w, Calls Try.prog f args w (fun e w' => e = .returned (.tuple #[.agg #[.int .u64 p, .int .u64 q], .bool o]) ∧ Below w.heap.size w w')
abbrev TS (f : FuncId) (args : Array Value) (p q r s : Int) : Prop := ∀ w, Calls Try.prog f args w (fun e w' => e = .returned (.agg #[.int .u64 p, .int .u64 q, .int .u64 r, .int .u64 s]) ∧ Below w.heap.size w w')
abbrev TSS (f : FuncId) (args : Array Value) (p q r s p' q' r' s' k : Int) : Prop := ∀ w, Calls Try.prog f args w (fun e w' => e = .returned (.tuple #[.agg #[.int .u64 p, .int .u64 q, .int .u64 r, .int .u64 s], .agg #[.int .u64 p', .int .u64 q', .int .u64 r', .int .u64 s'], .int .i64 k]) ∧ Below w.heap.size w w')
theorem notTrue : (!true) = false := rfl
set_option maxHeartbeats 1000000 in
theorem rightMain (a b c d r : Int) (C : Hid (TI 30 #[.agg #[.int .u64 a, .int .u64 b], .agg #[.int .u64 c, .int .u64 d]] r)) :
    TB 13 #[.agg #[.int .u64 a, .int .u64 b, .int .u64 c, .int .u64 d]] (decide (r ≤ 0)) := fun w => by
  go_enter Try.func13, Try.ntmps13
  go_wp2_with fail
  refine (C.out _).mono ?_
  rintro e V ⟨rfl, hb⟩
  have HB : Hid (Below w.heap.size w V) := Lib.hid (below_then (below_allocs _ _) hb)
  clear hb C
  go_wp2_with fail
  go_ret
  exact ⟨rfl, HB.out⟩
set_option maxHeartbeats 1000000 in
theorem hasMain (a b c d m l r1 r2 : Int) (C : Hid (TI 30 #[.agg #[.int .u64 a, .int .u64 b], .agg #[.int .u64 m, .int .u64 l]] r1)) (D : Hid (TI 30 #[.agg #[.int .u64 m, .int .u64 l], .agg #[.int .u64 c, .int .u64 d]] r2)) :
    TB 17 #[.agg #[.int .u64 a, .int .u64 b, .int .u64 c, .int .u64 d], .agg #[.int .u64 m, .int .u64 l]] (decide (r1 ≤ 0) && decide (r2 < 0)) := fun w => by
  have K0 := SB.new w a b c d 26
  have B0 := below_allocs w (.cells #[.int .u64 a, .int .u64 b, .int .u64 c, .int .u64 d] 26)
  have K1 := UB.new (w.alloc (.cells #[.int .u64 a, .int .u64 b, .int .u64 c, .int .u64 d] 26)) m l 24
  have B1 := below_allocs (w.alloc (.cells #[.int .u64 a, .int .u64 b, .int .u64 c, .int .u64 d] 26)) (.cells #[.int .u64 m, .int .u64 l] 24)
  have K := Lib.hid (And.intro ((K0).below B1) (And.intro (K1) (below_then B0 B1)))
  simp only [World.size_alloc] at K
  clear K0 B0 K1 B1
  go_enter Try.func17, Try.ntmps17
  go_wp2_with fail
  refine (C.out _).mono ?_
  rintro e V ⟨rfl, hb⟩
  have HB : Hid (Below w.heap.size w V) := Lib.hid (below_then K.out.2.2 hb)
  obtain ⟨x1, x2, x3, x4⟩ := (K.out.1.below hb).cells
  obtain ⟨y1, y2⟩ := (K.out.2.1.below hb).cells
  clear hb C K
  by_cases h1 : r1 ≤ 0
  · go_wp2_with fail
    refine (D.out _).mono ?_
    rintro e V2 ⟨rfl, hb⟩
    have HB2 : Hid (Below w.heap.size w V2) := Lib.hid (below_then HB.out hb)
    clear hb D HB
    go_wp2_with fail
    go_ret
    exact ⟨by simp <;> omega, HB2.out⟩
  · go_wp2_with fail
    go_ret
    exact ⟨by simp <;> omega, HB.out⟩
set_option maxHeartbeats 1000000 in
theorem lenYes (a b c d p q : Int) (o : Bool) (R : Hid (TB 13 #[.agg #[.int .u64 a, .int .u64 b, .int .u64 c, .int .u64 d]] true)) (D : Hid (TUB 29 #[.agg #[.int .u64 c, .int .u64 d], .agg #[.int .u64 a, .int .u64 b]] p q o)) :
    TU 15 #[.agg #[.int .u64 a, .int .u64 b, .int .u64 c, .int .u64 d]] p q := fun w => by
  have K0 := SB.new w a b c d 26
  have B0 := below_allocs w (.cells #[.int .u64 a, .int .u64 b, .int .u64 c, .int .u64 d] 26)
  have K1 := UB.new (w.alloc (.cells #[.int .u64 a, .int .u64 b, .int .u64 c, .int .u64 d] 26)) 0 0 24
  have B1 := below_allocs (w.alloc (.cells #[.int .u64 a, .int .u64 b, .int .u64 c, .int .u64 d] 26)) (.cells #[.int .u64 0, .int .u64 0] 24)
  have K := Lib.hid (And.intro ((K0).below B1) (And.intro (K1) (below_then B0 B1)))
  simp only [World.size_alloc] at K
  clear K0 B0 K1 B1
  go_enter Try.func15, Try.ntmps15
  go_wp2_with fail
  refine (R.out _).mono ?_
  rintro e V ⟨rfl, hb⟩
  have K2 := Lib.hid (And.intro (K.out.1.below hb) (And.intro (K.out.2.1.below hb) (below_then K.out.2.2 hb)))
  obtain ⟨x1, x2, x3, x4⟩ := K2.out.1.cells
  clear hb R K
  go_wp2_with fail
  refine (D.out _).mono ?_
  rintro e V2 ⟨rfl, hb⟩
  have hU := K2.out.2.1.below hb
  have hB : Below w.heap.size w V2 := below_then K2.out.2.2 hb
  have HR := Lib.hid ((UB.put (p' := p) (q' := q) hU).below (below_allocs _ (.cells #[.int .u64 p, .int .u64 q] 24)))
  have HB := Lib.hid (below_then (below_put2 hB (Nat.le_succ w.heap.size) (.int .u64 p) (.int .u64 q)) (below_allocs _ (.cells #[.int .u64 p, .int .u64 q] 24)))
  obtain ⟨f1, f2⟩ := (K2.out.2.1.below hb).free
  obtain ⟨z1, z2⟩ := (K2.out.2.1.below hb).cells
  have l1 := (K2.out.2.1.below hb).lt
  have n1 : w.heap.size + 1 ≠ V2.heap.size := Nat.ne_of_lt l1
  have n2 := n1.symm
  clear hb K2 D hU hB
  go_wp2_with fail
  generalize World.alloc (World.setCell (World.setCell V2 _ _) _ _) _ = V5 at HR HB ⊢
  obtain ⟨r1, r2⟩ := HR.out.cells
  try simp only [Exit.inBlock, Exit.then, Exit.noGoto]
  refine bodyPost_ret (by simp [results, Try.results15, go_sem, r1, r2]; try rfl) rfl ?_
  exact ⟨rfl, HB.out⟩
set_option maxHeartbeats 1000000 in
theorem lenNo (a b c d : Int) (R : Hid (TB 13 #[.agg #[.int .u64 a, .int .u64 b, .int .u64 c, .int .u64 d]] false)) :
    TU 15 #[.agg #[.int .u64 a, .int .u64 b, .int .u64 c, .int .u64 d]] 0 0 := fun w => by
  have K0 := SB.new w a b c d 26
  have B0 := below_allocs w (.cells #[.int .u64 a, .int .u64 b, .int .u64 c, .int .u64 d] 26)
  have K1 := UB.new (w.alloc (.cells #[.int .u64 a, .int .u64 b, .int .u64 c, .int .u64 d] 26)) 0 0 24
  have B1 := below_allocs (w.alloc (.cells #[.int .u64 a, .int .u64 b, .int .u64 c, .int .u64 d] 26)) (.cells #[.int .u64 0, .int .u64 0] 24)
  have K := Lib.hid (And.intro ((K0).below B1) (And.intro (K1) (below_then B0 B1)))
  simp only [World.size_alloc] at K
  clear K0 B0 K1 B1
  go_enter Try.func15, Try.ntmps15
  go_wp2_with fail
  refine (R.out _).mono ?_
  rintro e V ⟨rfl, hb⟩
  have K2 := Lib.hid (And.intro (K.out.1.below hb) (And.intro (K.out.2.1.below hb) (below_then K.out.2.2 hb)))
  have HR := Lib.hid (UB.put (p' := 0) (q' := 0) K2.out.2.1)
  have HB := Lib.hid (below_put2 K2.out.2.2 (Nat.le_succ w.heap.size) (.int .u64 0) (.int .u64 0))
  obtain ⟨f1, f2⟩ := K2.out.2.1.free
  obtain ⟨z1, z2⟩ := K2.out.2.1.cells
  clear hb R K K2
  go_wp2_with fail
  generalize World.setCell (World.setCell V _ _) _ _ = V5 at HR HB ⊢
  obtain ⟨r1, r2⟩ := HR.out.cells
  try simp only [Exit.inBlock, Exit.then, Exit.noGoto]
  refine bodyPost_ret (by simp [results, Try.results15, go_sem, r1, r2]; try rfl) rfl ?_
  exact ⟨rfl, HB.out⟩
set_option maxHeartbeats 1000000 in
theorem greaterMain (a b c d r p q : Int) (C : Hid (TI 30 #[.agg #[.int .u64 a, .int .u64 b], .agg #[.int .u64 c, .int .u64 d]] r)) (E : Hid ((r < 0 → p = c ∧ q = d) ∧ (¬ r < 0 → p = a ∧ q = b))) :
    TU 39 #[.agg #[.int .u64 a, .int .u64 b], .agg #[.int .u64 c, .int .u64 d]] p q := fun w => by
  have K0 := UB.new w a b 24
  have B0 := below_allocs w (.cells #[.int .u64 a, .int .u64 b] 24)
  have K1 := UB.new (w.alloc (.cells #[.int .u64 a, .int .u64 b] 24)) c d 24
  have B1 := below_allocs (w.alloc (.cells #[.int .u64 a, .int .u64 b] 24)) (.cells #[.int .u64 c, .int .u64 d] 24)
  have K2 := UB.new ((w.alloc (.cells #[.int .u64 a, .int .u64 b] 24)).alloc (.cells #[.int .u64 c, .int .u64 d] 24)) 0 0 24
  have B2 := below_allocs ((w.alloc (.cells #[.int .u64 a, .int .u64 b] 24)).alloc (.cells #[.int .u64 c, .int .u64 d] 24)) (.cells #[.int .u64 0, .int .u64 0] 24)
  have K := Lib.hid (And.intro (((K0).below B1).below B2) (And.intro ((K1).below B2) (And.intro (K2) (below_then (below_then B0 B1) B2))))
  simp only [World.size_alloc, Nat.add_assoc, Nat.reduceAdd] at K
  clear K0 B0 K1 B1 K2 B2
  go_enter Try.func39, Try.ntmps39
  go_wp2_with fail
  refine (C.out _).mono ?_
  rintro e V ⟨rfl, hb⟩
  have K2 := Lib.hid (And.intro (K.out.1.below hb) (And.intro (K.out.2.1.below hb) (And.intro (K.out.2.2.1.below hb) (below_then K.out.2.2.2 hb))))
  obtain ⟨x1, x2⟩ := K2.out.1.cells
  obtain ⟨y1, y2⟩ := K2.out.2.1.cells
  obtain ⟨z1, z2⟩ := K2.out.2.2.1.cells
  obtain ⟨f1, f2⟩ := K2.out.2.2.1.free
  clear hb C K
  have hle : w.heap.size ≤ w.heap.size + 2 := Nat.le_add_right _ _
  by_cases h : r < 0
  · obtain ⟨rfl, rfl⟩ := E.out.1 (by omega)
    have HR := Lib.hid (UB.put (p' := p) (q' := q) K2.out.2.2.1)
    have HB := Lib.hid (below_put2 K2.out.2.2.2 hle (.int .u64 p) (.int .u64 q))
    clear E K2
    go_wp2_with fail
    generalize World.setCell (World.setCell V _ _) _ _ = V5 at HR HB ⊢
    obtain ⟨r1, r2⟩ := HR.out.cells
    try simp only [Exit.inBlock, Exit.then, Exit.noGoto]
    refine bodyPost_ret (by simp [results, Try.results39, go_sem, r1, r2]; try rfl) rfl ?_
    exact ⟨rfl, HB.out⟩
  · obtain ⟨rfl, rfl⟩ := E.out.2 (by omega)
    have HR := Lib.hid (UB.put (p' := p) (q' := q) K2.out.2.2.1)
    have HB := Lib.hid (below_put2 K2.out.2.2.2 hle (.int .u64 p) (.int .u64 q))
    clear E K2
    go_wp2_with fail
    generalize World.setCell (World.setCell V _ _) _ _ = V5 at HR HB ⊢
    obtain ⟨r1, r2⟩ := HR.out.cells
    try simp only [Exit.inBlock, Exit.then, Exit.noGoto]
    refine bodyPost_ret (by simp [results, Try.results39, go_sem, r1, r2]; try rfl) rfl ?_
    exact ⟨rfl, HB.out⟩
set_option maxHeartbeats 1000000 in
theorem meetMain (a b c d e f g h p q : Int) (b1 b2 : Bool) (G : Hid (TU 39 #[.agg #[.int .u64 a, .int .u64 b], .agg #[.int .u64 e, .int .u64 f]] p q))
    (C : Hid (TB 17 #[.agg #[.int .u64 a, .int .u64 b, .int .u64 c, .int .u64 d], .agg #[.int .u64 p, .int .u64 q]] b1)) (D : Hid (TB 17 #[.agg #[.int .u64 e, .int .u64 f, .int .u64 g, .int .u64 h], .agg #[.int .u64 p, .int .u64 q]] b2)) :
    TB 19 #[.agg #[.int .u64 a, .int .u64 b, .int .u64 c, .int .u64 d], .agg #[.int .u64 e, .int .u64 f, .int .u64 g, .int .u64 h]] (b1 && b2) := fun w => by
  have K0 := SB.new w a b c d 26
  have B0 := below_allocs w (.cells #[.int .u64 a, .int .u64 b, .int .u64 c, .int .u64 d] 26)
  have K1 := SB.new (w.alloc (.cells #[.int .u64 a, .int .u64 b, .int .u64 c, .int .u64 d] 26)) e f g h 26
  have B1 := below_allocs (w.alloc (.cells #[.int .u64 a, .int .u64 b, .int .u64 c, .int .u64 d] 26)) (.cells #[.int .u64 e, .int .u64 f, .int .u64 g, .int .u64 h] 26)
  have K := Lib.hid (And.intro ((K0).below B1) (And.intro (K1) (below_then B0 B1)))
  simp only [World.size_alloc] at K
  clear K0 B0 K1 B1
  go_enter Try.func19, Try.ntmps19
  go_wp2_with fail
  refine (G.out _).mono ?_
  rintro er V ⟨rfl, hb⟩
  have L := below_allocs V (.cells #[.int .u64 p, .int .u64 q] 24)
  have K2 := Lib.hid (And.intro ((K.out.1.below hb).below L) (And.intro ((K.out.2.1.below hb).below L) (And.intro (UB.new V p q 24) (below_then (below_then K.out.2.2 hb) L))))
  obtain ⟨x1, x2, x3, x4⟩ := (K.out.1.below hb).cells
  have l1 : w.heap.size < V.heap.size := (K.out.1.below hb).lt
  have l2 : w.heap.size + 1 < V.heap.size := (K.out.2.1.below hb).lt
  clear hb G K L
  go_wp2_with fail
  refine (C.out _).mono ?_
  rintro er V2 ⟨rfl, hb⟩
  have K3 := Lib.hid (And.intro (K2.out.1.below hb) (And.intro (K2.out.2.1.below hb) (And.intro (K2.out.2.2.1.below hb) (below_then K2.out.2.2.2 hb))))
  obtain ⟨y1, y2, y3, y4⟩ := K3.out.2.1.cells
  obtain ⟨z1, z2⟩ := K3.out.2.2.1.cells
  clear hb C K2 x1 x2 x3 x4
  cases b1
  · go_wp2_with fail
    go_ret
    exact ⟨rfl, K3.out.2.2.2⟩
  · go_wp2_with fail
    refine (D.out _).mono ?_
    rintro er V3 ⟨rfl, hb⟩
    have HB := Lib.hid (below_then K3.out.2.2.2 hb)
    clear hb D K3
    go_wp2_with fail
    go_ret
    exact ⟨by simp, HB.out⟩
end Go.Proofs.Ytolicfackceomaa
