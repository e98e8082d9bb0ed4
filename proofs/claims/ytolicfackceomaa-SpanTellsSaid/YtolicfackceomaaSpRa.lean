/-
  What the calls Right, Len, Has, Meet, Take and Halves of the reference of layer 15 answer, for all spans and numbers.
-/
import Derived.Test.YtolicfackceomaaSpB
namespace Go.Proofs.Ytolicfackceomaa
open Go.RowKit
set_option linter.unusedVariables false
set_option maxRecDepth 100000

set_option maxHeartbeats 1000000 in
theorem rightMainR (a b c d r : Int) (C : Hid (TI 35 #[.agg #[.int .u64 a, .int .u64 b], .agg #[.int .u64 c, .int .u64 d]] r)) :
    TB 14 #[.agg #[.int .u64 a, .int .u64 b, .int .u64 c, .int .u64 d]] (decide (r ≤ 0)) := fun w => by
  go_enter Try.func14, Try.ntmps14
  go_wp2_with fail
  refine (C.out _).mono ?_
  rintro e V ⟨rfl, hb⟩
  have HB : Hid (Below w.heap.size w V) := Lib.hid (below_then (below_allocs _ _) hb)
  clear hb C
  go_wp2_with fail
  go_ret
  exact ⟨rfl, HB.out⟩
set_option maxHeartbeats 1000000 in
theorem hasMainR (a b c d m l r1 r2 : Int) (C : Hid (TI 35 #[.agg #[.int .u64 m, .int .u64 l], .agg #[.int .u64 a, .int .u64 b]] r1)) (D : Hid (TI 35 #[.agg #[.int .u64 m, .int .u64 l], .agg #[.int .u64 c, .int .u64 d]] r2)) :
    TB 18 #[.agg #[.int .u64 a, .int .u64 b, .int .u64 c, .int .u64 d], .agg #[.int .u64 m, .int .u64 l]] (decide (0 ≤ r1) && decide (r2 < 0)) := fun w => by
  have K0 := SB.new w a b c d 34
  have B0 := below_allocs w (.cells #[.int .u64 a, .int .u64 b, .int .u64 c, .int .u64 d] 34)
  have K1 := UB.new (w.alloc (.cells #[.int .u64 a, .int .u64 b, .int .u64 c, .int .u64 d] 34)) m l 32
  have B1 := below_allocs (w.alloc (.cells #[.int .u64 a, .int .u64 b, .int .u64 c, .int .u64 d] 34)) (.cells #[.int .u64 m, .int .u64 l] 32)
  have K := Lib.hid (And.intro ((K0).below B1) (And.intro (K1) (below_then B0 B1)))
  simp only [World.size_alloc] at K
  clear K0 B0 K1 B1
  go_enter Try.func18, Try.ntmps18
  go_wp2_with fail
  refine (C.out _).mono ?_
  rintro e V ⟨rfl, hb⟩
  have HB : Hid (Below w.heap.size w V) := Lib.hid (below_then K.out.2.2 hb)
  obtain ⟨x1, x2, x3, x4⟩ := (K.out.1.below hb).cells
  obtain ⟨y1, y2⟩ := (K.out.2.1.below hb).cells
  clear hb C K
  by_cases h1 : 0 ≤ r1
  · go_wp2_with fail
    refine (D.out _).mono ?_
    rintro e V2 ⟨rfl, hb⟩
    have HB2 : Hid (Below w.heap.size w V2) := Lib.hid (below_then HB.out hb)
    clear hb D HB
    go_wp2_with fail
    go_ret
    exact ⟨by simp <;> omega, HB2.out⟩
  · go_wp2_with fail
    go_ret
    exact ⟨by simp <;> omega, HB.out⟩
set_option maxHeartbeats 1000000 in
theorem lenYesR (a b c d p q : Int) (o : Bool) (R : Hid (TB 14 #[.agg #[.int .u64 a, .int .u64 b, .int .u64 c, .int .u64 d]] true)) (D : Hid (TUB 38 #[.agg #[.int .u64 c, .int .u64 d], .agg #[.int .u64 a, .int .u64 b]] p q o)) :
    TU 16 #[.agg #[.int .u64 a, .int .u64 b, .int .u64 c, .int .u64 d]] p q := fun w => by
  have K0 := SB.new w a b c d 34
  have B0 := below_allocs w (.cells #[.int .u64 a, .int .u64 b, .int .u64 c, .int .u64 d] 34)
  have K1 := UB.new (w.alloc (.cells #[.int .u64 a, .int .u64 b, .int .u64 c, .int .u64 d] 34)) 0 0 32
  have B1 := below_allocs (w.alloc (.cells #[.int .u64 a, .int .u64 b, .int .u64 c, .int .u64 d] 34)) (.cells #[.int .u64 0, .int .u64 0] 32)
  have K := Lib.hid (And.intro ((K0).below B1) (And.intro (K1) (below_then B0 B1)))
  simp only [World.size_alloc] at K
  clear K0 B0 K1 B1
  go_enter Try.func16, Try.ntmps16
  go_wp2_with fail
  refine (R.out _).mono ?_
  rintro e V ⟨rfl, hb⟩
  have K2 := Lib.hid (And.intro (K.out.1.below hb) (And.intro (K.out.2.1.below hb) (below_then K.out.2.2 hb)))
  obtain ⟨x1, x2, x3, x4⟩ := K2.out.1.cells
  clear hb R K
  go_wp2_with fail
  refine (D.out _).mono ?_
  rintro e V2 ⟨rfl, hb⟩
  have hU := K2.out.2.1.below hb
  have hB : Below w.heap.size w V2 := below_then K2.out.2.2 hb
  have HR := Lib.hid ((UB.put (p' := p) (q' := q) hU).below (below_allocs _ (.cells #[.int .u64 p, .int .u64 q] 32)))
  have HB := Lib.hid (below_then (below_put2 hB (Nat.le_succ w.heap.size) (.int .u64 p) (.int .u64 q)) (below_allocs _ (.cells #[.int .u64 p, .int .u64 q] 32)))
  obtain ⟨f1, f2⟩ := (K2.out.2.1.below hb).free
  obtain ⟨z1, z2⟩ := (K2.out.2.1.below hb).cells
  have l1 := (K2.out.2.1.below hb).lt
  have n1 : w.heap.size + 1 ≠ V2.heap.size := Nat.ne_of_lt l1
  have n2 := n1.symm
  clear hb K2 D hU hB
  go_wp2_with fail
  generalize World.alloc (World.setCell (World.setCell V2 _ _) _ _) _ = V5 at HR HB ⊢
  obtain ⟨r1, r2⟩ := HR.out.cells
  try simp only [Exit.inBlock, Exit.then, Exit.noGoto]
  refine bodyPost_ret (by simp [results, Try.results16, go_sem, r1, r2]; try rfl) rfl ?_
  exact ⟨rfl, HB.out⟩
set_option maxHeartbeats 1000000 in
theorem lenNoR (a b c d : Int) (R : Hid (TB 14 #[.agg #[.int .u64 a, .int .u64 b, .int .u64 c, .int .u64 d]] false)) :
    TU 16 #[.agg #[.int .u64 a, .int .u64 b, .int .u64 c, .int .u64 d]] 0 0 := fun w => by
  have K0 := SB.new w a b c d 34
  have B0 := below_allocs w (.cells #[.int .u64 a, .int .u64 b, .int .u64 c, .int .u64 d] 34)
  have K1 := UB.new (w.alloc (.cells #[.int .u64 a, .int .u64 b, .int .u64 c, .int .u64 d] 34)) 0 0 32
  have B1 := below_allocs (w.alloc (.cells #[.int .u64 a, .int .u64 b, .int .u64 c, .int .u64 d] 34)) (.cells #[.int .u64 0, .int .u64 0] 32)
  have K := Lib.hid (And.intro ((K0).below B1) (And.intro (K1) (below_then B0 B1)))
  simp only [World.size_alloc] at K
  clear K0 B0 K1 B1
  go_enter Try.func16, Try.ntmps16
  go_wp2_with fail
  refine (R.out _).mono ?_
  rintro e V ⟨rfl, hb⟩
  have K2 := Lib.hid (And.intro (K.out.1.below hb) (And.intro (K.out.2.1.below hb) (below_then K.out.2.2 hb)))
  have HR := Lib.hid (UB.put (p' := 0) (q' := 0) K2.out.2.1)
  have HB := Lib.hid (below_put2 K2.out.2.2 (Nat.le_succ w.heap.size) (.int .u64 0) (.int .u64 0))
  obtain ⟨f1, f2⟩ := K2.out.2.1.free
  obtain ⟨z1, z2⟩ := K2.out.2.1.cells
  clear hb R K K2
  go_wp2_with fail
  generalize World.setCell (World.setCell V _ _) _ _ = V5 at HR HB ⊢
  obtain ⟨r1, r2⟩ := HR.out.cells
  try simp only [Exit.inBlock, Exit.then, Exit.noGoto]
  refine bodyPost_ret (by simp [results, Try.results16, go_sem, r1, r2]; try rfl) rfl ?_
  exact ⟨rfl, HB.out⟩
set_option maxHeartbeats 2000000 in
theorem meetMainR (a b c d e f g h p q r : Int) (b1 b2 : Bool) (G : Hid (TI 35 #[.agg #[.int .u64 e, .int .u64 f], .agg #[.int .u64 a, .int .u64 b]] r)) (E : Hid ((0 < r → p = e ∧ q = f) ∧ (r ≤ 0 → p = a ∧ q = b)))
    (C : Hid (TB 18 #[.agg #[.int .u64 a, .int .u64 b, .int .u64 c, .int .u64 d], .agg #[.int .u64 p, .int .u64 q]] b1)) (D : Hid (TB 18 #[.agg #[.int .u64 e, .int .u64 f, .int .u64 g, .int .u64 h], .agg #[.int .u64 p, .int .u64 q]] b2)) :
    TB 20 #[.agg #[.int .u64 a, .int .u64 b, .int .u64 c, .int .u64 d], .agg #[.int .u64 e, .int .u64 f, .int .u64 g, .int .u64 h]] (b1 && b2) := fun w => by
  have K0 := SB.new w a b c d 34
  have B0 := below_allocs w (.cells #[.int .u64 a, .int .u64 b, .int .u64 c, .int .u64 d] 34)
  have K1 := SB.new (w.alloc (.cells #[.int .u64 a, .int .u64 b, .int .u64 c, .int .u64 d] 34)) e f g h 34
  have B1 := below_allocs (w.alloc (.cells #[.int .u64 a, .int .u64 b, .int .u64 c, .int .u64 d] 34)) (.cells #[.int .u64 e, .int .u64 f, .int .u64 g, .int .u64 h] 34)
  have K2 := UB.new ((w.alloc (.cells #[.int .u64 a, .int .u64 b, .int .u64 c, .int .u64 d] 34)).alloc (.cells #[.int .u64 e, .int .u64 f, .int .u64 g, .int .u64 h] 34)) a b 32
  have B2 := below_allocs ((w.alloc (.cells #[.int .u64 a, .int .u64 b, .int .u64 c, .int .u64 d] 34)).alloc (.cells #[.int .u64 e, .int .u64 f, .int .u64 g, .int .u64 h] 34)) (.cells #[.int .u64 a, .int .u64 b] 32)
  have K := Lib.hid (And.intro (((K0).below B1).below B2) (And.intro ((K1).below B2) (And.intro (K2) (below_then (below_then B0 B1) B2))))
  simp only [World.size_alloc, Nat.add_assoc, Nat.reduceAdd] at K
  clear K0 B0 K1 B1 K2 B2
  go_enter Try.func20, Try.ntmps20
  go_wp2_with fail
  refine (G.out _).mono ?_
  rintro er V ⟨rfl, hb⟩
  have K2 := Lib.hid (And.intro (K.out.1.below hb) (And.intro (K.out.2.1.below hb) (And.intro (K.out.2.2.1.below hb) (below_then K.out.2.2.2 hb))))
  obtain ⟨x1, x2, x3, x4⟩ := K2.out.1.cells
  obtain ⟨y1, y2, y3, y4⟩ := K2.out.2.1.cells
  obtain ⟨z1, z2⟩ := K2.out.2.2.1.cells
  obtain ⟨f1, f2⟩ := K2.out.2.2.1.free
  have hle : w.heap.size ≤ w.heap.size + 2 := Nat.le_add_right _ _
  have n1 : w.heap.size ≠ w.heap.size + 2 := by omega
  have n2 : w.heap.size + 1 ≠ w.heap.size + 2 := by omega
  have n3 := n1.symm
  have n4 := n2.symm
  clear hb G K
  by_cases h : 0 < r
  · obtain ⟨rfl, rfl⟩ := E.out.1 (by omega)
    have K3 := Lib.hid (And.intro (K2.out.1.far2 n1 (.int .u64 p) (.int .u64 q)) (And.intro (K2.out.2.1.far2 n2 (.int .u64 p) (.int .u64 q)) (And.intro (K2.out.2.2.1.put (p' := p) (q' := q)) (below_put2 K2.out.2.2.2 hle (.int .u64 p) (.int .u64 q)))))
    clear E K2
    go_wp2_with fail
    refine (C.out _).mono ?_
    rintro er V2 ⟨rfl, hb⟩
    have K4 := Lib.hid (And.intro (K3.out.1.below hb) (And.intro (K3.out.2.1.below hb) (And.intro (K3.out.2.2.1.below hb) (below_then K3.out.2.2.2 hb))))
    obtain ⟨y1', y2', y3', y4'⟩ := K4.out.2.1.cells
    obtain ⟨z3, z4⟩ := K4.out.2.2.1.cells
    clear hb C K3 x1 x2 x3 x4 y1 y2 y3 y4 z1 z2 f1 f2
    cases b1
    · go_wp2_with fail
      go_ret
      exact ⟨rfl, K4.out.2.2.2⟩
    · go_wp2_with fail
      refine (D.out _).mono ?_
      rintro er V3 ⟨rfl, hb⟩
      have HB := Lib.hid (below_then K4.out.2.2.2 hb)
      clear hb D K4
      go_wp2_with fail
      go_ret
      exact ⟨by simp, HB.out⟩
  · obtain ⟨rfl, rfl⟩ := E.out.2 (by omega)
    have K3 := K2
    clear E K2
    go_wp2_with fail
    refine (C.out _).mono ?_
    rintro er V2 ⟨rfl, hb⟩
    have K4 := Lib.hid (And.intro (K3.out.1.below hb) (And.intro (K3.out.2.1.below hb) (And.intro (K3.out.2.2.1.below hb) (below_then K3.out.2.2.2 hb))))
    obtain ⟨y1', y2', y3', y4'⟩ := K4.out.2.1.cells
    obtain ⟨z3, z4⟩ := K4.out.2.2.1.cells
    clear hb C K3 x1 x2 x3 x4 y1 y2 y3 y4 z1 z2 f1 f2
    cases b1
    · go_wp2_with fail
      go_ret
      exact ⟨rfl, K4.out.2.2.2⟩
    · go_wp2_with fail
      refine (D.out _).mono ?_
      rintro er V3 ⟨rfl, hb⟩
      have HB := Lib.hid (below_then K4.out.2.2.2 hb)
      clear hb D K4
      go_wp2_with fail
      go_ret
      exact ⟨by simp, HB.out⟩

end Go.Proofs.Ytolicfackceomaa
