/-
  What the call Halves of the reference of layer 15 answers, for all spans.
-/
import Derived.Test.YtolicfackceomaaSpRb
import Derived.Test.YtolicfackceomaaSpK2
namespace Go.Proofs.Ytolicfackceomaa
open Go.RowKit
set_option linter.unusedVariables false
set_option maxRecDepth 100000

structure RhalvesnoC (s0 s1 s2 s3 : Int) : Prop where
  R : TB 14 #[.agg #[.int .u64 s0, .int .u64 s1, .int .u64 s2, .int .u64 s3]] false
set_option maxHeartbeats 8000000 in
theorem rHalvesNo (s0 s1 s2 s3 : Int) (H : Hid (RhalvesnoC s0 s1 s2 s3)) : TSS 9 #[.agg #[.int .u64 s0, .int .u64 s1, .int .u64 s2, .int .u64 s3]] 0 0 0 0 0 0 0 0 1 := fun w => by
  have K0 := SB.new w s0 s1 s2 s3 34
  have B0 := below_allocs w (.cells #[.int .u64 s0, .int .u64 s1, .int .u64 s2, .int .u64 s3] 34)
  have K1 := SB.new (w.alloc (.cells #[.int .u64 s0, .int .u64 s1, .int .u64 s2, .int .u64 s3] 34)) 0 0 0 0 34
  have B1 := below_allocs (w.alloc (.cells #[.int .u64 s0, .int .u64 s1, .int .u64 s2, .int .u64 s3] 34)) (.cells #[.int .u64 0, .int .u64 0, .int .u64 0, .int .u64 0] 34)
  have K2 := SB.new ((w.alloc (.cells #[.int .u64 s0, .int .u64 s1, .int .u64 s2, .int .u64 s3] 34)).alloc (.cells #[.int .u64 0, .int .u64 0, .int .u64 0, .int .u64 0] 34)) 0 0 0 0 34
  have B2 := below_allocs ((w.alloc (.cells #[.int .u64 s0, .int .u64 s1, .int .u64 s2, .int .u64 s3] 34)).alloc (.cells #[.int .u64 0, .int .u64 0, .int .u64 0, .int .u64 0] 34)) (.cells #[.int .u64 0, .int .u64 0, .int .u64 0, .int .u64 0] 34)
  have K := Lib.hid (And.intro ((K0.below B1).below B2) (And.intro (K1.below B2) (And.intro K2 (below_then (below_then B0 B1) B2))))
  simp only [World.size_alloc, Nat.add_assoc, Nat.reduceAdd] at K
  clear K0 B0 K1 B1 K2 B2
  obtain ⟨x0, x1, x2, x3⟩ := K.out.1.cells
  go_enter Try.func9, Try.ntmps9
  go_wp2_with fail
  refine (H.out.R _).mono ?_
  rintro er V1 ⟨rfl, hb⟩
  replace K := Lib.hid (And.intro (K.out.1.below hb) (And.intro (K.out.2.1.below hb) (And.intro (K.out.2.2.1.below hb) (below_then K.out.2.2.2 hb))))
  clear hb x0 x1 x2 x3
  obtain ⟨x0, x1, x2, x3⟩ := K.out.1.cells
  have K7 : Hid (SB 34 V1 (w.heap.size + 1) 0 0 0 0 ∧ SB 34 V1 (w.heap.size + 1 + 1) 0 0 0 0 ∧ Below w.heap.size w V1) := Lib.hid (And.intro K.out.2.1 (And.intro K.out.2.2.1 K.out.2.2.2))
  clear K x0 x1 x2 x3
  obtain ⟨f1, f2, f3, f4⟩ := K7.out.1.free
  obtain ⟨g1, g2, g3, g4⟩ := K7.out.2.1.free
  obtain ⟨i1, i2, i3, i4⟩ := K7.out.1.cells
  obtain ⟨v1, v2, v3, v4⟩ := K7.out.2.1.cells
  have n1 : w.heap.size + 1 ≠ w.heap.size + 1 + 1 := by omega
  have n2 := n1.symm
  have HR := Lib.hid (SB.far4 (SB.put (p' := 0) (q' := 0) (r' := 0) (s' := 0) K7.out.1) n1 (.int .u64 0) (.int .u64 0) (.int .u64 0) (.int .u64 0))
  have HR2 := Lib.hid (SB.put (p' := 0) (q' := 0) (r' := 0) (s' := 0) (SB.far4 K7.out.2.1 n2 (.int .u64 0) (.int .u64 0) (.int .u64 0) (.int .u64 0)))
  have HB := Lib.hid (below_put4 (below_put4 K7.out.2.2 (Nat.le_add_right w.heap.size 1) (.int .u64 0) (.int .u64 0) (.int .u64 0) (.int .u64 0)) (Nat.le_add_right w.heap.size 2) (.int .u64 0) (.int .u64 0) (.int .u64 0) (.int .u64 0))
  clear K7
  go_wp2_with fail
  generalize World.setCell (World.setCell (World.setCell (World.setCell (World.setCell (World.setCell (World.setCell (World.setCell V1 _ _) _ _) _ _) _ _) _ _) _ _) _ _) _ _ = V9 at HR HR2 HB ⊢
  obtain ⟨r1, r2, r3, r4⟩ := HR.out.cells
  obtain ⟨t1, t2, t3, t4⟩ := HR2.out.cells
  try simp only [Exit.inBlock, Exit.then, Exit.noGoto]
  refine bodyPost_ret (by simp [results, Try.results9, go_sem, r1, r2, r3, r4, t1, t2, t3, t4]; try rfl) rfl ?_
  exact ⟨rfl, HB.out⟩
structure RhalvesshortC (s0 s1 s2 s3 p q r : Int) : Prop where
  R : TB 14 #[.agg #[.int .u64 s0, .int .u64 s1, .int .u64 s2, .int .u64 s3]] true
  L : TU 16 #[.agg #[.int .u64 s0, .int .u64 s1, .int .u64 s2, .int .u64 s3]] p q
  C : TI 35 #[.agg #[.int .u64 p, .int .u64 q], .agg #[.int .u64 0, .int .u64 2]] r
set_option maxHeartbeats 8000000 in
theorem rHalvesShort (s0 s1 s2 s3 p q r : Int) (h : r < 0) (H : Hid (RhalvesshortC s0 s1 s2 s3 p q r)) : TSS 9 #[.agg #[.int .u64 s0, .int .u64 s1, .int .u64 s2, .int .u64 s3]] 0 0 0 0 0 0 0 0 6 := fun w => by
  have K0 := SB.new w s0 s1 s2 s3 34
  have B0 := below_allocs w (.cells #[.int .u64 s0, .int .u64 s1, .int .u64 s2, .int .u64 s3] 34)
  have K1 := SB.new (w.alloc (.cells #[.int .u64 s0, .int .u64 s1, .int .u64 s2, .int .u64 s3] 34)) 0 0 0 0 34
  have B1 := below_allocs (w.alloc (.cells #[.int .u64 s0, .int .u64 s1, .int .u64 s2, .int .u64 s3] 34)) (.cells #[.int .u64 0, .int .u64 0, .int .u64 0, .int .u64 0] 34)
  have K2 := SB.new ((w.alloc (.cells #[.int .u64 s0, .int .u64 s1, .int .u64 s2, .int .u64 s3] 34)).alloc (.cells #[.int .u64 0, .int .u64 0, .int .u64 0, .int .u64 0] 34)) 0 0 0 0 34
  have B2 := below_allocs ((w.alloc (.cells #[.int .u64 s0, .int .u64 s1, .int .u64 s2, .int .u64 s3] 34)).alloc (.cells #[.int .u64 0, .int .u64 0, .int .u64 0, .int .u64 0] 34)) (.cells #[.int .u64 0, .int .u64 0, .int .u64 0, .int .u64 0] 34)
  have K := Lib.hid (And.intro ((K0.below B1).below B2) (And.intro (K1.below B2) (And.intro K2 (below_then (below_then B0 B1) B2))))
  simp only [World.size_alloc, Nat.add_assoc, Nat.reduceAdd] at K
  clear K0 B0 K1 B1 K2 B2
  obtain ⟨x0, x1, x2, x3⟩ := K.out.1.cells
  have hfd : ∀ w, Sem.run Try.prog (Instr.field 32 (.agg #[.int .u64 p, .int .u64 q]) 1) w = .ok (.int .u64 q) w := fun _ => by kernel_rfl
  go_enter Try.func9, Try.ntmps9
  go_wp2_with fail
  refine (H.out.R _).mono ?_
  rintro er V1 ⟨rfl, hb⟩
  replace K := Lib.hid (And.intro (K.out.1.below hb) (And.intro (K.out.2.1.below hb) (And.intro (K.out.2.2.1.below hb) (below_then K.out.2.2.2 hb))))
  clear hb x0 x1 x2 x3
  obtain ⟨x0, x1, x2, x3⟩ := K.out.1.cells
  go_wp2_with fail
  refine (H.out.L _).mono ?_
  rintro er V2 ⟨rfl, hb⟩
  replace K := Lib.hid (And.intro (K.out.1.below hb) (And.intro (K.out.2.1.below hb) (And.intro (K.out.2.2.1.below hb) (below_then K.out.2.2.2 hb))))
  clear hb x0 x1 x2 x3
  obtain ⟨x0, x1, x2, x3⟩ := K.out.1.cells
  go_wp2_with fail
  refine (H.out.C _).mono ?_
  rintro er V3 ⟨rfl, hb⟩
  replace K := Lib.hid (And.intro (K.out.1.below hb) (And.intro (K.out.2.1.below hb) (And.intro (K.out.2.2.1.below hb) (below_then K.out.2.2.2 hb))))
  clear hb x0 x1 x2 x3
  obtain ⟨x0, x1, x2, x3⟩ := K.out.1.cells
  have K7 : Hid (SB 34 V3 (w.heap.size + 1) 0 0 0 0 ∧ SB 34 V3 (w.heap.size + 1 + 1) 0 0 0 0 ∧ Below w.heap.size w V3) := Lib.hid (And.intro K.out.2.1 (And.intro K.out.2.2.1 K.out.2.2.2))
  clear K x0 x1 x2 x3
  obtain ⟨f1, f2, f3, f4⟩ := K7.out.1.free
  obtain ⟨g1, g2, g3, g4⟩ := K7.out.2.1.free
  obtain ⟨i1, i2, i3, i4⟩ := K7.out.1.cells
  obtain ⟨v1, v2, v3, v4⟩ := K7.out.2.1.cells
  have n1 : w.heap.size + 1 ≠ w.heap.size + 1 + 1 := by omega
  have n2 := n1.symm
  have HR := Lib.hid (SB.far4 (SB.put (p' := 0) (q' := 0) (r' := 0) (s' := 0) K7.out.1) n1 (.int .u64 0) (.int .u64 0) (.int .u64 0) (.int .u64 0))
  have HR2 := Lib.hid (SB.put (p' := 0) (q' := 0) (r' := 0) (s' := 0) (SB.far4 K7.out.2.1 n2 (.int .u64 0) (.int .u64 0) (.int .u64 0) (.int .u64 0)))
  have HB := Lib.hid (below_put4 (below_put4 K7.out.2.2 (Nat.le_add_right w.heap.size 1) (.int .u64 0) (.int .u64 0) (.int .u64 0) (.int .u64 0)) (Nat.le_add_right w.heap.size 2) (.int .u64 0) (.int .u64 0) (.int .u64 0) (.int .u64 0))
  clear K7
  go_wp2_with fail
  generalize World.setCell (World.setCell (World.setCell (World.setCell (World.setCell (World.setCell (World.setCell (World.setCell V3 _ _) _ _) _ _) _ _) _ _) _ _) _ _) _ _ = V9 at HR HR2 HB ⊢
  obtain ⟨r1, r2, r3, r4⟩ := HR.out.cells
  obtain ⟨t1, t2, t3, t4⟩ := HR2.out.cells
  try simp only [Exit.inBlock, Exit.then, Exit.noGoto]
  refine bodyPost_ret (by simp [results, Try.results9, go_sem, r1, r2, r3, r4, t1, t2, t3, t4]; try rfl) rfl ?_
  exact ⟨rfl, HB.out⟩
structure RhalvesevenC (s0 s1 s2 s3 p q r h1 h2 p0 p1 p2 p3 q0 q1 q2 q3 k : Int) : Prop where
  R : TB 14 #[.agg #[.int .u64 s0, .int .u64 s1, .int .u64 s2, .int .u64 s3]] true
  L : TU 16 #[.agg #[.int .u64 s0, .int .u64 s1, .int .u64 s2, .int .u64 s3]] p q
  C : TI 35 #[.agg #[.int .u64 p, .int .u64 q], .agg #[.int .u64 0, .int .u64 2]] r
  G : TU 36 #[.agg #[.int .u64 p, .int .u64 q], .int .i64 1] h1 h2
  F : TSS 12 #[.agg #[.int .u64 s0, .int .u64 s1, .int .u64 s2, .int .u64 s3], .agg #[.int .u64 h1, .int .u64 h2]] p0 p1 p2 p3 q0 q1 q2 q3 k
set_option maxHeartbeats 16000000 in
theorem rHalvesEven (s0 s1 s2 s3 p q r h1 h2 p0 p1 p2 p3 q0 q1 q2 q3 k : Int) (h : ¬ r < 0) (hq : q.tmod 2 = 0) (H : Hid (RhalvesevenC s0 s1 s2 s3 p q r h1 h2 p0 p1 p2 p3 q0 q1 q2 q3 k)) : TSS 9 #[.agg #[.int .u64 s0, .int .u64 s1, .int .u64 s2, .int .u64 s3]] p0 p1 p2 p3 q0 q1 q2 q3 k := fun w => by
  have K0 := SB.new w s0 s1 s2 s3 34
  have B0 := below_allocs w (.cells #[.int .u64 s0, .int .u64 s1, .int .u64 s2, .int .u64 s3] 34)
  have K1 := SB.new (w.alloc (.cells #[.int .u64 s0, .int .u64 s1, .int .u64 s2, .int .u64 s3] 34)) 0 0 0 0 34
  have B1 := below_allocs (w.alloc (.cells #[.int .u64 s0, .int .u64 s1, .int .u64 s2, .int .u64 s3] 34)) (.cells #[.int .u64 0, .int .u64 0, .int .u64 0, .int .u64 0] 34)
  have K2 := SB.new ((w.alloc (.cells #[.int .u64 s0, .int .u64 s1, .int .u64 s2, .int .u64 s3] 34)).alloc (.cells #[.int .u64 0, .int .u64 0, .int .u64 0, .int .u64 0] 34)) 0 0 0 0 34
  have B2 := below_allocs ((w.alloc (.cells #[.int .u64 s0, .int .u64 s1, .int .u64 s2, .int .u64 s3] 34)).alloc (.cells #[.int .u64 0, .int .u64 0, .int .u64 0, .int .u64 0] 34)) (.cells #[.int .u64 0, .int .u64 0, .int .u64 0, .int .u64 0] 34)
  have K := Lib.hid (And.intro ((K0.below B1).below B2) (And.intro (K1.below B2) (And.intro K2 (below_then (below_then B0 B1) B2))))
  simp only [World.size_alloc, Nat.add_assoc, Nat.reduceAdd] at K
  clear K0 B0 K1 B1 K2 B2
  obtain ⟨x0, x1, x2, x3⟩ := K.out.1.cells
  have hfd : ∀ w, Sem.run Try.prog (Instr.field 32 (.agg #[.int .u64 p, .int .u64 q]) 1) w = .ok (.int .u64 q) w := fun _ => by kernel_rfl
  go_enter Try.func9, Try.ntmps9
  go_wp2_with fail
  refine (H.out.R _).mono ?_
  rintro er V1 ⟨rfl, hb⟩
  replace K := Lib.hid (And.intro (K.out.1.below hb) (And.intro (K.out.2.1.below hb) (And.intro (K.out.2.2.1.below hb) (below_then K.out.2.2.2 hb))))
  clear hb x0 x1 x2 x3
  obtain ⟨x0, x1, x2, x3⟩ := K.out.1.cells
  go_wp2_with fail
  refine (H.out.L _).mono ?_
  rintro er V2 ⟨rfl, hb⟩
  replace K := Lib.hid (And.intro (K.out.1.below hb) (And.intro (K.out.2.1.below hb) (And.intro (K.out.2.2.1.below hb) (below_then K.out.2.2.2 hb))))
  clear hb x0 x1 x2 x3
  obtain ⟨x0, x1, x2, x3⟩ := K.out.1.cells
  go_wp2_with fail
  refine (H.out.C _).mono ?_
  rintro er V3 ⟨rfl, hb⟩
  replace K := Lib.hid (And.intro (K.out.1.below hb) (And.intro (K.out.2.1.below hb) (And.intro (K.out.2.2.1.below hb) (below_then K.out.2.2.2 hb))))
  clear hb x0 x1 x2 x3
  obtain ⟨x0, x1, x2, x3⟩ := K.out.1.cells
  go_wp2_with fail
  refine (H.out.L _).mono ?_
  rintro er V4 ⟨rfl, hb⟩
  replace K := Lib.hid (And.intro (K.out.1.below hb) (And.intro (K.out.2.1.below hb) (And.intro (K.out.2.2.1.below hb) (below_then K.out.2.2.2 hb))))
  clear hb x0 x1 x2 x3
  obtain ⟨x0, x1, x2, x3⟩ := K.out.1.cells
  go_wp2_with fail
  refine (H.out.G _).mono ?_
  rintro er V5 ⟨rfl, hb⟩
  replace K := Lib.hid (And.intro (K.out.1.below hb) (And.intro (K.out.2.1.below hb) (And.intro (K.out.2.2.1.below hb) (below_then K.out.2.2.2 hb))))
  clear hb x0 x1 x2 x3
  obtain ⟨x0, x1, x2, x3⟩ := K.out.1.cells
  have n5 : w.heap.size + 2 < V5.heap.size := K.out.2.2.1.lt
  go_upto_region 6 with fail
  have LU := below_allocs V5 (.cells #[.int .u64 h1, .int .u64 h2] 32)
  have KU := Lib.hid (UB.new V5 h1 h2 32)
  replace K := Lib.hid (And.intro (K.out.1.below LU) (And.intro (K.out.2.1.below LU) (And.intro (K.out.2.2.1.below LU) (below_then K.out.2.2.2 LU))))
  have nu : w.heap.size + 2 < V5.heap.size := n5
  clear LU x0 x1 x2 x3 n5
  generalize V5.alloc _ = V5' at K KU ⊢
  generalize V5.heap.size = cu at KU nu ⊢
  obtain ⟨x0, x1, x2, x3⟩ := K.out.1.cells
  go_wp2_with fail
  refine (H.out.L _).mono ?_
  rintro er V6 ⟨rfl, hb⟩
  replace K := Lib.hid (And.intro (K.out.1.below hb) (And.intro (K.out.2.1.below hb) (And.intro (K.out.2.2.1.below hb) (below_then K.out.2.2.2 hb))))
  replace KU := Lib.hid (KU.out.below hb)
  clear hb x0 x1 x2 x3
  obtain ⟨x0, x1, x2, x3⟩ := K.out.1.cells
  obtain ⟨y0, y1⟩ := KU.out.cells
  go_wp2_with fail
  refine (H.out.F _).mono ?_
  rintro er V8 ⟨rfl, hb⟩
  replace K := Lib.hid (And.intro (K.out.1.below hb) (And.intro (K.out.2.1.below hb) (And.intro (K.out.2.2.1.below hb) (below_then K.out.2.2.2 hb))))
  clear hb x0 x1 x2 x3 y0 y1 KU
  obtain ⟨x0, x1, x2, x3⟩ := K.out.1.cells
  have K7 : Hid (SB 34 V8 (w.heap.size + 1) 0 0 0 0 ∧ SB 34 V8 (w.heap.size + 1 + 1) 0 0 0 0 ∧ Below w.heap.size w V8) := Lib.hid (And.intro K.out.2.1 (And.intro K.out.2.2.1 K.out.2.2.2))
  clear K x0 x1 x2 x3
  obtain ⟨f1, f2, f3, f4⟩ := K7.out.1.free
  obtain ⟨g1, g2, g3, g4⟩ := K7.out.2.1.free
  obtain ⟨i1, i2, i3, i4⟩ := K7.out.1.cells
  obtain ⟨v1, v2, v3, v4⟩ := K7.out.2.1.cells
  have n1 : w.heap.size + 1 ≠ w.heap.size + 1 + 1 := by omega
  have n2 := n1.symm
  have HR := Lib.hid (SB.far4 (SB.put (p' := p0) (q' := p1) (r' := p2) (s' := p3) K7.out.1) n1 (.int .u64 q0) (.int .u64 q1) (.int .u64 q2) (.int .u64 q3))
  have HR2 := Lib.hid (SB.put (p' := q0) (q' := q1) (r' := q2) (s' := q3) (SB.far4 K7.out.2.1 n2 (.int .u64 p0) (.int .u64 p1) (.int .u64 p2) (.int .u64 p3)))
  have HB := Lib.hid (below_put4 (below_put4 K7.out.2.2 (Nat.le_add_right w.heap.size 1) (.int .u64 p0) (.int .u64 p1) (.int .u64 p2) (.int .u64 p3)) (Nat.le_add_right w.heap.size 2) (.int .u64 q0) (.int .u64 q1) (.int .u64 q2) (.int .u64 q3))
  clear K7
  go_wp2_with fail
  generalize World.setCell (World.setCell (World.setCell (World.setCell (World.setCell (World.setCell (World.setCell (World.setCell V8 _ _) _ _) _ _) _ _) _ _) _ _) _ _) _ _ = V9 at HR HR2 HB ⊢
  obtain ⟨r1, r2, r3, r4⟩ := HR.out.cells
  obtain ⟨t1, t2, t3, t4⟩ := HR2.out.cells
  try simp only [Exit.inBlock, Exit.then, Exit.noGoto]
  refine bodyPost_ret (by simp [results, Try.results9, go_sem, r1, r2, r3, r4, t1, t2, t3, t4]; try rfl) rfl ?_
  exact ⟨rfl, HB.out⟩
structure RhalvesoddC (s0 s1 s2 s3 p q r h1 h2 e1 e2 p0 p1 p2 p3 q0 q1 q2 q3 k : Int) : Prop where
  R : TB 14 #[.agg #[.int .u64 s0, .int .u64 s1, .int .u64 s2, .int .u64 s3]] true
  L : TU 16 #[.agg #[.int .u64 s0, .int .u64 s1, .int .u64 s2, .int .u64 s3]] p q
  C : TI 35 #[.agg #[.int .u64 p, .int .u64 q], .agg #[.int .u64 0, .int .u64 2]] r
  G : TU 36 #[.agg #[.int .u64 p, .int .u64 q], .int .i64 1] h1 h2
  D : TUB 37 #[.agg #[.int .u64 h1, .int .u64 h2], .agg #[.int .u64 0, .int .u64 1]] e1 e2 false
  F : TSS 12 #[.agg #[.int .u64 s0, .int .u64 s1, .int .u64 s2, .int .u64 s3], .agg #[.int .u64 e1, .int .u64 e2]] p0 p1 p2 p3 q0 q1 q2 q3 k
set_option maxHeartbeats 16000000 in
theorem rHalvesOdd (s0 s1 s2 s3 p q r h1 h2 e1 e2 p0 p1 p2 p3 q0 q1 q2 q3 k : Int) (h : ¬ r < 0) (hq : q.tmod 2 = 1) (H : Hid (RhalvesoddC s0 s1 s2 s3 p q r h1 h2 e1 e2 p0 p1 p2 p3 q0 q1 q2 q3 k)) : TSS 9 #[.agg #[.int .u64 s0, .int .u64 s1, .int .u64 s2, .int .u64 s3]] p0 p1 p2 p3 q0 q1 q2 q3 k := fun w => by
  have K0 := SB.new w s0 s1 s2 s3 34
  have B0 := below_allocs w (.cells #[.int .u64 s0, .int .u64 s1, .int .u64 s2, .int .u64 s3] 34)
  have K1 := SB.new (w.alloc (.cells #[.int .u64 s0, .int .u64 s1, .int .u64 s2, .int .u64 s3] 34)) 0 0 0 0 34
  have B1 := below_allocs (w.alloc (.cells #[.int .u64 s0, .int .u64 s1, .int .u64 s2, .int .u64 s3] 34)) (.cells #[.int .u64 0, .int .u64 0, .int .u64 0, .int .u64 0] 34)
  have K2 := SB.new ((w.alloc (.cells #[.int .u64 s0, .int .u64 s1, .int .u64 s2, .int .u64 s3] 34)).alloc (.cells #[.int .u64 0, .int .u64 0, .int .u64 0, .int .u64 0] 34)) 0 0 0 0 34
  have B2 := below_allocs ((w.alloc (.cells #[.int .u64 s0, .int .u64 s1, .int .u64 s2, .int .u64 s3] 34)).alloc (.cells #[.int .u64 0, .int .u64 0, .int .u64 0, .int .u64 0] 34)) (.cells #[.int .u64 0, .int .u64 0, .int .u64 0, .int .u64 0] 34)
  have K := Lib.hid (And.intro ((K0.below B1).below B2) (And.intro (K1.below B2) (And.intro K2 (below_then (below_then B0 B1) B2))))
  simp only [World.size_alloc, Nat.add_assoc, Nat.reduceAdd] at K
  clear K0 B0 K1 B1 K2 B2
  obtain ⟨x0, x1, x2, x3⟩ := K.out.1.cells
  have hfd : ∀ w, Sem.run Try.prog (Instr.field 32 (.agg #[.int .u64 p, .int .u64 q]) 1) w = .ok (.int .u64 q) w := fun _ => by kernel_rfl
  go_enter Try.func9, Try.ntmps9
  go_wp2_with fail
  refine (H.out.R _).mono ?_
  rintro er V1 ⟨rfl, hb⟩
  replace K := Lib.hid (And.intro (K.out.1.below hb) (And.intro (K.out.2.1.below hb) (And.intro (K.out.2.2.1.below hb) (below_then K.out.2.2.2 hb))))
  clear hb x0 x1 x2 x3
  obtain ⟨x0, x1, x2, x3⟩ := K.out.1.cells
  go_wp2_with fail
  refine (H.out.L _).mono ?_
  rintro er V2 ⟨rfl, hb⟩
  replace K := Lib.hid (And.intro (K.out.1.below hb) (And.intro (K.out.2.1.below hb) (And.intro (K.out.2.2.1.below hb) (below_then K.out.2.2.2 hb))))
  clear hb x0 x1 x2 x3
  obtain ⟨x0, x1, x2, x3⟩ := K.out.1.cells
  go_wp2_with fail
  refine (H.out.C _).mono ?_
  rintro er V3 ⟨rfl, hb⟩
  replace K := Lib.hid (And.intro (K.out.1.below hb) (And.intro (K.out.2.1.below hb) (And.intro (K.out.2.2.1.below hb) (below_then K.out.2.2.2 hb))))
  clear hb x0 x1 x2 x3
  obtain ⟨x0, x1, x2, x3⟩ := K.out.1.cells
  go_wp2_with fail
  refine (H.out.L _).mono ?_
  rintro er V4 ⟨rfl, hb⟩
  replace K := Lib.hid (And.intro (K.out.1.below hb) (And.intro (K.out.2.1.below hb) (And.intro (K.out.2.2.1.below hb) (below_then K.out.2.2.2 hb))))
  clear hb x0 x1 x2 x3
  obtain ⟨x0, x1, x2, x3⟩ := K.out.1.cells
  go_wp2_with fail
  refine (H.out.G _).mono ?_
  rintro er V5 ⟨rfl, hb⟩
  replace K := Lib.hid (And.intro (K.out.1.below hb) (And.intro (K.out.2.1.below hb) (And.intro (K.out.2.2.1.below hb) (below_then K.out.2.2.2 hb))))
  clear hb x0 x1 x2 x3
  obtain ⟨x0, x1, x2, x3⟩ := K.out.1.cells
  have n5 : w.heap.size + 2 < V5.heap.size := K.out.2.2.1.lt
  go_upto_region 6 with fail
  have LU := below_allocs V5 (.cells #[.int .u64 h1, .int .u64 h2] 32)
  have KU := Lib.hid (UB.new V5 h1 h2 32)
  replace K := Lib.hid (And.intro (K.out.1.below LU) (And.intro (K.out.2.1.below LU) (And.intro (K.out.2.2.1.below LU) (below_then K.out.2.2.2 LU))))
  have nu : w.heap.size + 2 < V5.heap.size := n5
  clear LU x0 x1 x2 x3 n5
  generalize V5.alloc _ = V5' at K KU ⊢
  generalize V5.heap.size = cu at KU nu ⊢
  obtain ⟨x0, x1, x2, x3⟩ := K.out.1.cells
  go_wp2_with fail
  refine (H.out.L _).mono ?_
  rintro er V6 ⟨rfl, hb⟩
  replace K := Lib.hid (And.intro (K.out.1.below hb) (And.intro (K.out.2.1.below hb) (And.intro (K.out.2.2.1.below hb) (below_then K.out.2.2.2 hb))))
  replace KU := Lib.hid (KU.out.below hb)
  clear hb x0 x1 x2 x3
  obtain ⟨x0, x1, x2, x3⟩ := K.out.1.cells
  obtain ⟨y0, y1⟩ := KU.out.cells
  go_wp2_with fail
  refine (H.out.D _).mono ?_
  rintro er V7 ⟨rfl, hb⟩
  have a1 : w.heap.size ≠ cu := by omega
  have a2 : w.heap.size + 1 ≠ cu := by omega
  have a3 : w.heap.size + 2 ≠ cu := by omega
  have KQ := Lib.hid (And.intro (SB.far2 (K.out.1.below hb) a1 (.int .u64 e1) (.int .u64 e2)) (And.intro (SB.far2 (K.out.2.1.below hb) a2 (.int .u64 e1) (.int .u64 e2)) (And.intro (SB.far2 (K.out.2.2.1.below hb) a3 (.int .u64 e1) (.int .u64 e2)) (And.intro (below_put2 (below_then K.out.2.2.2 hb) (by omega : w.heap.size ≤ cu) (.int .u64 e1) (.int .u64 e2)) ((KU.out.below hb).put (p' := e1) (q' := e2))))))
  obtain ⟨z0, z1⟩ := (KU.out.below hb).cells
  obtain ⟨f0, f1⟩ := (KU.out.below hb).free
  clear hb K KU x0 x1 x2 x3 y0 y1
  go_upto_region 8 with fail
  generalize World.setCell (World.setCell V7 _ _) _ _ = V7' at KQ ⊢
  have K := Lib.hid (And.intro KQ.out.1 (And.intro KQ.out.2.1 (And.intro KQ.out.2.2.1 KQ.out.2.2.2.1)))
  have KU := Lib.hid KQ.out.2.2.2.2
  clear KQ z0 z1 f0 f1
  obtain ⟨x0, x1, x2, x3⟩ := K.out.1.cells
  obtain ⟨y0, y1⟩ := KU.out.cells
  go_wp2_with fail
  refine (H.out.F _).mono ?_
  rintro er V8 ⟨rfl, hb⟩
  replace K := Lib.hid (And.intro (K.out.1.below hb) (And.intro (K.out.2.1.below hb) (And.intro (K.out.2.2.1.below hb) (below_then K.out.2.2.2 hb))))
  clear hb x0 x1 x2 x3 y0 y1 KU
  obtain ⟨x0, x1, x2, x3⟩ := K.out.1.cells
  have K7 : Hid (SB 34 V8 (w.heap.size + 1) 0 0 0 0 ∧ SB 34 V8 (w.heap.size + 1 + 1) 0 0 0 0 ∧ Below w.heap.size w V8) := Lib.hid (And.intro K.out.2.1 (And.intro K.out.2.2.1 K.out.2.2.2))
  clear K x0 x1 x2 x3
  obtain ⟨f1, f2, f3, f4⟩ := K7.out.1.free
  obtain ⟨g1, g2, g3, g4⟩ := K7.out.2.1.free
  obtain ⟨i1, i2, i3, i4⟩ := K7.out.1.cells
  obtain ⟨v1, v2, v3, v4⟩ := K7.out.2.1.cells
  have n1 : w.heap.size + 1 ≠ w.heap.size + 1 + 1 := by omega
  have n2 := n1.symm
  have HR := Lib.hid (SB.far4 (SB.put (p' := p0) (q' := p1) (r' := p2) (s' := p3) K7.out.1) n1 (.int .u64 q0) (.int .u64 q1) (.int .u64 q2) (.int .u64 q3))
  have HR2 := Lib.hid (SB.put (p' := q0) (q' := q1) (r' := q2) (s' := q3) (SB.far4 K7.out.2.1 n2 (.int .u64 p0) (.int .u64 p1) (.int .u64 p2) (.int .u64 p3)))
  have HB := Lib.hid (below_put4 (below_put4 K7.out.2.2 (Nat.le_add_right w.heap.size 1) (.int .u64 p0) (.int .u64 p1) (.int .u64 p2) (.int .u64 p3)) (Nat.le_add_right w.heap.size 2) (.int .u64 q0) (.int .u64 q1) (.int .u64 q2) (.int .u64 q3))
  clear K7
  go_wp2_with fail
  generalize World.setCell (World.setCell (World.setCell (World.setCell (World.setCell (World.setCell (World.setCell (World.setCell V8 _ _) _ _) _ _) _ _) _ _) _ _) _ _) _ _ = V9 at HR HR2 HB ⊢
  obtain ⟨r1, r2, r3, r4⟩ := HR.out.cells
  obtain ⟨t1, t2, t3, t4⟩ := HR2.out.cells
  try simp only [Exit.inBlock, Exit.then, Exit.noGoto]
  refine bodyPost_ret (by simp [results, Try.results9, go_sem, r1, r2, r3, r4, t1, t2, t3, t4]; try rfl) rfl ?_
  exact ⟨rfl, HB.out⟩
end Go.Proofs.Ytolicfackceomaa
