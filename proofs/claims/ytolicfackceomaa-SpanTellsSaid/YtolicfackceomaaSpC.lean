/-
  What the calls Right, Len, Has, Meet, Take and Halves of package span (the second part) answer, for all spans and numbers.
-/
import Derived.Test.YtolicfackceomaaSpB
namespace Go.Proofs.Ytolicfackceomaa
open Go.RowKit
set_option linter.unusedVariables false
set_option maxRecDepth 100000

theorem quietI {P : Program} {f : FuncId} {args : Array Value} {W0 w : World} {n : Int} (h : Calls P f args w (fun e w' => e = .returned (.int .i64 n) ∧ Below w.heap.size w w')) (hC : Below W0.heap.size W0 w) :
    Calls P f args w (fun e w'' => e = .returned (.int .i64 n) ∧ Below W0.heap.size W0 w'') := quietOf h hC
/-- Behind a drawn test, or a way that ends: the two results are laid. -/
def TkEnd (W0 : World) (p q r s p' q' r' s' : Int) (V : World) : Prop := SB 26 V (W0.heap.size + 2) p q r s ∧ SB 26 V (W0.heap.size + 3) p' q' r' s' ∧ Below W0.heap.size W0 V
set_option maxHeartbeats 4000000 in
theorem takeNo (a b c d m l : Int) (R : Hid (TB 13 #[.agg #[.int .u64 a, .int .u64 b, .int .u64 c, .int .u64 d]] false)) :
    TSS 11 #[.agg #[.int .u64 a, .int .u64 b, .int .u64 c, .int .u64 d], .agg #[.int .u64 m, .int .u64 l]] 0 0 0 0 0 0 0 0 1 := fun w => by
  have K0 := SB.new w a b c d 26
  have B0 := below_allocs w (.cells #[.int .u64 a, .int .u64 b, .int .u64 c, .int .u64 d] 26)
  have K1 := UB.new (w.alloc (.cells #[.int .u64 a, .int .u64 b, .int .u64 c, .int .u64 d] 26)) m l 24
  have B1 := below_allocs (w.alloc (.cells #[.int .u64 a, .int .u64 b, .int .u64 c, .int .u64 d] 26)) (.cells #[.int .u64 m, .int .u64 l] 24)
  have K2 := SB.new ((w.alloc (.cells #[.int .u64 a, .int .u64 b, .int .u64 c, .int .u64 d] 26)).alloc (.cells #[.int .u64 m, .int .u64 l] 24)) 0 0 0 0 26
  have B2 := below_allocs ((w.alloc (.cells #[.int .u64 a, .int .u64 b, .int .u64 c, .int .u64 d] 26)).alloc (.cells #[.int .u64 m, .int .u64 l] 24)) (.cells #[.int .u64 0, .int .u64 0, .int .u64 0, .int .u64 0] 26)
  have K3 := SB.new (((w.alloc (.cells #[.int .u64 a, .int .u64 b, .int .u64 c, .int .u64 d] 26)).alloc (.cells #[.int .u64 m, .int .u64 l] 24)).alloc (.cells #[.int .u64 0, .int .u64 0, .int .u64 0, .int .u64 0] 26)) 0 0 0 0 26
  have B3 := below_allocs (((w.alloc (.cells #[.int .u64 a, .int .u64 b, .int .u64 c, .int .u64 d] 26)).alloc (.cells #[.int .u64 m, .int .u64 l] 24)).alloc (.cells #[.int .u64 0, .int .u64 0, .int .u64 0, .int .u64 0] 26)) (.cells #[.int .u64 0, .int .u64 0, .int .u64 0, .int .u64 0] 26)
  have K := Lib.hid (And.intro ((((K0).below B1).below B2).below B3) (And.intro (((K1).below B2).below B3) (And.intro ((K2).below B3) (And.intro (K3) (below_then (below_then (below_then B0 B1) B2) B3)))))
  simp only [World.size_alloc, Nat.add_assoc, Nat.reduceAdd] at K
  clear K0 B0 K1 B1 K2 B2 K3 B3
  go_enter Try.func11, Try.ntmps11
  go_wp2_with fail
  refine (R.out _).mono ?_
  rintro e V ⟨rfl, hb⟩
  have K2 := Lib.hid (And.intro (K.out.1.below hb) (And.intro (K.out.2.1.below hb) (And.intro (K.out.2.2.1.below hb) (And.intro (K.out.2.2.2.1.below hb) (below_then K.out.2.2.2.2 hb)))))
  obtain ⟨f1, f2, f3, f4⟩ := K2.out.2.2.1.free
  obtain ⟨g1, g2, g3, g4⟩ := K2.out.2.2.2.1.free
  obtain ⟨u1, u2, u3, u4⟩ := K2.out.2.2.1.cells
  obtain ⟨v1, v2, v3, v4⟩ := K2.out.2.2.2.1.cells
  clear hb R K
  have n1 : w.heap.size + 2 ≠ w.heap.size + 3 := by omega
  have n2 := n1.symm
  have HR := Lib.hid (SB.far4 (SB.put (p' := 0) (q' := 0) (r' := 0) (s' := 0) K2.out.2.2.1) n1 (.int .u64 0) (.int .u64 0) (.int .u64 0) (.int .u64 0))
  have HR2 := Lib.hid (SB.put (p' := 0) (q' := 0) (r' := 0) (s' := 0) (SB.far4 K2.out.2.2.2.1 n2 (.int .u64 0) (.int .u64 0) (.int .u64 0) (.int .u64 0)))
  have HB := Lib.hid (below_put4 (below_put4 K2.out.2.2.2.2 (Nat.le_add_right w.heap.size 2) (.int .u64 0) (.int .u64 0) (.int .u64 0) (.int .u64 0)) (Nat.le_add_right w.heap.size 3) (.int .u64 0) (.int .u64 0) (.int .u64 0) (.int .u64 0))
  clear K2
  go_wp2_with fail
  generalize World.setCell (World.setCell (World.setCell (World.setCell (World.setCell (World.setCell (World.setCell (World.setCell V _ _) _ _) _ _) _ _) _ _) _ _) _ _) _ _ = V5 at HR HR2 HB ⊢
  obtain ⟨r1, r2, r3, r4⟩ := HR.out.cells
  obtain ⟨s1, s2, s3, s4⟩ := HR2.out.cells
  try simp only [Exit.inBlock, Exit.then, Exit.noGoto]
  refine bodyPost_ret (by simp [results, Try.results11, go_sem, r1, r2, r3, r4, s1, s2, s3, s4]; try rfl) rfl ?_
  exact ⟨rfl, HB.out⟩
set_option maxHeartbeats 4000000 in
theorem takeShort (a b c d m l p q r : Int) (h : r < 0) (R : Hid (TB 13 #[.agg #[.int .u64 a, .int .u64 b, .int .u64 c, .int .u64 d]] true)) (L : Hid (TU 15 #[.agg #[.int .u64 a, .int .u64 b, .int .u64 c, .int .u64 d]] p q)) (C : Hid (TI 30 #[.agg #[.int .u64 p, .int .u64 q], .agg #[.int .u64 m, .int .u64 l]] r)) :
    TSS 11 #[.agg #[.int .u64 a, .int .u64 b, .int .u64 c, .int .u64 d], .agg #[.int .u64 m, .int .u64 l]] 0 0 0 0 0 0 0 0 7 := fun w => by
  have K0 := SB.new w a b c d 26
  have B0 := below_allocs w (.cells #[.int .u64 a, .int .u64 b, .int .u64 c, .int .u64 d] 26)
  have K1 := UB.new (w.alloc (.cells #[.int .u64 a, .int .u64 b, .int .u64 c, .int .u64 d] 26)) m l 24
  have B1 := below_allocs (w.alloc (.cells #[.int .u64 a, .int .u64 b, .int .u64 c, .int .u64 d] 26)) (.cells #[.int .u64 m, .int .u64 l] 24)
  have K2 := SB.new ((w.alloc (.cells #[.int .u64 a, .int .u64 b, .int .u64 c, .int .u64 d] 26)).alloc (.cells #[.int .u64 m, .int .u64 l] 24)) 0 0 0 0 26
  have B2 := below_allocs ((w.alloc (.cells #[.int .u64 a, .int .u64 b, .int .u64 c, .int .u64 d] 26)).alloc (.cells #[.int .u64 m, .int .u64 l] 24)) (.cells #[.int .u64 0, .int .u64 0, .int .u64 0, .int .u64 0] 26)
  have K3 := SB.new (((w.alloc (.cells #[.int .u64 a, .int .u64 b, .int .u64 c, .int .u64 d] 26)).alloc (.cells #[.int .u64 m, .int .u64 l] 24)).alloc (.cells #[.int .u64 0, .int .u64 0, .int .u64 0, .int .u64 0] 26)) 0 0 0 0 26
  have B3 := below_allocs (((w.alloc (.cells #[.int .u64 a, .int .u64 b, .int .u64 c, .int .u64 d] 26)).alloc (.cells #[.int .u64 m, .int .u64 l] 24)).alloc (.cells #[.int .u64 0, .int .u64 0, .int .u64 0, .int .u64 0] 26)) (.cells #[.int .u64 0, .int .u64 0, .int .u64 0, .int .u64 0] 26)
  have K := Lib.hid (And.intro ((((K0).below B1).below B2).below B3) (And.intro (((K1).below B2).below B3) (And.intro ((K2).below B3) (And.intro (K3) (below_then (below_then (below_then B0 B1) B2) B3)))))
  simp only [World.size_alloc, Nat.add_assoc, Nat.reduceAdd] at K
  clear K0 B0 K1 B1 K2 B2 K3 B3
  go_enter Try.func11, Try.ntmps11
  go_wp2_with fail
  refine (R.out _).mono ?_
  rintro e V ⟨rfl, hb⟩
  have K2 := Lib.hid (And.intro (K.out.1.below hb) (And.intro (K.out.2.1.below hb) (And.intro (K.out.2.2.1.below hb) (And.intro (K.out.2.2.2.1.below hb) (below_then K.out.2.2.2.2 hb)))))
  clear hb R K
  go_wp2_with fail
  refine wp_region_class (fun w' => Below V.heap.size V w') (by kernel_rfl) (by kernel_rfl) (Below.refl _ _).drew ?_
  iterate 6
    (refine WQ.yes ?_ (by rfl) (fun w' hC => ?_) ?_
     rotate_left
     · (obtain ⟨x1, x2, x3, x4⟩ := (K2.out.1.below hC).cells; obtain ⟨y1, y2⟩ := (K2.out.2.1.below hC).cells
        go_simp
        first | done | with_reducible rfl | exact ⟨rfl, rfl⟩ | (go_at_call 15; (with_reducible exact quietA (L.out _) hC)) | (go_at_call 30; (with_reducible exact quietI (C.out _) hC)))
     (try simp only [Act.put, List.setIfInBounds_toArray, List.set_cons_zero, List.set_cons_succ]))
  refine WQ.nil ?_
  intro wz hX
  have K4 := Lib.hid (And.intro (K2.out.1.below hX) (And.intro (K2.out.2.1.below hX) (And.intro (K2.out.2.2.1.below hX) (And.intro (K2.out.2.2.2.1.below hX) (below_then K2.out.2.2.2.2 hX)))))
  clear hX K2 L C
  obtain ⟨f1, f2, f3, f4⟩ := K4.out.2.2.1.free
  obtain ⟨g1, g2, g3, g4⟩ := K4.out.2.2.2.1.free
  obtain ⟨u1, u2, u3, u4⟩ := K4.out.2.2.1.cells
  obtain ⟨v1, v2, v3, v4⟩ := K4.out.2.2.2.1.cells
  have n1 : w.heap.size + 2 ≠ w.heap.size + 3 := by omega
  have n2 := n1.symm
  have HR := Lib.hid (SB.far4 (SB.put (p' := 0) (q' := 0) (r' := 0) (s' := 0) K4.out.2.2.1) n1 (.int .u64 0) (.int .u64 0) (.int .u64 0) (.int .u64 0))
  have HR2 := Lib.hid (SB.put (p' := 0) (q' := 0) (r' := 0) (s' := 0) (SB.far4 K4.out.2.2.2.1 n2 (.int .u64 0) (.int .u64 0) (.int .u64 0) (.int .u64 0)))
  have HB := Lib.hid (below_put4 (below_put4 K4.out.2.2.2.2 (Nat.le_add_right w.heap.size 2) (.int .u64 0) (.int .u64 0) (.int .u64 0) (.int .u64 0)) (Nat.le_add_right w.heap.size 3) (.int .u64 0) (.int .u64 0) (.int .u64 0) (.int .u64 0))
  clear K4
  go_wp2_with fail
  generalize World.setCell (World.setCell (World.setCell (World.setCell (World.setCell (World.setCell (World.setCell (World.setCell wz _ _) _ _) _ _) _ _) _ _) _ _) _ _) _ _ = V5 at HR HR2 HB ⊢
  obtain ⟨r1, r2, r3, r4⟩ := HR.out.cells
  obtain ⟨s1, s2, s3, s4⟩ := HR2.out.cells
  try simp only [Exit.inBlock, Exit.then, Exit.noGoto]
  refine bodyPost_ret (by simp [results, Try.results11, go_sem, r1, r2, r3, r4, s1, s2, s3, s4]; try rfl) rfl ?_
  exact ⟨rfl, HB.out⟩
set_option maxHeartbeats 1000000 in
theorem takeYes (a b c d m l p q r s t : Int) (o : Bool) (h : ¬ r < 0) (R : Hid (TB 13 #[.agg #[.int .u64 a, .int .u64 b, .int .u64 c, .int .u64 d]] true)) (L : Hid (TU 15 #[.agg #[.int .u64 a, .int .u64 b, .int .u64 c, .int .u64 d]] p q)) (C : Hid (TI 30 #[.agg #[.int .u64 p, .int .u64 q], .agg #[.int .u64 m, .int .u64 l]] r))
    (D : Hid (TUB 32 #[.agg #[.int .u64 a, .int .u64 b], .agg #[.int .u64 m, .int .u64 l]] s t o)) :
    TSS 11 #[.agg #[.int .u64 a, .int .u64 b, .int .u64 c, .int .u64 d], .agg #[.int .u64 m, .int .u64 l]] a b s t s t c d 0 := fun w => by
  have K0 := SB.new w a b c d 26
  have B0 := below_allocs w (.cells #[.int .u64 a, .int .u64 b, .int .u64 c, .int .u64 d] 26)
  have K1 := UB.new (w.alloc (.cells #[.int .u64 a, .int .u64 b, .int .u64 c, .int .u64 d] 26)) m l 24
  have B1 := below_allocs (w.alloc (.cells #[.int .u64 a, .int .u64 b, .int .u64 c, .int .u64 d] 26)) (.cells #[.int .u64 m, .int .u64 l] 24)
  have K2 := SB.new ((w.alloc (.cells #[.int .u64 a, .int .u64 b, .int .u64 c, .int .u64 d] 26)).alloc (.cells #[.int .u64 m, .int .u64 l] 24)) 0 0 0 0 26
  have B2 := below_allocs ((w.alloc (.cells #[.int .u64 a, .int .u64 b, .int .u64 c, .int .u64 d] 26)).alloc (.cells #[.int .u64 m, .int .u64 l] 24)) (.cells #[.int .u64 0, .int .u64 0, .int .u64 0, .int .u64 0] 26)
  have K3 := SB.new (((w.alloc (.cells #[.int .u64 a, .int .u64 b, .int .u64 c, .int .u64 d] 26)).alloc (.cells #[.int .u64 m, .int .u64 l] 24)).alloc (.cells #[.int .u64 0, .int .u64 0, .int .u64 0, .int .u64 0] 26)) 0 0 0 0 26
  have B3 := below_allocs (((w.alloc (.cells #[.int .u64 a, .int .u64 b, .int .u64 c, .int .u64 d] 26)).alloc (.cells #[.int .u64 m, .int .u64 l] 24)).alloc (.cells #[.int .u64 0, .int .u64 0, .int .u64 0, .int .u64 0] 26)) (.cells #[.int .u64 0, .int .u64 0, .int .u64 0, .int .u64 0] 26)
  have K := Lib.hid (And.intro ((((K0).below B1).below B2).below B3) (And.intro (((K1).below B2).below B3) (And.intro ((K2).below B3) (And.intro (K3) (below_then (below_then (below_then B0 B1) B2) B3)))))
  simp only [World.size_alloc, Nat.add_assoc, Nat.reduceAdd] at K
  clear K0 B0 K1 B1 K2 B2 K3 B3
  go_enter Try.func11, Try.ntmps11
  go_wp2_with fail
  refine (R.out _).mono ?_
  rintro e V ⟨rfl, hb⟩
  have K2 := Lib.hid (And.intro (K.out.1.below hb) (And.intro (K.out.2.1.below hb) (And.intro (K.out.2.2.1.below hb) (And.intro (K.out.2.2.2.1.below hb) (below_then K.out.2.2.2.2 hb)))))
  clear hb R K
  go_wp2_with fail
  refine wp_region_class (fun w' => Below V.heap.size V w') (by kernel_rfl) (by kernel_rfl) (Below.refl _ _).drew ?_
  iterate 6
    (refine WQ.yes ?_ (by rfl) (fun w' hC => ?_) ?_
     rotate_left
     · (obtain ⟨x1, x2, x3, x4⟩ := (K2.out.1.below hC).cells; obtain ⟨y1, y2⟩ := (K2.out.2.1.below hC).cells
        go_simp
        first | done | with_reducible rfl | exact ⟨rfl, rfl⟩ | (go_at_call 15; (with_reducible exact quietA (L.out _) hC)) | (go_at_call 30; (with_reducible exact quietI (C.out _) hC)))
     (try simp only [Act.put, List.setIfInBounds_toArray, List.set_cons_zero, List.set_cons_succ]))
  refine WQ.nil ?_
  intro wz hX
  have K4 := Lib.hid (And.intro (K2.out.1.below hX) (And.intro (K2.out.2.1.below hX) (And.intro (K2.out.2.2.1.below hX) (And.intro (K2.out.2.2.2.1.below hX) (below_then K2.out.2.2.2.2 hX)))))
  clear hX K2 L C
  obtain ⟨x1, x2, x3, x4⟩ := K4.out.1.cells
  obtain ⟨y1, y2⟩ := K4.out.2.1.cells
  go_wp2_with fail
  refine (D.out _).mono ?_
  rintro e V2 ⟨rfl, hb⟩
  have L6 := below_allocs V2 (.cells #[.int .u64 s, .int .u64 t] 24)
  have K6 := Lib.hid (And.intro ((K4.out.1.below hb).below L6) (And.intro (UB.new V2 s t 24) (And.intro ((K4.out.2.2.1.below hb).below L6) (And.intro ((K4.out.2.2.2.1.below hb).below L6) (below_then (below_then K4.out.2.2.2.2 hb) L6)))))
  have l0 : w.heap.size + 3 < V2.heap.size := (K4.out.2.2.2.1.below hb).lt
  clear hb K4 L6 D x1 x2 x3 x4 y1 y2
  go_upto_region 6 with fail
  generalize World.alloc V2 _ = V6 at K6 ⊢
  generalize V2.heap.size = at' at K6 l0 ⊢
  have K7 : Hid (SB 26 V6 w.heap.size a b c d ∧ UB 24 V6 at' s t ∧ SB 26 V6 (w.heap.size + 1 + 1) 0 0 0 0 ∧ SB 26 V6 (w.heap.size + 1 + 1 + 1) 0 0 0 0 ∧ Below w.heap.size w V6) := K6
  have n1 : w.heap.size + 1 + 1 ≠ w.heap.size + 1 + 1 + 1 := by omega
  have m1 : w.heap.size ≠ w.heap.size + 1 + 1 := by omega
  have m2 : w.heap.size ≠ w.heap.size + 1 + 1 + 1 := by omega
  have q1 : at' ≠ w.heap.size + 1 + 1 := by omega
  have q2 : at' ≠ w.heap.size + 1 + 1 + 1 := by omega
  have e1 := Nat.le_add_right w.heap.size 2
  have e2 := Nat.le_add_right w.heap.size 3
  have E2 : Hid (w.heap.size ≤ w.heap.size + 1 + 1) := Lib.hid e1
  have E3 : Hid (w.heap.size ≤ w.heap.size + 1 + 1 + 1) := Lib.hid e2
  clear K6 l0 e1 e2
  generalize w.heap.size + 1 + 1 + 1 = c3 at K7 n1 m2 q2 E3 ⊢
  generalize w.heap.size + 1 + 1 = c2 at K7 n1 m1 q1 E2 ⊢
  obtain ⟨x1, x2, x3, x4⟩ := K7.out.1.cells
  obtain ⟨y1, y2⟩ := K7.out.2.1.cells
  obtain ⟨u1, u2, u3, u4⟩ := K7.out.2.2.1.cells
  obtain ⟨v1, v2, v3, v4⟩ := K7.out.2.2.2.1.cells
  obtain ⟨f1, f2, f3, f4⟩ := K7.out.2.2.1.free
  obtain ⟨g1, g2, g3, g4⟩ := K7.out.2.2.2.1.free
  have n2 := n1.symm
  have m3 := m1.symm
  have m4 := m2.symm
  have q3 := q1.symm
  have q4 := q2.symm
  go_cut [6] (fun k wr => k = .int .i64 0 ∧ SB 26 wr c2 a b s t ∧ SB 26 wr c3 s t c d ∧ Below w.heap.size w wr)
  case first =>
    go_region
    all_goals
      go_wp2_with fail
      go_meet
      first
        | with_reducible exact ⟨rfl, SB.drew (SB.far4 (SB.put K7.out.2.2.1) n1 _ _ _ _), SB.drew (SB.put (SB.far4 K7.out.2.2.2.1 n2 _ _ _ _)), Below.drew (below_put4 (below_put4 K7.out.2.2.2.2 E2.out _ _ _ _) E3.out _ _ _ _)⟩
        | with_reducible exact ⟨rfl, SB.drew (SB.put (SB.far4 K7.out.2.2.1 n1 _ _ _ _)), SB.drew (SB.far4 (SB.put K7.out.2.2.2.1) n2 _ _ _ _), Below.drew (below_put4 (below_put4 K7.out.2.2.2.2 E3.out _ _ _ _) E2.out _ _ _ _)⟩
  obtain ⟨rfl, HR, HR2, HB⟩ := hcut
  obtain ⟨r1, r2, r3, r4⟩ := HR.cells
  obtain ⟨s1, s2, s3, s4⟩ := HR2.cells
  clear x1 x2 x3 x4 y1 y2 u1 u2 u3 u4 v1 v2 v3 v4 f1 f2 f3 f4 g1 g2 g3 g4
  go_wp2_with fail
  try simp only [Exit.inBlock, Exit.then, Exit.noGoto]
  refine bodyPost_ret (by simp [results, Try.results11, go_sem, r1, r2, r3, r4, s1, s2, s3, s4]; try rfl) rfl ?_
  exact ⟨rfl, HB⟩
end Go.Proofs.Ytolicfackceomaa
