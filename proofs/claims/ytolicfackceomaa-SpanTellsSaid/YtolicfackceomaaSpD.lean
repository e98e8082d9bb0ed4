/-
  What the calls Right, Len, Has, Meet, Take and Halves of package span (the third part) answer, for all spans and numbers.
-/
import Derived.Test.YtolicfackceomaaSpC
import Derived.Deep.RegionHeld3
import Derived.BigRegion
import Derived.Deep.DeepCutAuto
namespace Go.Proofs.Ytolicfackceomaa
open Go.RowKit
set_option linter.unusedVariables false
set_option maxRecDepth 100000

/-- Behind a region that lays one number. -/
def CutN (W0 : World) (t : TypeId) (h l : Int) (p : Value) (wr : World) : Prop := ∃ b, p = .pointer (some ⟨b, 0, none⟩) ∧ UB t wr b h l ∧ Below W0.heap.size W0 wr
theorem CutN.of {W0 x : World} {t : TypeId} {h l : Int} (hb : Below W0.heap.size W0 x) : CutN W0 t h l (.pointer (some ⟨x.heap.size, 0, none⟩)) (x.alloc (.cells #[.int .u64 h, .int .u64 l] t)) := ⟨_, rfl, UB.new x h l t, hb.alloc hb.size _⟩
theorem CutN.early {W0 x : World} {t : TypeId} {b : Nat} {h l : Int} (hb : Below W0.heap.size W0 x) (le : W0.heap.size ≤ b) (z : UB t x b 0 0) : CutN W0 t h l (.pointer (some ⟨b, 0, none⟩)) ((x.setCell ⟨b, 0, none⟩ (.int .u64 h)).setCell ⟨b, 1, none⟩ (.int .u64 l)) := ⟨_, rfl, UB.put z, below_put2 hb le _ _⟩
set_option maxHeartbeats 4000000 in
theorem halvesNo (a b c d p q : Int) (L : Hid (TU 15 #[.agg #[.int .u64 a, .int .u64 b, .int .u64 c, .int .u64 d]] p q)) (R : Hid (TB 13 #[.agg #[.int .u64 a, .int .u64 b, .int .u64 c, .int .u64 d]] false)) :
    TSS 8 #[.agg #[.int .u64 a, .int .u64 b, .int .u64 c, .int .u64 d]] 0 0 0 0 0 0 0 0 1 := fun w => by
  have K0 := SB.new w a b c d 26
  have B0 := below_allocs w (.cells #[.int .u64 a, .int .u64 b, .int .u64 c, .int .u64 d] 26)
  have K1 := SB.new (w.alloc (.cells #[.int .u64 a, .int .u64 b, .int .u64 c, .int .u64 d] 26)) 0 0 0 0 26
  have B1 := below_allocs (w.alloc (.cells #[.int .u64 a, .int .u64 b, .int .u64 c, .int .u64 d] 26)) (.cells #[.int .u64 0, .int .u64 0, .int .u64 0, .int .u64 0] 26)
  have K2 := SB.new ((w.alloc (.cells #[.int .u64 a, .int .u64 b, .int .u64 c, .int .u64 d] 26)).alloc (.cells #[.int .u64 0, .int .u64 0, .int .u64 0, .int .u64 0] 26)) 0 0 0 0 26
  have B2 := below_allocs ((w.alloc (.cells #[.int .u64 a, .int .u64 b, .int .u64 c, .int .u64 d] 26)).alloc (.cells #[.int .u64 0, .int .u64 0, .int .u64 0, .int .u64 0] 26)) (.cells #[.int .u64 0, .int .u64 0, .int .u64 0, .int .u64 0] 26)
  have K := Lib.hid (And.intro (((K0).below B1).below B2) (And.intro ((K1).below B2) (And.intro (K2) (below_then (below_then B0 B1) B2))))
  simp only [World.size_alloc, Nat.add_assoc, Nat.reduceAdd] at K
  clear K0 B0 K1 B1 K2 B2
  go_enter Try.func8, Try.ntmps8
  go_wp2_with fail
  refine (L.out _).mono ?_
  rintro e V0 ⟨rfl, hb⟩
  have L6 := below_allocs V0 (.cells #[.int .u64 p, .int .u64 q] 24)
  have K1 := Lib.hid (And.intro ((K.out.1.below hb).below L6) (And.intro ((K.out.2.1.below hb).below L6) (And.intro ((K.out.2.2.1.below hb).below L6) (below_then (below_then K.out.2.2.2 hb) L6))))
  obtain ⟨x1, x2, x3, x4⟩ := (K.out.1.below hb).cells
  have l1 : w.heap.size < V0.heap.size := (K.out.1.below hb).lt
  clear hb K L6 L
  go_wp2_with fail
  refine (R.out _).mono ?_
  rintro e V ⟨rfl, hb⟩
  have K2 := Lib.hid (And.intro (K1.out.1.below hb) (And.intro (K1.out.2.1.below hb) (And.intro (K1.out.2.2.1.below hb) (below_then K1.out.2.2.2 hb))))
  clear hb R K1 x1 x2 x3 x4
  obtain ⟨f1, f2, f3, f4⟩ := K2.out.2.1.free
  obtain ⟨g1, g2, g3, g4⟩ := K2.out.2.2.1.free
  obtain ⟨u1, u2, u3, u4⟩ := K2.out.2.1.cells
  obtain ⟨v1, v2, v3, v4⟩ := K2.out.2.2.1.cells
  have n1 : w.heap.size + 1 ≠ w.heap.size + 2 := by omega
  have n2 := n1.symm
  have HR := Lib.hid (SB.far4 (SB.put (p' := 0) (q' := 0) (r' := 0) (s' := 0) K2.out.2.1) n1 (.int .u64 0) (.int .u64 0) (.int .u64 0) (.int .u64 0))
  have HR2 := Lib.hid (SB.put (p' := 0) (q' := 0) (r' := 0) (s' := 0) (SB.far4 K2.out.2.2.1 n2 (.int .u64 0) (.int .u64 0) (.int .u64 0) (.int .u64 0)))
  have HB := Lib.hid (below_put4 (below_put4 K2.out.2.2.2 (Nat.le_add_right w.heap.size 1) (.int .u64 0) (.int .u64 0) (.int .u64 0) (.int .u64 0)) (Nat.le_add_right w.heap.size 2) (.int .u64 0) (.int .u64 0) (.int .u64 0) (.int .u64 0))
  clear K2
  go_wp2_with fail
  generalize World.setCell (World.setCell (World.setCell (World.setCell (World.setCell (World.setCell (World.setCell (World.setCell V _ _) _ _) _ _) _ _) _ _) _ _) _ _) _ _ = V5 at HR HR2 HB ⊢
  obtain ⟨r1, r2, r3, r4⟩ := HR.out.cells
  obtain ⟨s1, s2, s3, s4⟩ := HR2.out.cells
  try simp only [Exit.inBlock, Exit.then, Exit.noGoto]
  refine bodyPost_ret (by simp [results, Try.results8, go_sem, r1, r2, r3, r4, s1, s2, s3, s4]; try rfl) rfl ?_
  exact ⟨rfl, HB.out⟩
/-- Behind the first two calls of Halves. -/
def HvK (W0 w : World) (cn : Nat) (a b c d p q : Int) (V : World) : Prop := SB 26 V w.heap.size a b c d ∧ SB 26 V (w.heap.size + 1) 0 0 0 0 ∧ SB 26 V (w.heap.size + 2) 0 0 0 0 ∧ UB 24 V cn p q ∧ w.heap.size + 2 < cn ∧ Below w.heap.size w V
set_option maxHeartbeats 4000000 in
theorem halvesShort (a b c d p q r : Int) (h : r < 0) (L : Hid (TU 15 #[.agg #[.int .u64 a, .int .u64 b, .int .u64 c, .int .u64 d]] p q)) (R : Hid (TB 13 #[.agg #[.int .u64 a, .int .u64 b, .int .u64 c, .int .u64 d]] true))
    (O : Hid (TU 31 #[.int .u64 2] 0 2)) (C : Hid (TI 30 #[.agg #[.int .u64 p, .int .u64 q], .agg #[.int .u64 0, .int .u64 2]] r)) :
    TSS 8 #[.agg #[.int .u64 a, .int .u64 b, .int .u64 c, .int .u64 d]] 0 0 0 0 0 0 0 0 6 := fun w => by
  have K0 := SB.new w a b c d 26
  have B0 := below_allocs w (.cells #[.int .u64 a, .int .u64 b, .int .u64 c, .int .u64 d] 26)
  have K1 := SB.new (w.alloc (.cells #[.int .u64 a, .int .u64 b, .int .u64 c, .int .u64 d] 26)) 0 0 0 0 26
  have B1 := below_allocs (w.alloc (.cells #[.int .u64 a, .int .u64 b, .int .u64 c, .int .u64 d] 26)) (.cells #[.int .u64 0, .int .u64 0, .int .u64 0, .int .u64 0] 26)
  have K2 := SB.new ((w.alloc (.cells #[.int .u64 a, .int .u64 b, .int .u64 c, .int .u64 d] 26)).alloc (.cells #[.int .u64 0, .int .u64 0, .int .u64 0, .int .u64 0] 26)) 0 0 0 0 26
  have B2 := below_allocs ((w.alloc (.cells #[.int .u64 a, .int .u64 b, .int .u64 c, .int .u64 d] 26)).alloc (.cells #[.int .u64 0, .int .u64 0, .int .u64 0, .int .u64 0] 26)) (.cells #[.int .u64 0, .int .u64 0, .int .u64 0, .int .u64 0] 26)
  have K := Lib.hid (And.intro (((K0).below B1).below B2) (And.intro ((K1).below B2) (And.intro (K2) (below_then (below_then B0 B1) B2))))
  simp only [World.size_alloc, Nat.add_assoc, Nat.reduceAdd] at K
  clear K0 B0 K1 B1 K2 B2
  go_enter Try.func8, Try.ntmps8
  go_wp2_with fail
  refine (L.out _).mono ?_
  rintro e V0 ⟨rfl, hb⟩
  have L6 := below_allocs V0 (.cells #[.int .u64 p, .int .u64 q] 24)
  have K1 := Lib.hid (And.intro ((K.out.1.below hb).below L6) (And.intro ((K.out.2.1.below hb).below L6) (And.intro ((K.out.2.2.1.below hb).below L6) (And.intro (UB.new V0 p q 24) (below_then (below_then K.out.2.2.2 hb) L6)))))
  obtain ⟨x1, x2, x3, x4⟩ := (K.out.1.below hb).cells
  have l1 : w.heap.size < V0.heap.size := (K.out.1.below hb).lt
  have l2 : w.heap.size + 2 < V0.heap.size := (K.out.2.2.1.below hb).lt
  clear hb K L6 L
  go_wp2_with fail
  refine (R.out _).mono ?_
  rintro e V ⟨rfl, hb⟩
  have K2 := Lib.hid (And.intro (K1.out.1.below hb) (And.intro (K1.out.2.1.below hb) (And.intro (K1.out.2.2.1.below hb) (And.intro (K1.out.2.2.2.1.below hb) (below_then K1.out.2.2.2.2 hb)))))
  clear hb R K1 x1 x2 x3 x4
  go_wp2_with fail
  refine wp_region_class (fun w' => Below V.heap.size V w') (by kernel_rfl) (by kernel_rfl) (Below.refl _ _).drew ?_
  iterate 5
    (refine WQ.yes ?_ (by rfl) (fun w' hC => ?_) ?_
     rotate_left
     · (obtain ⟨x1, x2⟩ := (K2.out.2.2.2.1.below hC).cells
        go_simp
        first | done | with_reducible rfl | exact ⟨rfl, rfl⟩ | (go_at_call 31; (with_reducible exact quietA (O.out _) hC)) | (go_at_call 30; (with_reducible exact quietI (C.out _) hC)))
     (try simp only [Act.put, List.setIfInBounds_toArray, List.set_cons_zero, List.set_cons_succ]))
  refine WQ.nil ?_
  intro wz hX
  have K4 := Lib.hid (And.intro (K2.out.1.below hX) (And.intro (K2.out.2.1.below hX) (And.intro (K2.out.2.2.1.below hX) (below_then K2.out.2.2.2.2 hX))))
  clear hX K2 O C l1 l2
  obtain ⟨f1, f2, f3, f4⟩ := K4.out.2.1.free
  obtain ⟨g1, g2, g3, g4⟩ := K4.out.2.2.1.free
  obtain ⟨u1, u2, u3, u4⟩ := K4.out.2.1.cells
  obtain ⟨v1, v2, v3, v4⟩ := K4.out.2.2.1.cells
  have n1 : w.heap.size + 1 ≠ w.heap.size + 2 := by omega
  have n2 := n1.symm
  have HR := Lib.hid (SB.far4 (SB.put (p' := 0) (q' := 0) (r' := 0) (s' := 0) K4.out.2.1) n1 (.int .u64 0) (.int .u64 0) (.int .u64 0) (.int .u64 0))
  have HR2 := Lib.hid (SB.put (p' := 0) (q' := 0) (r' := 0) (s' := 0) (SB.far4 K4.out.2.2.1 n2 (.int .u64 0) (.int .u64 0) (.int .u64 0) (.int .u64 0)))
  have HB := Lib.hid (below_put4 (below_put4 K4.out.2.2.2 (Nat.le_add_right w.heap.size 1) (.int .u64 0) (.int .u64 0) (.int .u64 0) (.int .u64 0)) (Nat.le_add_right w.heap.size 2) (.int .u64 0) (.int .u64 0) (.int .u64 0) (.int .u64 0))
  clear K4
  go_wp2_with fail
  generalize World.setCell (World.setCell (World.setCell (World.setCell (World.setCell (World.setCell (World.setCell (World.setCell wz _ _) _ _) _ _) _ _) _ _) _ _) _ _) _ _ = V5 at HR HR2 HB ⊢
  obtain ⟨r1, r2, r3, r4⟩ := HR.out.cells
  obtain ⟨s1, s2, s3, s4⟩ := HR2.out.cells
  try simp only [Exit.inBlock, Exit.then, Exit.noGoto]
  refine bodyPost_ret (by simp [results, Try.results8, go_sem, r1, r2, r3, r4, s1, s2, s3, s4]; try rfl) rfl ?_
  exact ⟨rfl, HB.out⟩
set_option maxHeartbeats 8000000 in
theorem halvesYes (a b c d p q r h1 h2 u1 u2 p0 p1 p2 p3 q0 q1 q2 q3 k : Int) (o : Bool) (h : ¬ r < 0) (L : Hid (TU 15 #[.agg #[.int .u64 a, .int .u64 b, .int .u64 c, .int .u64 d]] p q)) (R : Hid (TB 13 #[.agg #[.int .u64 a, .int .u64 b, .int .u64 c, .int .u64 d]] true))
    (O : Hid (TU 31 #[.int .u64 2] 0 2)) (C : Hid (TI 30 #[.agg #[.int .u64 p, .int .u64 q], .agg #[.int .u64 0, .int .u64 2]] r))
    (G : Hid (TU 34 #[.agg #[.int .u64 p, .int .u64 q], .int .i64 1] h1 h2)) (D : Hid (TUB 29 #[.agg #[.int .u64 p, .int .u64 q], .agg #[.int .u64 h1, .int .u64 h2]] u1 u2 o))
    (F : Hid (TSS 11 #[.agg #[.int .u64 a, .int .u64 b, .int .u64 c, .int .u64 d], .agg #[.int .u64 u1, .int .u64 u2]] p0 p1 p2 p3 q0 q1 q2 q3 k)) :
    TSS 8 #[.agg #[.int .u64 a, .int .u64 b, .int .u64 c, .int .u64 d]] p0 p1 p2 p3 q0 q1 q2 q3 k := fun w => by
  have K0 := SB.new w a b c d 26
  have B0 := below_allocs w (.cells #[.int .u64 a, .int .u64 b, .int .u64 c, .int .u64 d] 26)
  have K1 := SB.new (w.alloc (.cells #[.int .u64 a, .int .u64 b, .int .u64 c, .int .u64 d] 26)) 0 0 0 0 26
  have B1 := below_allocs (w.alloc (.cells #[.int .u64 a, .int .u64 b, .int .u64 c, .int .u64 d] 26)) (.cells #[.int .u64 0, .int .u64 0, .int .u64 0, .int .u64 0] 26)
  have K2 := SB.new ((w.alloc (.cells #[.int .u64 a, .int .u64 b, .int .u64 c, .int .u64 d] 26)).alloc (.cells #[.int .u64 0, .int .u64 0, .int .u64 0, .int .u64 0] 26)) 0 0 0 0 26
  have B2 := below_allocs ((w.alloc (.cells #[.int .u64 a, .int .u64 b, .int .u64 c, .int .u64 d] 26)).alloc (.cells #[.int .u64 0, .int .u64 0, .int .u64 0, .int .u64 0] 26)) (.cells #[.int .u64 0, .int .u64 0, .int .u64 0, .int .u64 0] 26)
  have K := Lib.hid (And.intro (((K0).below B1).below B2) (And.intro ((K1).below B2) (And.intro (K2) (below_then (below_then B0 B1) B2))))
  simp only [World.size_alloc, Nat.add_assoc, Nat.reduceAdd] at K
  clear K0 B0 K1 B1 K2 B2
  go_enter Try.func8, Try.ntmps8
  go_wp2_with fail
  refine (L.out _).mono ?_
  rintro e V0 ⟨rfl, hb⟩
  have L6 := below_allocs V0 (.cells #[.int .u64 p, .int .u64 q] 24)
  have K1 := Lib.hid (And.intro ((K.out.1.below hb).below L6) (And.intro ((K.out.2.1.below hb).below L6) (And.intro ((K.out.2.2.1.below hb).below L6) (And.intro (UB.new V0 p q 24) (below_then (below_then K.out.2.2.2 hb) L6)))))
  obtain ⟨x1, x2, x3, x4⟩ := (K.out.1.below hb).cells
  have l1 : w.heap.size < V0.heap.size := (K.out.1.below hb).lt
  have l2 : w.heap.size + 2 < V0.heap.size := (K.out.2.2.1.below hb).lt
  clear hb K L6 L
  go_wp2_with fail
  refine (R.out _).mono ?_
  rintro e V ⟨rfl, hb⟩
  have K2 := Lib.hid (And.intro (K1.out.1.below hb) (And.intro (K1.out.2.1.below hb) (And.intro (K1.out.2.2.1.below hb) (And.intro (K1.out.2.2.2.1.below hb) (below_then K1.out.2.2.2.2 hb)))))
  clear hb R K1 x1 x2 x3 x4
  go_wp2_with fail
  refine wp_region_class (fun w' => Below V.heap.size V w') (by kernel_rfl) (by kernel_rfl) (Below.refl _ _).drew ?_
  iterate 5
    (refine WQ.yes ?_ (by rfl) (fun w' hC => ?_) ?_
     rotate_left
     · (obtain ⟨x1, x2⟩ := (K2.out.2.2.2.1.below hC).cells
        go_simp
        first | done | with_reducible rfl | exact ⟨rfl, rfl⟩ | (go_at_call 31; (with_reducible exact quietA (O.out _) hC)) | (go_at_call 30; (with_reducible exact quietI (C.out _) hC)))
     (try simp only [Act.put, List.setIfInBounds_toArray, List.set_cons_zero, List.set_cons_succ]))
  refine WQ.nil ?_
  intro wz hX
  have K4 := Lib.hid (And.intro (K2.out.1.below hX) (And.intro (K2.out.2.1.below hX) (And.intro (K2.out.2.2.1.below hX) (And.intro (K2.out.2.2.2.1.below hX) (below_then K2.out.2.2.2.2 hX)))))
  clear hX K2 O C l1
  go_upto_region 6 with fail
  generalize V0.heap.size = cn at K4 l2 ⊢
  go_cut [6] (CutN wz 24 u1 u2)
  case first =>
    have hX : Below wz.heap.size wz wz := Below.refl _ _
    obtain ⟨f1, f2⟩ := K4.out.2.2.2.1.cells
    have l1 : cn < wz.heap.size := K4.out.2.2.2.1.lt
    go_region_held3 (fun w' => w'.cell? ⟨cn, 0, none⟩ = some (.int .u64 p) ∧ w'.cell? ⟨cn, 1, none⟩ = some (.int .u64 q)) (go_keep) (first
      | (go_at_call 34; (with_reducible refine (G.out _).mono ?_); rintro e x1 ⟨rfl, hb⟩; (first | (have za : UB 24 x1 wz.heap.size 0 0 := UB.below (UB.new (World.drew wz) 0 0 24) hb; obtain ⟨za0, za1⟩ := UB.cells za; obtain ⟨za2, za3⟩ := UB.free za; have za4 := UB.lt za) | skip); replace hX := below_then (show Below wz.heap.size wz _ by first | exact hX | exact hX.drew | exact hX.alloc hX.size _ | exact hX.drew.alloc hX.drew.size _) hb; clear hb; have sx1 : wz.heap.size ≤ x1.heap.size := hX.size; have d3 : cn ≠ wz.heap.size := Nat.ne_of_lt l1; have d4 : wz.heap.size ≠ cn := Nat.ne_of_gt l1; clear f1 f2 l1; obtain ⟨f1, f2⟩ := (K4.out.2.2.2.1.below hX).cells; have l1 : cn < x1.heap.size := (K4.out.2.2.2.1.below hX).lt)
      | (go_at_call 29; (with_reducible refine (D.out _).mono ?_); rintro e x2 ⟨rfl, hb⟩; (first | (have zc : UB 24 x2 x1.heap.size 0 0 := UB.below (UB.new x1 0 0 24) hb; obtain ⟨zc0, zc1⟩ := UB.cells zc; obtain ⟨zc2, zc3⟩ := UB.free zc; have zc4 := UB.lt zc) | skip); (first | (replace za := UB.below za (below_then (by first | exact Below.refl _ _ | exact below_allocs _ _) hb); obtain ⟨ya0, ya1⟩ := UB.cells za; obtain ⟨ya2, ya3⟩ := UB.free za; have ya4 := UB.lt za) | skip); replace hX := below_then (show Below wz.heap.size wz _ by first | exact hX | exact hX.drew | exact hX.alloc hX.size _ | exact hX.drew.alloc hX.drew.size _) hb; clear hb; have d7 : cn ≠ x1.heap.size := Nat.ne_of_lt l1; have d8 : x1.heap.size ≠ cn := Nat.ne_of_gt l1; clear f1 f2 l1; obtain ⟨f1, f2⟩ := (K4.out.2.2.2.1.below hX).cells; have l1 : cn < x2.heap.size := (K4.out.2.2.2.1.below hX).lt; have d10 : cn ≠ x2.heap.size := Nat.ne_of_lt l1))
    all_goals
      go_wp2_with fail
      go_meet
      first
        | with_reducible exact CutN.of hX
        | with_reducible exact CutN.early hX (Nat.le_refl _) za
        | with_reducible exact CutN.early hX sx1 zc
  obtain ⟨bu, rfl, N, hX⟩ := hcut
  have K5 := Lib.hid (And.intro (K4.out.1.below hX) (And.intro (K4.out.2.1.below hX) (And.intro (K4.out.2.2.1.below hX) (And.intro (K4.out.2.2.2.1.below hX) (below_then K4.out.2.2.2.2 hX)))))
  obtain ⟨n1, n2⟩ := N.cells
  obtain ⟨x1, x2, x3, x4⟩ := K5.out.1.cells
  clear K4 hX N G D
  go_wp2_with fail
  refine (F.out _).mono ?_
  rintro e V7 ⟨rfl, hb⟩
  have K6 := Lib.hid (And.intro (K5.out.1.below hb) (And.intro (K5.out.2.1.below hb) (And.intro (K5.out.2.2.1.below hb) (And.intro (K5.out.2.2.2.1.below hb) (below_then K5.out.2.2.2.2 hb)))))
  have K7 : Hid (SB 26 V7 (w.heap.size + 1) 0 0 0 0 ∧ SB 26 V7 (w.heap.size + 1 + 1) 0 0 0 0 ∧ Below w.heap.size w V7) := Lib.hid (And.intro K6.out.2.1 (And.intro K6.out.2.2.1 K6.out.2.2.2.2))
  clear hb K5 K6 F x1 x2 x3 x4 n1 n2 l2
  obtain ⟨f1, f2, f3, f4⟩ := K7.out.1.free
  obtain ⟨g1, g2, g3, g4⟩ := K7.out.2.1.free
  obtain ⟨u1, u2, u3, u4⟩ := K7.out.1.cells
  obtain ⟨v1, v2, v3, v4⟩ := K7.out.2.1.cells
  have n1 : w.heap.size + 1 ≠ w.heap.size + 1 + 1 := by omega
  have n2 := n1.symm
  have HR := Lib.hid (SB.far4 (SB.put (p' := p0) (q' := p1) (r' := p2) (s' := p3) K7.out.1) n1 (.int .u64 q0) (.int .u64 q1) (.int .u64 q2) (.int .u64 q3))
  have HR2 := Lib.hid (SB.put (p' := q0) (q' := q1) (r' := q2) (s' := q3) (SB.far4 K7.out.2.1 n2 (.int .u64 p0) (.int .u64 p1) (.int .u64 p2) (.int .u64 p3)))
  have HB := Lib.hid (below_put4 (below_put4 K7.out.2.2 (Nat.le_add_right w.heap.size 1) (.int .u64 p0) (.int .u64 p1) (.int .u64 p2) (.int .u64 p3)) (Nat.le_add_right w.heap.size 2) (.int .u64 q0) (.int .u64 q1) (.int .u64 q2) (.int .u64 q3))
  clear K7
  go_wp2_with fail
  generalize World.setCell (World.setCell (World.setCell (World.setCell (World.setCell (World.setCell (World.setCell (World.setCell V7 _ _) _ _) _ _) _ _) _ _) _ _) _ _) _ _ = V9 at HR HR2 HB ⊢
  obtain ⟨r1, r2, r3, r4⟩ := HR.out.cells
  obtain ⟨s1, s2, s3, s4⟩ := HR2.out.cells
  try simp only [Exit.inBlock, Exit.then, Exit.noGoto]
  refine bodyPost_ret (by simp [results, Try.results8, go_sem, r1, r2, r3, r4, s1, s2, s3, s4]; try rfl) rfl ?_
  exact ⟨rfl, HB.out⟩
end Go.Proofs.Ytolicfackceomaa
