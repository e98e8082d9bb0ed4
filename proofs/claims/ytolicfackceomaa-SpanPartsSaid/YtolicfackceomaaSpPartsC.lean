/-
  The walk of SpanParts: a short one, and its first places.
-/
import Derived.Test.YtolicfackceomaaSpD
import Derived.Test.YtolicfackceomaaSpE
import Derived.LoopTactic
import Derived.Deep.RegionHeld3
namespace Go.Proofs.Ytolicfackceomaa
open Go.RowKit
set_option linter.unusedVariables false
set_option maxRecDepth 100000

/-- What the calls on this way answer. -/
structure PartscC (s0 s1 s2 s3 m l k j ls0 ls1 r3 v0 v1 : Int) ( hc hd : Bool) : Prop where
  AW : ∀ w, Calls Try.prog 7 #[] w (fun e w' => e = .returned (.bool true) ∧ Below w.heap.size w w')
  HV : TSS 8 #[.agg #[.int .u64 s0, .int .u64 s1, .int .u64 s2, .int .u64 s3]] 0 0 0 0 0 0 0 0 6
  RI : TB 13 #[.agg #[.int .u64 s0, .int .u64 s1, .int .u64 s2, .int .u64 s3]] true
  LS : TU 15 #[.agg #[.int .u64 s0, .int .u64 s1, .int .u64 s2, .int .u64 s3]] ls0 ls1
  O1 : TU 31 #[.int .u64 1] 0 1
  C1 : TI 30 #[.agg #[.int .u64 ls0, .int .u64 ls1], .agg #[.int .u64 0, .int .u64 1]] r3
  TK : TSS 11 #[.agg #[.int .u64 s0, .int .u64 s1, .int .u64 s2, .int .u64 s3], .agg #[.int .u64 k, .int .u64 j]] s0 s1 v0 v1 v0 v1 s2 s3 0
  LC : TU 15 #[.agg #[.int .u64 s0, .int .u64 s1, .int .u64 v0, .int .u64 v1]] k j
  MC : TB 19 #[.agg #[.int .u64 s0, .int .u64 s1, .int .u64 v0, .int .u64 v1], .agg #[.int .u64 v0, .int .u64 v1, .int .u64 s2, .int .u64 s3]] false
  HC : TB 17 #[.agg #[.int .u64 s0, .int .u64 s1, .int .u64 v0, .int .u64 v1], .agg #[.int .u64 m, .int .u64 l]] hc
  HD : TB 17 #[.agg #[.int .u64 v0, .int .u64 v1, .int .u64 s2, .int .u64 s3], .agg #[.int .u64 m, .int .u64 l]] hd
  HT : TB 17 #[.agg #[.int .u64 s0, .int .u64 s1, .int .u64 s2, .int .u64 s3], .agg #[.int .u64 m, .int .u64 l]] (hc != hd)
set_option maxHeartbeats 40000000 in
theorem partsC (s0 s1 s2 s3 m l k j ls0 ls1 r3 v0 v1 : Int) ( hc hd : Bool) (h3 : r3 ≤ 0) (w : World) (H : Hid (PartscC s0 s1 s2 s3 m l k j ls0 ls1 r3 v0 v1  hc hd)) :
    Calls Try.prog 4 #[.agg #[.int .u64 s0, .int .u64 s1, .int .u64 s2, .int .u64 s3], .agg #[.int .u64 m, .int .u64 l], .agg #[.int .u64 k, .int .u64 j]] w (fun e w' => e = .returned (.bool true) ∧ Below w.heap.size w w') := by
  have K0 := SB.new w s0 s1 s2 s3 26
  have B0 := below_allocs w (.cells #[.int .u64 s0, .int .u64 s1, .int .u64 s2, .int .u64 s3] 26)
  have K1 := UB.new (w.alloc (.cells #[.int .u64 s0, .int .u64 s1, .int .u64 s2, .int .u64 s3] 26)) m l 24
  have B1 := below_allocs (w.alloc (.cells #[.int .u64 s0, .int .u64 s1, .int .u64 s2, .int .u64 s3] 26)) (.cells #[.int .u64 m, .int .u64 l] 24)
  have K2 := UB.new ((w.alloc (.cells #[.int .u64 s0, .int .u64 s1, .int .u64 s2, .int .u64 s3] 26)).alloc (.cells #[.int .u64 m, .int .u64 l] 24)) k j 24
  have B2 := below_allocs ((w.alloc (.cells #[.int .u64 s0, .int .u64 s1, .int .u64 s2, .int .u64 s3] 26)).alloc (.cells #[.int .u64 m, .int .u64 l] 24)) (.cells #[.int .u64 k, .int .u64 j] 24)
  have K := Lib.hid (And.intro (((K0).below B1).below B2) (And.intro ((K1).below B2) (And.intro (K2) (below_then (below_then B0 B1) B2))))
  simp only [World.size_alloc] at K
  clear K0 B0 K1 B1 K2 B2
  obtain ⟨x0, x1, x2, x3⟩ := (K.out.1).cells
  obtain ⟨z0, z1⟩ := (K.out.2.1).cells
  obtain ⟨o0, o1⟩ := (K.out.2.2.1).cells
  go_enter Try.func4, Try.ntmps4
  go_wp2_with fail
  refine (H.out.AW _).mono ?_
  rintro er V1 ⟨rfl, hb⟩
  clear x0 x1 x2 x3 z0 z1 o0 o1
  replace K := Lib.hid (And.intro ((K.out.1).below hb) (And.intro ((K.out.2.1).below hb) (And.intro ((K.out.2.2.1).below hb) (below_then (K.out.2.2.2) hb))))
  clear hb
  obtain ⟨x0, x1, x2, x3⟩ := (K.out.1).cells
  obtain ⟨z0, z1⟩ := (K.out.2.1).cells
  obtain ⟨o0, o1⟩ := (K.out.2.2.1).cells
  go_wp2_with fail
  refine (H.out.HV _).mono ?_
  rintro er V2 ⟨rfl, hb⟩
  clear x0 x1 x2 x3 z0 z1 o0 o1
  replace K := Lib.hid (And.intro ((K.out.1).below hb) (And.intro ((K.out.2.1).below hb) (And.intro ((K.out.2.2.1).below hb) (below_then (K.out.2.2.2) hb))))
  clear hb
  obtain ⟨x0, x1, x2, x3⟩ := (K.out.1).cells
  obtain ⟨z0, z1⟩ := (K.out.2.1).cells
  obtain ⟨o0, o1⟩ := (K.out.2.2.1).cells
  go_upto_region 4 with fail
  clear x0 x1 x2 x3 z0 z1 o0 o1
  have L1 := below_allocs V2 (.cells #[.int .u64 0, .int .u64 0, .int .u64 0, .int .u64 0] 26)
  have L2 := below_allocs (V2.alloc (.cells #[.int .u64 0, .int .u64 0, .int .u64 0, .int .u64 0] 26)) (.cells #[.int .u64 0, .int .u64 0, .int .u64 0, .int .u64 0] 26)
  have N1 := (SB.new V2 0 0 0 0 26).below L2
  have N2 := SB.new (V2.alloc (.cells #[.int .u64 0, .int .u64 0, .int .u64 0, .int .u64 0] 26)) 0 0 0 0 26
  simp only [World.size_alloc] at N2
  have K9 := Lib.hid (And.intro ((K.out.1).below L1) (And.intro ((K.out.2.1).below L1) (And.intro ((K.out.2.2.1).below L1) (below_then (K.out.2.2.2) L1))))
  replace K9 := Lib.hid (And.intro ((K9.out.1).below L2) (And.intro ((K9.out.2.1).below L2) (And.intro ((K9.out.2.2.1).below L2) (below_then (K9.out.2.2.2) L2))))
  replace K := Lib.hid (And.intro N1 (And.intro N2 K9.out))
  clear K9 L1 L2 N1 N2
  generalize (V2.alloc _).alloc _ = V3 at K ⊢
  generalize V2.heap.size + 1 = yB at K ⊢
  generalize V2.heap.size = yA at K ⊢
  have h3' : ¬ 0 < r3 := by omega
  have h3b : decide (0 < r3) = false := decide_eq_false h3'
  obtain ⟨a0', a1', a2', a3'⟩ := (K.out.1).cells
  obtain ⟨b0', b1', b2', b3'⟩ := (K.out.2.1).cells
  obtain ⟨x0, x1, x2, x3⟩ := (K.out.2.2.1).cells
  obtain ⟨z0, z1⟩ := (K.out.2.2.2.1).cells
  obtain ⟨o0, o1⟩ := (K.out.2.2.2.2.1).cells
  go_wp2_with fail
  refine (H.out.RI _).mono ?_
  rintro er V4 ⟨rfl, hb⟩
  clear a0' a1' a2' a3' b0' b1' b2' b3' x0 x1 x2 x3 z0 z1 o0 o1
  replace K := Lib.hid (And.intro ((K.out.1).below hb) (And.intro ((K.out.2.1).below hb) (And.intro ((K.out.2.2.1).below hb) (And.intro ((K.out.2.2.2.1).below hb) (And.intro ((K.out.2.2.2.2.1).below hb) (below_then (K.out.2.2.2.2.2) hb))))))
  clear hb
  obtain ⟨a0', a1', a2', a3'⟩ := (K.out.1).cells
  obtain ⟨b0', b1', b2', b3'⟩ := (K.out.2.1).cells
  obtain ⟨x0, x1, x2, x3⟩ := (K.out.2.2.1).cells
  obtain ⟨z0, z1⟩ := (K.out.2.2.2.1).cells
  obtain ⟨o0, o1⟩ := (K.out.2.2.2.2.1).cells
  go_wp2_with fail
  refine (H.out.LS _).mono ?_
  rintro er V5 ⟨rfl, hb⟩
  clear a0' a1' a2' a3' b0' b1' b2' b3' x0 x1 x2 x3 z0 z1 o0 o1
  replace K := Lib.hid (And.intro ((K.out.1).below hb) (And.intro ((K.out.2.1).below hb) (And.intro ((K.out.2.2.1).below hb) (And.intro ((K.out.2.2.2.1).below hb) (And.intro ((K.out.2.2.2.2.1).below hb) (below_then (K.out.2.2.2.2.2) hb))))))
  clear hb
  obtain ⟨a0', a1', a2', a3'⟩ := (K.out.1).cells
  obtain ⟨b0', b1', b2', b3'⟩ := (K.out.2.1).cells
  obtain ⟨x0, x1, x2, x3⟩ := (K.out.2.2.1).cells
  obtain ⟨z0, z1⟩ := (K.out.2.2.2.1).cells
  obtain ⟨o0, o1⟩ := (K.out.2.2.2.2.1).cells
  go_wp2_with fail
  refine (H.out.O1 _).mono ?_
  rintro er V6 ⟨rfl, hb⟩
  clear a0' a1' a2' a3' b0' b1' b2' b3' x0 x1 x2 x3 z0 z1 o0 o1
  replace K := Lib.hid (And.intro ((K.out.1).below hb) (And.intro ((K.out.2.1).below hb) (And.intro ((K.out.2.2.1).below hb) (And.intro ((K.out.2.2.2.1).below hb) (And.intro ((K.out.2.2.2.2.1).below hb) (below_then (K.out.2.2.2.2.2) hb))))))
  clear hb
  obtain ⟨a0', a1', a2', a3'⟩ := (K.out.1).cells
  obtain ⟨b0', b1', b2', b3'⟩ := (K.out.2.1).cells
  obtain ⟨x0, x1, x2, x3⟩ := (K.out.2.2.1).cells
  obtain ⟨z0, z1⟩ := (K.out.2.2.2.1).cells
  obtain ⟨o0, o1⟩ := (K.out.2.2.2.2.1).cells
  go_wp2_with fail
  refine (H.out.C1 _).mono ?_
  rintro er V7 ⟨rfl, hb⟩
  clear a0' a1' a2' a3' b0' b1' b2' b3' x0 x1 x2 x3 z0 z1 o0 o1
  replace K := Lib.hid (And.intro ((K.out.1).below hb) (And.intro ((K.out.2.1).below hb) (And.intro ((K.out.2.2.1).below hb) (And.intro ((K.out.2.2.2.1).below hb) (And.intro ((K.out.2.2.2.2.1).below hb) (below_then (K.out.2.2.2.2.2) hb))))))
  clear hb
  obtain ⟨a0', a1', a2', a3'⟩ := (K.out.1).cells
  obtain ⟨b0', b1', b2', b3'⟩ := (K.out.2.1).cells
  obtain ⟨x0, x1, x2, x3⟩ := (K.out.2.2.1).cells
  obtain ⟨z0, z1⟩ := (K.out.2.2.2.1).cells
  obtain ⟨o0, o1⟩ := (K.out.2.2.2.2.1).cells
  go_wp2_with fail
  refine (H.out.TK _).mono ?_
  rintro er V8 ⟨rfl, hb⟩
  clear a0' a1' a2' a3' b0' b1' b2' b3' x0 x1 x2 x3 z0 z1 o0 o1
  replace K := Lib.hid (And.intro ((K.out.1).below hb) (And.intro ((K.out.2.1).below hb) (And.intro ((K.out.2.2.1).below hb) (And.intro ((K.out.2.2.2.1).below hb) (And.intro ((K.out.2.2.2.2.1).below hb) (below_then (K.out.2.2.2.2.2) hb))))))
  clear hb
  obtain ⟨a0', a1', a2', a3'⟩ := (K.out.1).cells
  obtain ⟨b0', b1', b2', b3'⟩ := (K.out.2.1).cells
  obtain ⟨x0, x1, x2, x3⟩ := (K.out.2.2.1).cells
  obtain ⟨z0, z1⟩ := (K.out.2.2.2.1).cells
  obtain ⟨o0, o1⟩ := (K.out.2.2.2.2.1).cells
  go_upto_region 11 with fail
  clear a0' a1' a2' a3' b0' b1' b2' b3' x0 x1 x2 x3 z0 z1 o0 o1
  have L1 := below_allocs V8 (.cells #[.int .u64 s0, .int .u64 s1, .int .u64 v0, .int .u64 v1] 26)
  have L2 := below_allocs (V8.alloc (.cells #[.int .u64 s0, .int .u64 s1, .int .u64 v0, .int .u64 v1] 26)) (.cells #[.int .u64 v0, .int .u64 v1, .int .u64 s2, .int .u64 s3] 26)
  have N1 := (SB.new V8 s0 s1 v0 v1 26).below L2
  have N2 := SB.new (V8.alloc (.cells #[.int .u64 s0, .int .u64 s1, .int .u64 v0, .int .u64 v1] 26)) v0 v1 s2 s3 26
  simp only [World.size_alloc] at N2
  have K9 := Lib.hid (And.intro ((K.out.1).below L1) (And.intro ((K.out.2.1).below L1) (And.intro ((K.out.2.2.1).below L1) (And.intro ((K.out.2.2.2.1).below L1) (And.intro ((K.out.2.2.2.2.1).below L1) (below_then (K.out.2.2.2.2.2) L1))))))
  replace K9 := Lib.hid (And.intro ((K9.out.1).below L2) (And.intro ((K9.out.2.1).below L2) (And.intro ((K9.out.2.2.1).below L2) (And.intro ((K9.out.2.2.2.1).below L2) (And.intro ((K9.out.2.2.2.2.1).below L2) (below_then (K9.out.2.2.2.2.2) L2))))))
  replace K := Lib.hid (And.intro N1 (And.intro N2 K9.out))
  clear K9 L1 L2 N1 N2
  generalize (V8.alloc _).alloc _ = V9 at K ⊢
  generalize V8.heap.size + 1 = yD at K ⊢
  generalize V8.heap.size = yC at K ⊢
  obtain ⟨c0', c1', c2', c3'⟩ := (K.out.1).cells
  obtain ⟨d0', d1', d2', d3'⟩ := (K.out.2.1).cells
  obtain ⟨a0', a1', a2', a3'⟩ := (K.out.2.2.1).cells
  obtain ⟨b0', b1', b2', b3'⟩ := (K.out.2.2.2.1).cells
  obtain ⟨x0, x1, x2, x3⟩ := (K.out.2.2.2.2.1).cells
  obtain ⟨z0, z1⟩ := (K.out.2.2.2.2.2.1).cells
  obtain ⟨o0, o1⟩ := (K.out.2.2.2.2.2.2.1).cells
  go_wp2_with fail
  clear c0' c1' c2' c3' d0' d1' d2' d3' a0' a1' a2' a3' b0' b1' b2' b3' x0 x1 x2 x3 z0 z1 o0 o1
  refine wp_region_class (fun w' => Below V9.heap.size V9 w') (by kernel_rfl) (by kernel_rfl) (Below.refl _ _).drew ?_
  try dsimp only [List.append]
  iterate 45
    (first
      | refine WQ.no (by rfl) ?_
      | (refine WQ.yes ?_ (by rfl) (fun w' hC => ?_) ?_
         rotate_left
         · (obtain ⟨c0', c1', c2', c3'⟩ := (K.out.1.below hC).cells; obtain ⟨d0', d1', d2', d3'⟩ := (K.out.2.1.below hC).cells; obtain ⟨a0', a1', a2', a3'⟩ := (K.out.2.2.1.below hC).cells; obtain ⟨b0', b1', b2', b3'⟩ := (K.out.2.2.2.1.below hC).cells; obtain ⟨x0, x1, x2, x3⟩ := (K.out.2.2.2.2.1.below hC).cells; obtain ⟨z0, z1⟩ := (K.out.2.2.2.2.2.1.below hC).cells; obtain ⟨o0, o1⟩ := (K.out.2.2.2.2.2.2.1.below hC).cells
            go_simp
            first | done | with_reducible rfl | exact ⟨rfl, rfl⟩ | (go_at_call 15; (with_reducible exact quietA (H.out.LC _) hC)) | (go_at_call 19; (with_reducible exact quietB (H.out.MC _) hC)) | (go_at_call 17; (with_reducible exact quietB (H.out.HC _) hC)) | (go_at_call 17; (with_reducible exact quietB (H.out.HD _) hC)) | (go_at_call 17; (with_reducible exact quietB (H.out.HT _) hC))))
     (try simp only [Act.put, List.setIfInBounds_toArray, List.set_cons_zero, List.set_cons_succ]))
  refine WQ.nil ?_
  intro wz9 hX
  replace K := Lib.hid (And.intro ((K.out.1).below hX) (And.intro ((K.out.2.1).below hX) (And.intro ((K.out.2.2.1).below hX) (And.intro ((K.out.2.2.2.1).below hX) (And.intro ((K.out.2.2.2.2.1).below hX) (And.intro ((K.out.2.2.2.2.2.1).below hX) (And.intro ((K.out.2.2.2.2.2.2.1).below hX) (below_then (K.out.2.2.2.2.2.2.2) hX))))))))
  clear hX
  obtain ⟨c0', c1', c2', c3'⟩ := (K.out.1).cells
  obtain ⟨d0', d1', d2', d3'⟩ := (K.out.2.1).cells
  obtain ⟨a0', a1', a2', a3'⟩ := (K.out.2.2.1).cells
  obtain ⟨b0', b1', b2', b3'⟩ := (K.out.2.2.2.1).cells
  obtain ⟨x0, x1, x2, x3⟩ := (K.out.2.2.2.2.1).cells
  obtain ⟨z0, z1⟩ := (K.out.2.2.2.2.2.1).cells
  obtain ⟨o0, o1⟩ := (K.out.2.2.2.2.2.2.1).cells
  go_wp2_with fail
  go_ret
  exact ⟨by cases hc <;> cases hd <;> rfl, K.out.2.2.2.2.2.2.2⟩
end Go.Proofs.Ytolicfackceomaa
