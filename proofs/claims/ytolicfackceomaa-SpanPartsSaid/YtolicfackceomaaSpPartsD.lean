/-
  The walk of SpanParts: halves, and too many places.
-/
import Derived.Test.YtolicfackceomaaSpD
import Derived.Test.YtolicfackceomaaSpE
import Derived.LoopTactic
import Derived.Deep.RegionHeld3
namespace Go.Proofs.Ytolicfackceomaa
open Go.RowKit
set_option linter.unusedVariables false
set_option maxRecDepth 100000

/-- What the calls on this way answer. -/
structure PartsdC (s0 s1 s2 s3 m l k j u0 u1 la0 la1 lb0 lb1 d0 d1 r3 ls0 ls1 r4 : Int) (ha hb : Bool) : Prop where
  AW : ∀ w, Calls Try.prog 7 #[] w (fun e w' => e = .returned (.bool true) ∧ Below w.heap.size w w')
  HV : TSS 8 #[.agg #[.int .u64 s0, .int .u64 s1, .int .u64 s2, .int .u64 s3]] s0 s1 u0 u1 u0 u1 s2 s3 0
  LA : TU 15 #[.agg #[.int .u64 s0, .int .u64 s1, .int .u64 u0, .int .u64 u1]] la0 la1
  LB : TU 15 #[.agg #[.int .u64 u0, .int .u64 u1, .int .u64 s2, .int .u64 s3]] lb0 lb1
  SU : TUB 29 #[.agg #[.int .u64 la0, .int .u64 la1], .agg #[.int .u64 lb0, .int .u64 lb1]] d0 d1 false
  O1 : TU 31 #[.int .u64 1] 0 1
  C1 : TI 30 #[.agg #[.int .u64 d0, .int .u64 d1], .agg #[.int .u64 0, .int .u64 1]] r3
  ME : TB 19 #[.agg #[.int .u64 s0, .int .u64 s1, .int .u64 u0, .int .u64 u1], .agg #[.int .u64 u0, .int .u64 u1, .int .u64 s2, .int .u64 s3]] false
  HS : TB 17 #[.agg #[.int .u64 s0, .int .u64 s1, .int .u64 s2, .int .u64 s3], .agg #[.int .u64 m, .int .u64 l]] (ha != hb)
  HA : TB 17 #[.agg #[.int .u64 s0, .int .u64 s1, .int .u64 u0, .int .u64 u1], .agg #[.int .u64 m, .int .u64 l]] ha
  HB : TB 17 #[.agg #[.int .u64 u0, .int .u64 u1, .int .u64 s2, .int .u64 s3], .agg #[.int .u64 m, .int .u64 l]] hb
  TK : TSS 11 #[.agg #[.int .u64 s0, .int .u64 s1, .int .u64 s2, .int .u64 s3], .agg #[.int .u64 k, .int .u64 j]] 0 0 0 0 0 0 0 0 7
  RI : TB 13 #[.agg #[.int .u64 s0, .int .u64 s1, .int .u64 s2, .int .u64 s3]] true
  LS : TU 15 #[.agg #[.int .u64 s0, .int .u64 s1, .int .u64 s2, .int .u64 s3]] ls0 ls1
  C2 : TI 30 #[.agg #[.int .u64 ls0, .int .u64 ls1], .agg #[.int .u64 k, .int .u64 j]] r4
set_option maxHeartbeats 40000000 in
theorem partsD (s0 s1 s2 s3 m l k j u0 u1 la0 la1 lb0 lb1 d0 d1 r3 ls0 ls1 r4 : Int) (ha hb : Bool) (h3 : r3 ≤ 0) (h4 : r4 < 0) (w : World) (H : Hid (PartsdC s0 s1 s2 s3 m l k j u0 u1 la0 la1 lb0 lb1 d0 d1 r3 ls0 ls1 r4 ha hb)) :
    Calls Try.prog 4 #[.agg #[.int .u64 s0, .int .u64 s1, .int .u64 s2, .int .u64 s3], .agg #[.int .u64 m, .int .u64 l], .agg #[.int .u64 k, .int .u64 j]] w (fun e w' => e = .returned (.bool true) ∧ Below w.heap.size w w') := by
  have K0 := SB.new w s0 s1 s2 s3 26
  have B0 := below_allocs w (.cells #[.int .u64 s0, .int .u64 s1, .int .u64 s2, .int .u64 s3] 26)
  have K1 := UB.new (w.alloc (.cells #[.int .u64 s0, .int .u64 s1, .int .u64 s2, .int .u64 s3] 26)) m l 24
  have B1 := below_allocs (w.alloc (.cells #[.int .u64 s0, .int .u64 s1, .int .u64 s2, .int .u64 s3] 26)) (.cells #[.int .u64 m, .int .u64 l] 24)
  have K2 := UB.new ((w.alloc (.cells #[.int .u64 s0, .int .u64 s1, .int .u64 s2, .int .u64 s3] 26)).alloc (.cells #[.int .u64 m, .int .u64 l] 24)) k j 24
  have B2 := below_allocs ((w.alloc (.cells #[.int .u64 s0, .int .u64 s1, .int .u64 s2, .int .u64 s3] 26)).alloc (.cells #[.int .u64 m, .int .u64 l] 24)) (.cells #[.int .u64 k, .int .u64 j] 24)
  have K := Lib.hid (And.intro (((K0).below B1).below B2) (And.intro ((K1).below B2) (And.intro (K2) (below_then (below_then B0 B1) B2))))
  simp only [World.size_alloc] at K
  clear K0 B0 K1 B1 K2 B2
  obtain ⟨x0, x1, x2, x3⟩ := (K.out.1).cells
  obtain ⟨z0, z1⟩ := (K.out.2.1).cells
  obtain ⟨o0, o1⟩ := (K.out.2.2.1).cells
  go_enter Try.func4, Try.ntmps4
  go_wp2_with fail
  refine (H.out.AW _).mono ?_
  rintro er V1 ⟨rfl, hb⟩
  clear x0 x1 x2 x3 z0 z1 o0 o1
  replace K := Lib.hid (And.intro ((K.out.1).below hb) (And.intro ((K.out.2.1).below hb) (And.intro ((K.out.2.2.1).below hb) (below_then (K.out.2.2.2) hb))))
  clear hb
  obtain ⟨x0, x1, x2, x3⟩ := (K.out.1).cells
  obtain ⟨z0, z1⟩ := (K.out.2.1).cells
  obtain ⟨o0, o1⟩ := (K.out.2.2.1).cells
  go_wp2_with fail
  refine (H.out.HV _).mono ?_
  rintro er V2 ⟨rfl, hb⟩
  clear x0 x1 x2 x3 z0 z1 o0 o1
  replace K := Lib.hid (And.intro ((K.out.1).below hb) (And.intro ((K.out.2.1).below hb) (And.intro ((K.out.2.2.1).below hb) (below_then (K.out.2.2.2) hb))))
  clear hb
  obtain ⟨x0, x1, x2, x3⟩ := (K.out.1).cells
  obtain ⟨z0, z1⟩ := (K.out.2.1).cells
  obtain ⟨o0, o1⟩ := (K.out.2.2.1).cells
  go_upto_region 4 with fail
  clear x0 x1 x2 x3 z0 z1 o0 o1
  have L1 := below_allocs V2 (.cells #[.int .u64 s0, .int .u64 s1, .int .u64 u0, .int .u64 u1] 26)
  have L2 := below_allocs (V2.alloc (.cells #[.int .u64 s0, .int .u64 s1, .int .u64 u0, .int .u64 u1] 26)) (.cells #[.int .u64 u0, .int .u64 u1, .int .u64 s2, .int .u64 s3] 26)
  have N1 := (SB.new V2 s0 s1 u0 u1 26).below L2
  have N2 := SB.new (V2.alloc (.cells #[.int .u64 s0, .int .u64 s1, .int .u64 u0, .int .u64 u1] 26)) u0 u1 s2 s3 26
  simp only [World.size_alloc] at N2
  have K9 := Lib.hid (And.intro ((K.out.1).below L1) (And.intro ((K.out.2.1).below L1) (And.intro ((K.out.2.2.1).below L1) (below_then (K.out.2.2.2) L1))))
  replace K9 := Lib.hid (And.intro ((K9.out.1).below L2) (And.intro ((K9.out.2.1).below L2) (And.intro ((K9.out.2.2.1).below L2) (below_then (K9.out.2.2.2) L2))))
  replace K := Lib.hid (And.intro N1 (And.intro N2 K9.out))
  clear K9 L1 L2 N1 N2
  generalize (V2.alloc _).alloc _ = V3 at K ⊢
  generalize V2.heap.size + 1 = yB at K ⊢
  generalize V2.heap.size = yA at K ⊢
  obtain ⟨a0', a1', a2', a3'⟩ := (K.out.1).cells
  obtain ⟨b0', b1', b2', b3'⟩ := (K.out.2.1).cells
  obtain ⟨x0, x1, x2, x3⟩ := (K.out.2.2.1).cells
  obtain ⟨z0, z1⟩ := (K.out.2.2.2.1).cells
  obtain ⟨o0, o1⟩ := (K.out.2.2.2.2.1).cells
  go_upto_region 5 with fail
  go_cut [10, 11] (fun p b wr => b = .bool false ∧ CutN V3 24 d0 d1 p wr)
  case first =>
    have hX : Below V3.heap.size V3 V3 := Below.refl _ _
    have la : yA < V3.heap.size := K.out.1.lt
    have lb : yB < V3.heap.size := K.out.2.1.lt
    have na := Nat.ne_of_lt la
    have nb := Nat.ne_of_lt lb
    have na2 := Nat.ne_of_gt la
    have nb2 := Nat.ne_of_gt lb
    clear x0 x1 x2 x3 z0 z1 o0 o1
    go_region_held3 (fun w' => w'.cell? ⟨yA, 0, none⟩ = some (.int .u64 s0) ∧ w'.cell? ⟨yA, 1, none⟩ = some (.int .u64 s1) ∧ w'.cell? ⟨yA, 2, none⟩ = some (.int .u64 u0) ∧ w'.cell? ⟨yA, 3, none⟩ = some (.int .u64 u1) ∧ w'.cell? ⟨yB, 0, none⟩ = some (.int .u64 u0) ∧ w'.cell? ⟨yB, 1, none⟩ = some (.int .u64 u1) ∧ w'.cell? ⟨yB, 2, none⟩ = some (.int .u64 s2) ∧ w'.cell? ⟨yB, 3, none⟩ = some (.int .u64 s3)) (go_keep) (first | (go_at_call 15; (with_reducible refine (H.out.LA _).mono ?_); rintro er x1 ⟨rfl, hb⟩; (first | (have za : UB 24 x1 (World.heap V3).size 0 0 := UB.below (UB.new (World.drew V3) 0 0 24) hb; obtain ⟨za0, za1⟩ := UB.cells za; obtain ⟨za2, za3⟩ := UB.free za; have za4 := UB.lt za) | skip); (first | (replace zb := UB.below zb (below_then (by first | exact Below.refl _ _ | exact below_allocs _ _ | exact below_drew _) hb); obtain ⟨zb0, zb1⟩ := UB.cells zb; obtain ⟨zb2, zb3⟩ := UB.free zb; have zb4 := UB.lt zb) | skip); (first | (replace zc := UB.below zc (below_then (by first | exact Below.refl _ _ | exact below_allocs _ _ | exact below_drew _) hb); obtain ⟨zc0, zc1⟩ := UB.cells zc; obtain ⟨zc2, zc3⟩ := UB.free zc; have zc4 := UB.lt zc) | skip); replace hX := below_then (show Below V3.heap.size V3 _ by first | exact hX | exact hX.drew | exact hX.alloc hX.size _ | exact hX.drew.alloc hX.drew.size _) hb; clear hb; (try clear a0' b0' a1' b1' a2' b2' a3' b3'); obtain ⟨a0', a1', a2', a3'⟩ := (K.out.1.below hX).cells; obtain ⟨b0', b1', b2', b3'⟩ := (K.out.2.1.below hX).cells; have la := (K.out.1.below hX).lt; have lb := (K.out.2.1.below hX).lt; have sx := hX.size; have na := Nat.ne_of_lt la; have nb := Nat.ne_of_lt lb; have na2 := Nat.ne_of_gt la; have nb2 := Nat.ne_of_gt lb) | (go_at_call 15; (with_reducible refine (H.out.LB _).mono ?_); rintro er x2 ⟨rfl, hb⟩; (first | (have zb : UB 24 x2 (World.heap x1).size 0 0 := UB.below (UB.new x1 0 0 24) hb; obtain ⟨zb0, zb1⟩ := UB.cells zb; obtain ⟨zb2, zb3⟩ := UB.free zb; have zb4 := UB.lt zb) | skip); (first | (replace za := UB.below za (below_then (by first | exact Below.refl _ _ | exact below_allocs _ _ | exact below_drew _) hb); obtain ⟨za0, za1⟩ := UB.cells za; obtain ⟨za2, za3⟩ := UB.free za; have za4 := UB.lt za) | skip); (first | (replace zc := UB.below zc (below_then (by first | exact Below.refl _ _ | exact below_allocs _ _ | exact below_drew _) hb); obtain ⟨zc0, zc1⟩ := UB.cells zc; obtain ⟨zc2, zc3⟩ := UB.free zc; have zc4 := UB.lt zc) | skip); replace hX := below_then (show Below V3.heap.size V3 _ by first | exact hX | exact hX.drew | exact hX.alloc hX.size _ | exact hX.drew.alloc hX.drew.size _) hb; clear hb; (try clear a0' b0' a1' b1' a2' b2' a3' b3'); obtain ⟨a0', a1', a2', a3'⟩ := (K.out.1.below hX).cells; obtain ⟨b0', b1', b2', b3'⟩ := (K.out.2.1.below hX).cells; have la := (K.out.1.below hX).lt; have lb := (K.out.2.1.below hX).lt; have sx := hX.size; have na := Nat.ne_of_lt la; have nb := Nat.ne_of_lt lb; have na2 := Nat.ne_of_gt la; have nb2 := Nat.ne_of_gt lb) | (go_at_call 29; (with_reducible refine (H.out.SU _).mono ?_); rintro er x3 ⟨rfl, hb⟩; (first | (have zc : UB 24 x3 (World.heap x2).size 0 0 := UB.below (UB.new x2 0 0 24) hb; obtain ⟨zc0, zc1⟩ := UB.cells zc; obtain ⟨zc2, zc3⟩ := UB.free zc; have zc4 := UB.lt zc) | skip); (first | (replace za := UB.below za (below_then (by first | exact Below.refl _ _ | exact below_allocs _ _ | exact below_drew _) hb); obtain ⟨za0, za1⟩ := UB.cells za; obtain ⟨za2, za3⟩ := UB.free za; have za4 := UB.lt za) | skip); (first | (replace zb := UB.below zb (below_then (by first | exact Below.refl _ _ | exact below_allocs _ _ | exact below_drew _) hb); obtain ⟨zb0, zb1⟩ := UB.cells zb; obtain ⟨zb2, zb3⟩ := UB.free zb; have zb4 := UB.lt zb) | skip); replace hX := below_then (show Below V3.heap.size V3 _ by first | exact hX | exact hX.drew | exact hX.alloc hX.size _ | exact hX.drew.alloc hX.drew.size _) hb; clear hb; (try clear a0' b0' a1' b1' a2' b2' a3' b3'); obtain ⟨a0', a1', a2', a3'⟩ := (K.out.1.below hX).cells; obtain ⟨b0', b1', b2', b3'⟩ := (K.out.2.1.below hX).cells; have la := (K.out.1.below hX).lt; have lb := (K.out.2.1.below hX).lt; have sx := hX.size; have na := Nat.ne_of_lt la; have nb := Nat.ne_of_lt lb; have na2 := Nat.ne_of_gt la; have nb2 := Nat.ne_of_gt lb))
    all_goals go_wp2_with fail
    all_goals go_meet
    all_goals first | with_reducible exact ⟨rfl, CutN.of hX⟩ | with_reducible exact ⟨rfl, CutN.early hX (Nat.le_refl _) za⟩ | with_reducible exact ⟨rfl, CutN.early hX sx za⟩ | with_reducible exact ⟨rfl, CutN.early hX sx zb⟩ | with_reducible exact ⟨rfl, CutN.early hX sx zc⟩ | exact ⟨rfl, CutN.early hX (by omega) (by assumption)⟩
  obtain ⟨rfl, bu, rfl, NU, hX⟩ := hcut
  clear a0' a1' a2' a3' b0' b1' b2' b3' x0 x1 x2 x3 z0 z1 o0 o1
  replace K := Lib.hid (And.intro NU (And.intro ((K.out.1).below hX) (And.intro ((K.out.2.1).below hX) (And.intro ((K.out.2.2.1).below hX) (And.intro ((K.out.2.2.2.1).below hX) (And.intro ((K.out.2.2.2.2.1).below hX) (below_then (K.out.2.2.2.2.2) hX)))))))
  clear NU hX
  have h3' : ¬ 0 < r3 := by omega
  have h3b : decide (0 < r3) = false := decide_eq_false h3'
  obtain ⟨e0', e1'⟩ := (K.out.1).cells
  obtain ⟨a0', a1', a2', a3'⟩ := (K.out.2.1).cells
  obtain ⟨b0', b1', b2', b3'⟩ := (K.out.2.2.1).cells
  obtain ⟨x0, x1, x2, x3⟩ := (K.out.2.2.2.1).cells
  obtain ⟨z0, z1⟩ := (K.out.2.2.2.2.1).cells
  obtain ⟨o0, o1⟩ := (K.out.2.2.2.2.2.1).cells
  go_wp2_with fail
  clear e0' e1' a0' a1' a2' a3' b0' b1' b2' b3' x0 x1 x2 x3 z0 z1 o0 o1
  refine wp_region_class (fun w' => Below wc.heap.size wc w') (by kernel_rfl) (by kernel_rfl) (Below.refl _ _).drew ?_
  try dsimp only [List.append]
  iterate 46
    (first
      | refine WQ.no (by rfl) ?_
      | (refine WQ.yes ?_ (by rfl) (fun w' hC => ?_) ?_
         rotate_left
         · (obtain ⟨e0', e1'⟩ := (K.out.1.below hC).cells; obtain ⟨a0', a1', a2', a3'⟩ := (K.out.2.1.below hC).cells; obtain ⟨b0', b1', b2', b3'⟩ := (K.out.2.2.1.below hC).cells; obtain ⟨x0, x1, x2, x3⟩ := (K.out.2.2.2.1.below hC).cells; obtain ⟨z0, z1⟩ := (K.out.2.2.2.2.1.below hC).cells; obtain ⟨o0, o1⟩ := (K.out.2.2.2.2.2.1.below hC).cells
            go_simp
            first | done | with_reducible rfl | exact ⟨rfl, rfl⟩ | (go_at_call 31; (with_reducible exact quietA (H.out.O1 _) hC)) | (go_at_call 30; (with_reducible exact quietI (H.out.C1 _) hC)) | (go_at_call 19; (with_reducible exact quietB (H.out.ME _) hC)) | (go_at_call 17; (with_reducible exact quietB (H.out.HS _) hC)) | (go_at_call 17; (with_reducible exact quietB (H.out.HA _) hC)) | (go_at_call 17; (with_reducible exact quietB (H.out.HB _) hC))))
     (try simp only [Act.put, List.setIfInBounds_toArray, List.set_cons_zero, List.set_cons_succ]))
  refine WQ.nil ?_
  intro wz3 hX
  replace K := Lib.hid (And.intro ((K.out.1).below hX) (And.intro ((K.out.2.1).below hX) (And.intro ((K.out.2.2.1).below hX) (And.intro ((K.out.2.2.2.1).below hX) (And.intro ((K.out.2.2.2.2.1).below hX) (And.intro ((K.out.2.2.2.2.2.1).below hX) (below_then (K.out.2.2.2.2.2.2) hX)))))))
  clear hX
  have HX : (!((ha != hb) == (!(ha == hb)))) = false := by cases ha <;> cases hb <;> rfl
  simp only [HX]
  clear HX
  obtain ⟨e0', e1'⟩ := (K.out.1).cells
  obtain ⟨a0', a1', a2', a3'⟩ := (K.out.2.1).cells
  obtain ⟨b0', b1', b2', b3'⟩ := (K.out.2.2.1).cells
  obtain ⟨x0, x1, x2, x3⟩ := (K.out.2.2.2.1).cells
  obtain ⟨z0, z1⟩ := (K.out.2.2.2.2.1).cells
  obtain ⟨o0, o1⟩ := (K.out.2.2.2.2.2.1).cells
  go_wp2_with fail
  refine (H.out.TK _).mono ?_
  rintro er V4 ⟨rfl, hb⟩
  clear e0' e1' a0' a1' a2' a3' b0' b1' b2' b3' x0 x1 x2 x3 z0 z1 o0 o1
  replace K := Lib.hid (And.intro ((K.out.1).below hb) (And.intro ((K.out.2.1).below hb) (And.intro ((K.out.2.2.1).below hb) (And.intro ((K.out.2.2.2.1).below hb) (And.intro ((K.out.2.2.2.2.1).below hb) (And.intro ((K.out.2.2.2.2.2.1).below hb) (below_then (K.out.2.2.2.2.2.2) hb)))))))
  clear hb
  obtain ⟨e0', e1'⟩ := (K.out.1).cells
  obtain ⟨a0', a1', a2', a3'⟩ := (K.out.2.1).cells
  obtain ⟨b0', b1', b2', b3'⟩ := (K.out.2.2.1).cells
  obtain ⟨x0, x1, x2, x3⟩ := (K.out.2.2.2.1).cells
  obtain ⟨z0, z1⟩ := (K.out.2.2.2.2.1).cells
  obtain ⟨o0, o1⟩ := (K.out.2.2.2.2.2.1).cells
  go_upto_region 11 with fail
  clear e0' e1' a0' a1' a2' a3' b0' b1' b2' b3' x0 x1 x2 x3 z0 z1 o0 o1
  have L1 := below_allocs V4 (.cells #[.int .u64 0, .int .u64 0, .int .u64 0, .int .u64 0] 26)
  have L2 := below_allocs (V4.alloc (.cells #[.int .u64 0, .int .u64 0, .int .u64 0, .int .u64 0] 26)) (.cells #[.int .u64 0, .int .u64 0, .int .u64 0, .int .u64 0] 26)
  have N1 := (SB.new V4 0 0 0 0 26).below L2
  have N2 := SB.new (V4.alloc (.cells #[.int .u64 0, .int .u64 0, .int .u64 0, .int .u64 0] 26)) 0 0 0 0 26
  simp only [World.size_alloc] at N2
  have K9 := Lib.hid (And.intro ((K.out.1).below L1) (And.intro ((K.out.2.1).below L1) (And.intro ((K.out.2.2.1).below L1) (And.intro ((K.out.2.2.2.1).below L1) (And.intro ((K.out.2.2.2.2.1).below L1) (And.intro ((K.out.2.2.2.2.2.1).below L1) (below_then (K.out.2.2.2.2.2.2) L1)))))))
  replace K9 := Lib.hid (And.intro ((K9.out.1).below L2) (And.intro ((K9.out.2.1).below L2) (And.intro ((K9.out.2.2.1).below L2) (And.intro ((K9.out.2.2.2.1).below L2) (And.intro ((K9.out.2.2.2.2.1).below L2) (And.intro ((K9.out.2.2.2.2.2.1).below L2) (below_then (K9.out.2.2.2.2.2.2) L2)))))))
  replace K := Lib.hid (And.intro N1 (And.intro N2 K9.out))
  clear K9 L1 L2 N1 N2
  generalize (V4.alloc _).alloc _ = V5 at K ⊢
  generalize V4.heap.size + 1 = yD at K ⊢
  generalize V4.heap.size = yC at K ⊢
  have h4b : decide (r4 < 0) = true := decide_eq_true h4
  obtain ⟨c0', c1', c2', c3'⟩ := (K.out.1).cells
  obtain ⟨d0', d1', d2', d3'⟩ := (K.out.2.1).cells
  obtain ⟨e0', e1'⟩ := (K.out.2.2.1).cells
  obtain ⟨a0', a1', a2', a3'⟩ := (K.out.2.2.2.1).cells
  obtain ⟨b0', b1', b2', b3'⟩ := (K.out.2.2.2.2.1).cells
  obtain ⟨x0, x1, x2, x3⟩ := (K.out.2.2.2.2.2.1).cells
  obtain ⟨z0, z1⟩ := (K.out.2.2.2.2.2.2.1).cells
  obtain ⟨o0, o1⟩ := (K.out.2.2.2.2.2.2.2.1).cells
  go_wp2_with fail
  clear c0' c1' c2' c3' d0' d1' d2' d3' e0' e1' a0' a1' a2' a3' b0' b1' b2' b3' x0 x1 x2 x3 z0 z1 o0 o1
  refine wp_region_class (fun w' => Below V5.heap.size V5 w') (by kernel_rfl) (by kernel_rfl) (Below.refl _ _).drew ?_
  try dsimp only [List.append]
  iterate 11
    (first
      | refine WQ.no (by rfl) ?_
      | (refine WQ.yes ?_ (by rfl) (fun w' hC => ?_) ?_
         rotate_left
         · (obtain ⟨c0', c1', c2', c3'⟩ := (K.out.1.below hC).cells; obtain ⟨d0', d1', d2', d3'⟩ := (K.out.2.1.below hC).cells; obtain ⟨e0', e1'⟩ := (K.out.2.2.1.below hC).cells; obtain ⟨a0', a1', a2', a3'⟩ := (K.out.2.2.2.1.below hC).cells; obtain ⟨b0', b1', b2', b3'⟩ := (K.out.2.2.2.2.1.below hC).cells; obtain ⟨x0, x1, x2, x3⟩ := (K.out.2.2.2.2.2.1.below hC).cells; obtain ⟨z0, z1⟩ := (K.out.2.2.2.2.2.2.1.below hC).cells; obtain ⟨o0, o1⟩ := (K.out.2.2.2.2.2.2.2.1.below hC).cells
            go_simp
            first | done | with_reducible rfl | exact ⟨rfl, rfl⟩ | (go_at_call 13; (with_reducible exact quietB (H.out.RI _) hC)) | (go_at_call 15; (with_reducible exact quietA (H.out.LS _) hC)) | (go_at_call 30; (with_reducible exact quietI (H.out.C2 _) hC))))
     (try simp only [Act.put, List.setIfInBounds_toArray, List.set_cons_zero, List.set_cons_succ]))
  refine WQ.nil ?_
  intro wz5 hX
  replace K := Lib.hid (And.intro ((K.out.1).below hX) (And.intro ((K.out.2.1).below hX) (And.intro ((K.out.2.2.1).below hX) (And.intro ((K.out.2.2.2.1).below hX) (And.intro ((K.out.2.2.2.2.1).below hX) (And.intro ((K.out.2.2.2.2.2.1).below hX) (And.intro ((K.out.2.2.2.2.2.2.1).below hX) (And.intro ((K.out.2.2.2.2.2.2.2.1).below hX) (below_then (K.out.2.2.2.2.2.2.2.2) hX)))))))))
  clear hX
  obtain ⟨c0', c1', c2', c3'⟩ := (K.out.1).cells
  obtain ⟨d0', d1', d2', d3'⟩ := (K.out.2.1).cells
  obtain ⟨e0', e1'⟩ := (K.out.2.2.1).cells
  obtain ⟨a0', a1', a2', a3'⟩ := (K.out.2.2.2.1).cells
  obtain ⟨b0', b1', b2', b3'⟩ := (K.out.2.2.2.2.1).cells
  obtain ⟨x0, x1, x2, x3⟩ := (K.out.2.2.2.2.2.1).cells
  obtain ⟨z0, z1⟩ := (K.out.2.2.2.2.2.2.1).cells
  obtain ⟨o0, o1⟩ := (K.out.2.2.2.2.2.2.2.1).cells
  go_wp2_with fail
  go_ret
  exact ⟨rfl, K.out.2.2.2.2.2.2.2.2⟩
end Go.Proofs.Ytolicfackceomaa
