/-
  What the reference of layer 9 answers: At and Then. Made by wip/gen/affref.py.
-/
import Derived.Test.YthnmekieanndgaaAffS
namespace Go.Proofs.Ythnmekieanndgaa
open Go.RowKit G
set_option linter.unusedVariables false
set_option maxRecDepth 100000

theorem yAtM (m : Mp) (hm : m.Ok) {x : Nat} (hx : x < Q) : TN 20 #[m.val, .agg #[.int .u64 ((hiW x : Nat) : Int), .int .u64 ((loW x : Nat) : Int)]] ((hiW (atM m x) : Nat) : Int) ((loW (atM m x) : Nat) : Int) := by
  have D := yAdd (M := m.A * x % Q) (Nat.mod_lt _ (by decide)) hm.c
  rw [Nat.mod_add_mod] at D
  exact atMain _ _ _ _ _ _ _ _ _ _ _ (Lib.hid (yMul hm.a hx)) (Lib.hid D)
set_option maxHeartbeats 8000000 in
theorem rthenMain (a0 a1 a2 a3 b0 b1 b2 b3 p0 p1 e0 e1 q0 q1 g0 g1 d0 d1 : Int) (o : Bool)
    (A1 : Hid (TN 20 #[.agg #[.int .u64 a0, .int .u64 a1, .int .u64 a2, .int .u64 a3], .agg #[.int .u64 0, .int .u64 0]] p0 p1))
    (A2 : Hid (TN 20 #[.agg #[.int .u64 b0, .int .u64 b1, .int .u64 b2, .int .u64 b3], .agg #[.int .u64 p0, .int .u64 p1]] e0 e1))
    (A3 : Hid (TN 20 #[.agg #[.int .u64 a0, .int .u64 a1, .int .u64 a2, .int .u64 a3], .agg #[.int .u64 0, .int .u64 1]] q0 q1))
    (A4 : Hid (TN 20 #[.agg #[.int .u64 b0, .int .u64 b1, .int .u64 b2, .int .u64 b3], .agg #[.int .u64 q0, .int .u64 q1]] g0 g1))
    (D : Hid (TNB 41 #[.agg #[.int .u64 g0, .int .u64 g1], .agg #[.int .u64 e0, .int .u64 e1]] d0 d1 o)) :
    TM 32 #[.agg #[.int .u64 a0, .int .u64 a1, .int .u64 a2, .int .u64 a3], .agg #[.int .u64 b0, .int .u64 b1, .int .u64 b2, .int .u64 b3]] d0 d1 e0 e1 := fun w => by
  have U := R4.new w a0 a1 a2 a3
  have z1 : (w.alloc (.cells #[.int .u64 a0, .int .u64 a1, .int .u64 a2, .int .u64 a3] 49)).heap.size = w.heap.size + 1 := Array.size_push _
  have L := below_alloc (Below.refl w.heap.size w) (.cells #[.int .u64 a0, .int .u64 a1, .int .u64 a2, .int .u64 a3] 49)
  have H1 := Lib.hid (And.intro U (And.intro z1 L))
  clear U z1 L
  go_enter Try.func32, Try.ntmps32
  go_upto_region 1 with fail
  generalize w.alloc _ = V1 at H1 ⊢
  have UX := R4.new V1 b0 b1 b2 b3
  have z2 : (V1.alloc (.cells #[.int .u64 b0, .int .u64 b1, .int .u64 b2, .int .u64 b3] 49)).heap.size = w.heap.size + 1 + 1 := (Array.size_push _).trans (by rw [H1.out.2.1])
  rw [H1.out.2.1] at UX
  have LB := below_allocs V1 (.cells #[.int .u64 b0, .int .u64 b1, .int .u64 b2, .int .u64 b3] 49)
  have H2 := Lib.hid (And.intro (H1.out.1.below LB) (And.intro UX (And.intro z2 (below_then H1.out.2.2 LB))))
  clear UX z2 LB H1
  generalize V1.alloc _ = V2 at H2 ⊢
  have UZ := R4.new V2 0 0 0 0
  rw [H2.out.2.2.1] at UZ
  have LB := below_allocs V2 (.cells #[.int .u64 0, .int .u64 0, .int .u64 0, .int .u64 0] 49)
  have HK := Lib.hid (And.intro (H2.out.1.below LB) (And.intro (H2.out.2.1.below LB) UZ))
  have HW := Lib.hid (below_then H2.out.2.2.2 LB)
  clear UZ LB H2
  generalize V2.alloc _ = V4 at HK HW ⊢
  have hc : w.heap.size ≤ w.heap.size + 1 := Nat.le_succ _
  generalize w.heap.size + 1 = cn at HK hc ⊢
  obtain ⟨cm, hcm⟩ : ∃ cm, cm = w.heap.size := ⟨_, rfl⟩
  rw [← hcm] at HK ⊢
  go_cut [5] (CutN V4 e0 e1)
  case first =>
    clear A3 A4 D hc hcm
    have hX : Below V4.heap.size V4 V4 := Below.refl _ _
    obtain ⟨f1, f2, f3, f4⟩ := (HK.out.1.below hX).cells
    obtain ⟨f5, f6, f7, f8⟩ := (HK.out.2.1.below hX).cells
    have l1 : cm < V4.heap.size := (HK.out.1.below hX).lt
    have l2 : cn < V4.heap.size := (HK.out.2.1.below hX).lt
    go_region_held3 (fun w' => w'.cell? ⟨cm, 0, none⟩ = some (.int .u64 a0) ∧ w'.cell? ⟨cm, 1, none⟩ = some (.int .u64 a1) ∧ w'.cell? ⟨cm, 2, none⟩ = some (.int .u64 a2) ∧ w'.cell? ⟨cm, 3, none⟩ = some (.int .u64 a3) ∧ w'.cell? ⟨cn, 0, none⟩ = some (.int .u64 b0) ∧ w'.cell? ⟨cn, 1, none⟩ = some (.int .u64 b1) ∧ w'.cell? ⟨cn, 2, none⟩ = some (.int .u64 b2) ∧ w'.cell? ⟨cn, 3, none⟩ = some (.int .u64 b3)) (go_keep) (first
      | (go_at_call 20; (with_reducible refine (A1.out _).mono ?_); rintro e x1 ⟨rfl, hb⟩; (first | (have za : R2 x1 V4.heap.size 0 0 := r2_early (w := World.drew V4) hb; obtain ⟨za0, za1⟩ := R2.cells za; obtain ⟨za2, za3⟩ := R2.free za; have za4 := R2.lt za) | skip); replace hX := below_then (show Below V4.heap.size V4 _ by first | exact hX | exact hX.drew | exact hX.alloc hX.size _ | exact hX.drew.alloc hX.drew.size _) hb; clear hb; have sx1 : V4.heap.size ≤ x1.heap.size := hX.size; have da1 : cm ≠ V4.heap.size := Nat.ne_of_lt l1; have da2 : V4.heap.size ≠ cm := Nat.ne_of_gt l1; have da3 : cn ≠ V4.heap.size := Nat.ne_of_lt l2; have da4 : V4.heap.size ≠ cn := Nat.ne_of_gt l2; clear f1 f2 f3 f4 f5 f6 f7 f8 l1 l2; obtain ⟨f1, f2, f3, f4⟩ := (HK.out.1.below hX).cells; obtain ⟨f5, f6, f7, f8⟩ := (HK.out.2.1.below hX).cells; have l1 : cm < x1.heap.size := (HK.out.1.below hX).lt; have l2 : cn < x1.heap.size := (HK.out.2.1.below hX).lt)
      | (go_at_call 20; (with_reducible refine (A2.out _).mono ?_); rintro e x2 ⟨rfl, hb⟩; (first | (have zc : R2 x2 x1.heap.size 0 0 := r2_early (w := x1) hb; obtain ⟨zc0, zc1⟩ := R2.cells zc; obtain ⟨zc2, zc3⟩ := R2.free zc; have zc4 := R2.lt zc) | skip); (first | (replace za := R2.below za (below_then (by first | exact Below.refl _ _ | exact below_allocs _ _) hb); obtain ⟨ya0, ya1⟩ := R2.cells za; obtain ⟨ya2, ya3⟩ := R2.free za; have ya4 := R2.lt za) | skip); replace hX := below_then (show Below V4.heap.size V4 _ by first | exact hX | exact hX.drew | exact hX.alloc hX.size _ | exact hX.drew.alloc hX.drew.size _) hb; clear hb; have db1 : cm ≠ x1.heap.size := Nat.ne_of_lt l1; have db2 : x1.heap.size ≠ cm := Nat.ne_of_gt l1; have db3 : cn ≠ x1.heap.size := Nat.ne_of_lt l2; have db4 : x1.heap.size ≠ cn := Nat.ne_of_gt l2; clear f1 f2 f3 f4 f5 f6 f7 f8 l1 l2; obtain ⟨f1, f2, f3, f4⟩ := (HK.out.1.below hX).cells; obtain ⟨f5, f6, f7, f8⟩ := (HK.out.2.1.below hX).cells; have l1 : cm < x2.heap.size := (HK.out.1.below hX).lt; have l2 : cn < x2.heap.size := (HK.out.2.1.below hX).lt; have dc1 : cm ≠ x2.heap.size := Nat.ne_of_lt l1; have dc2 : x2.heap.size ≠ cm := Nat.ne_of_gt l1; have dc3 : cn ≠ x2.heap.size := Nat.ne_of_lt l2; have dc4 : x2.heap.size ≠ cn := Nat.ne_of_gt l2))
    all_goals
      go_wp2_with fail
      go_meet
      first
        | with_reducible exact CutN.of hX
        | with_reducible exact CutN.early hX (Nat.le_refl _) za
        | with_reducible exact CutN.early hX sx1 zc
  obtain ⟨bz, rfl, NZ, hX⟩ := hcut
  obtain ⟨W5, h5⟩ : ∃ x : World, x = wc := ⟨_, rfl⟩
  subst h5
  have HJ := HK
  clear HK
  have HK := Lib.hid (And.intro (HJ.out.1.below hX) (And.intro (HJ.out.2.1.below hX) (And.intro (HJ.out.2.2.below hX) (And.intro (below_then HW.out hX) NZ))))
  clear HJ HW hX NZ A1 A2
  go_upto_region 2 with fail
  go_cut [6] (CutN W5 g0 g1)
  case first =>
    clear D hc hcm
    have hX : Below W5.heap.size W5 W5 := Below.refl _ _
    obtain ⟨f1, f2, f3, f4⟩ := (HK.out.1.below hX).cells
    obtain ⟨f5, f6, f7, f8⟩ := (HK.out.2.1.below hX).cells
    have l1 : cm < W5.heap.size := (HK.out.1.below hX).lt
    have l2 : cn < W5.heap.size := (HK.out.2.1.below hX).lt
    go_region_held3 (fun w' => w'.cell? ⟨cm, 0, none⟩ = some (.int .u64 a0) ∧ w'.cell? ⟨cm, 1, none⟩ = some (.int .u64 a1) ∧ w'.cell? ⟨cm, 2, none⟩ = some (.int .u64 a2) ∧ w'.cell? ⟨cm, 3, none⟩ = some (.int .u64 a3) ∧ w'.cell? ⟨cn, 0, none⟩ = some (.int .u64 b0) ∧ w'.cell? ⟨cn, 1, none⟩ = some (.int .u64 b1) ∧ w'.cell? ⟨cn, 2, none⟩ = some (.int .u64 b2) ∧ w'.cell? ⟨cn, 3, none⟩ = some (.int .u64 b3)) (go_keep) (first
      | (go_at_call 20; (with_reducible refine (A3.out _).mono ?_); rintro e x1 ⟨rfl, hb⟩; (first | (have za : R2 x1 W5.heap.size 0 0 := r2_early (w := World.drew W5) hb; obtain ⟨za0, za1⟩ := R2.cells za; obtain ⟨za2, za3⟩ := R2.free za; have za4 := R2.lt za) | skip); replace hX := below_then (show Below W5.heap.size W5 _ by first | exact hX | exact hX.drew | exact hX.alloc hX.size _ | exact hX.drew.alloc hX.drew.size _) hb; clear hb; have sx1 : W5.heap.size ≤ x1.heap.size := hX.size; have da1 : cm ≠ W5.heap.size := Nat.ne_of_lt l1; have da2 : W5.heap.size ≠ cm := Nat.ne_of_gt l1; have da3 : cn ≠ W5.heap.size := Nat.ne_of_lt l2; have da4 : W5.heap.size ≠ cn := Nat.ne_of_gt l2; clear f1 f2 f3 f4 f5 f6 f7 f8 l1 l2; obtain ⟨f1, f2, f3, f4⟩ := (HK.out.1.below hX).cells; obtain ⟨f5, f6, f7, f8⟩ := (HK.out.2.1.below hX).cells; have l1 : cm < x1.heap.size := (HK.out.1.below hX).lt; have l2 : cn < x1.heap.size := (HK.out.2.1.below hX).lt)
      | (go_at_call 20; (with_reducible refine (A4.out _).mono ?_); rintro e x2 ⟨rfl, hb⟩; (first | (have zc : R2 x2 x1.heap.size 0 0 := r2_early (w := x1) hb; obtain ⟨zc0, zc1⟩ := R2.cells zc; obtain ⟨zc2, zc3⟩ := R2.free zc; have zc4 := R2.lt zc) | skip); (first | (replace za := R2.below za (below_then (by first | exact Below.refl _ _ | exact below_allocs _ _) hb); obtain ⟨ya0, ya1⟩ := R2.cells za; obtain ⟨ya2, ya3⟩ := R2.free za; have ya4 := R2.lt za) | skip); replace hX := below_then (show Below W5.heap.size W5 _ by first | exact hX | exact hX.drew | exact hX.alloc hX.size _ | exact hX.drew.alloc hX.drew.size _) hb; clear hb; have db1 : cm ≠ x1.heap.size := Nat.ne_of_lt l1; have db2 : x1.heap.size ≠ cm := Nat.ne_of_gt l1; have db3 : cn ≠ x1.heap.size := Nat.ne_of_lt l2; have db4 : x1.heap.size ≠ cn := Nat.ne_of_gt l2; clear f1 f2 f3 f4 f5 f6 f7 f8 l1 l2; obtain ⟨f1, f2, f3, f4⟩ := (HK.out.1.below hX).cells; obtain ⟨f5, f6, f7, f8⟩ := (HK.out.2.1.below hX).cells; have l1 : cm < x2.heap.size := (HK.out.1.below hX).lt; have l2 : cn < x2.heap.size := (HK.out.2.1.below hX).lt; have dc1 : cm ≠ x2.heap.size := Nat.ne_of_lt l1; have dc2 : x2.heap.size ≠ cm := Nat.ne_of_gt l1; have dc3 : cn ≠ x2.heap.size := Nat.ne_of_lt l2; have dc4 : x2.heap.size ≠ cn := Nat.ne_of_gt l2))
    all_goals
      go_wp2_with fail
      go_meet
      first
        | with_reducible exact CutN.of hX
        | with_reducible exact CutN.early hX (Nat.le_refl _) za
        | with_reducible exact CutN.early hX sx1 zc
  obtain ⟨bo, rfl, NO, hX⟩ := hcut
  obtain ⟨W6, h6⟩ : ∃ x : World, x = wc := ⟨_, rfl⟩
  subst h6
  have HJ := Lib.hid (And.intro (HK.out.2.2.1.below hX) (And.intro (below_then HK.out.2.2.2.1 hX) (And.intro (HK.out.2.2.2.2.below hX) NO)))
  clear HK hX NO A3 A4
  obtain ⟨n1, n2⟩ := HJ.out.2.2.1.cells
  obtain ⟨k1, k2⟩ := HJ.out.2.2.2.cells
  go_wp2_with fail
  clear n1 n2 k1 k2
  refine (D.out _).mono ?_
  rintro e W7 ⟨rfl, hb⟩
  have ND := R2.new W7 d0 d1
  have LB := below_then hb (below_allocs W7 (.cells #[.int .u64 d0, .int .u64 d1] 31))
  have HL := Lib.hid (And.intro (HJ.out.1.below LB) (And.intro (below_then HJ.out.2.1 LB) (And.intro (HJ.out.2.2.1.below LB) ND)))
  clear HJ hb LB ND D
  go_upto_region 4 with fail
  generalize W7.alloc _ = W8 at HL ⊢
  generalize W7.heap.size = bd at HL ⊢
  have HR := Lib.hid (R4.put (p' := d0) (q' := d1) (r' := e0) (s' := e1) HL.out.1)
  have HB : Hid (Below w.heap.size w ((((W8.setCell ⟨cn + 1, 0, none⟩ (.int .u64 d0)).setCell ⟨cn + 1, 1, none⟩ (.int .u64 d1)).setCell ⟨cn + 1, 2, none⟩ (.int .u64 e0)).setCell ⟨cn + 1, 3, none⟩ (.int .u64 e1))) := Lib.hid (below_putR4 HL.out.2.1 (Nat.le_trans hc (Nat.le_succ _)))
  obtain ⟨n1, n2⟩ := HL.out.2.2.1.cells
  obtain ⟨k1, k2⟩ := HL.out.2.2.2.cells
  obtain ⟨z1, z2, z3, z4⟩ := HL.out.1.cells
  obtain ⟨f1, f2, f3, f4⟩ := HL.out.1.free
  clear HL
  go_wp2_with fail
  generalize World.setCell (World.setCell (World.setCell (World.setCell W8 _ _) _ _) _ _) _ _ = V9 at HR HB ⊢
  obtain ⟨r1, r2, r3, r4⟩ := HR.out.cells
  try simp only [Exit.inBlock, Exit.then, Exit.noGoto]
  refine bodyPost_ret (by simp [results, Try.results32, go_sem, r1, r2, r3, r4]; try rfl) rfl ?_
  exact ⟨rfl, HB.out⟩
theorem yThenM (m n : Mp) (hm : m.Ok) (hn : n.Ok) : TM 32 #[m.val, n.val] ((hiW (thenM m n).A : Nat) : Int) ((loW (thenM m n).A : Nat) : Int) ((hiW (thenM m n).C : Nat) : Int) ((loW (thenM m n).C : Nat) : Int) := by
  have D := ySub (M := atM (thenM m n) 1) (N := atM (thenM m n) 0) (atM_lt _ _) (atM_lt _ _)
  rw [at_diff _ (thenM_ok m n)] at D
  have A2 := yAtM n hn (atM_lt m 0)
  have A4 := yAtM n hn (atM_lt m 1)
  rw [← at_then] at A2 A4
  have e0 : atM (thenM m n) 0 = (thenM m n).C := by
    show ((thenM m n).A * 0 + (thenM m n).C) % Q = _
    rw [Nat.mul_zero, Nat.zero_add, Nat.mod_eq_of_lt (thenM_ok m n).c]
  rw [e0] at A2 D
  exact rthenMain _ _ _ _ _ _ _ _ _ _ _ _ _ _ _ _ _ _ _ (Lib.hid (yAtM m hm (x := 0) (by decide))) (Lib.hid A2) (Lib.hid (yAtM m hm (x := 1) (by decide))) (Lib.hid A4) (Lib.hid D)
end Go.Proofs.Ythnmekieanndgaa
