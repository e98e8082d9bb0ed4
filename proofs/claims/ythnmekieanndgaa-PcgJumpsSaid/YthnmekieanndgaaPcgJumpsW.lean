/-
  The walk of PcgJumps, from what pcg's calls answer. Made by wip/gen/pcgjumps.py.
-/
import Derived.Test.YthnmekieanndgaaPcgApartW
import Derived.Deep.RegionHeld3
namespace Go.Proofs.Ythnmekieanndgaa
open Go.RowKit G
set_option linter.unusedVariables false
set_option maxRecDepth 100000

/-- A state in memory. -/
def P4 (w : World) (b : Nat) (p q r s : Int) : Prop := w.heap[b]? = some (.cells #[.int .u64 p, .int .u64 q, .int .u64 r, .int .u64 s] 26 (0, 0))
section
variable {w w' : World} {b x : Nat} {p q r s p' q' r' s' : Int}
theorem P4.lt (h : P4 w b p q r s) : b < w.heap.size := (Array.getElem?_eq_some_iff.1 h).1
theorem P4.below (h : P4 w b p q r s) (hb : Below w.heap.size w w') : P4 w' b p q r s := (hb.block b h.lt).trans h
theorem P4.new (w : World) (p q r s : Int) : P4 (w.alloc (.cells #[.int .u64 p, .int .u64 q, .int .u64 r, .int .u64 s] 26)) w.heap.size p q r s := show (w.heap.push _)[w.heap.size]? = some _ by simp
theorem P4.f4 (h : P4 w b p q r s) : F4 w b p q r s := f4_of_block h
theorem P4.cells (h : P4 w b p q r s) : w.cell? ⟨b, 0, none⟩ = some (.int .u64 p) ∧ w.cell? ⟨b, 1, none⟩ = some (.int .u64 q) ∧ w.cell? ⟨b, 2, none⟩ = some (.int .u64 r) ∧ w.cell? ⟨b, 3, none⟩ = some (.int .u64 s) := ⟨h.f4.c0, h.f4.c1, h.f4.c2, h.f4.c3⟩
theorem P4.free (h : P4 w b p q r s) : w.frozen? ⟨b, 0, none⟩ = false ∧ w.frozen? ⟨b, 1, none⟩ = false ∧ w.frozen? ⟨b, 2, none⟩ = false ∧ w.frozen? ⟨b, 3, none⟩ = false := by
  unfold P4 at h
  refine ⟨?_, ?_, ?_, ?_⟩ <;> simp [World.frozen?, h]
theorem P4.far (h : P4 w b p q r s) {a : Addr} (hne : b ≠ a.block) (u : Value) : P4 (w.setCell a u) b p q r s := (Below.heap_setCell w a u b hne).trans h
theorem P4.far4 (h : P4 w b p q r s) (hne : b ≠ x) : P4 ((((w.setCell ⟨x, 0, none⟩ (.int .u64 p')).setCell ⟨x, 1, none⟩ (.int .u64 q')).setCell ⟨x, 2, none⟩ (.int .u64 r')).setCell ⟨x, 3, none⟩ (.int .u64 s')) b p q r s := (((h.far hne _).far hne _).far hne _).far hne _
theorem P4.at (h : P4 w b p q r s) (i : Nat) (v : Value) : (w.setCell ⟨b, i, none⟩ v).heap[b]? = some (.cells ((#[.int .u64 p, .int .u64 q, .int .u64 r, .int .u64 s] : Array Value).setIfInBounds i v) 26 (0, 0)) := by
  unfold P4 at h
  simp [World.setCell, Array.getElem?_modify, h]
theorem P4.set0 (h : P4 w b p q r s) (x : Int) : P4 (w.setCell ⟨b, 0, none⟩ (.int .u64 x)) b x q r s := (h.at 0 _).trans rfl
theorem P4.set1 (h : P4 w b p q r s) (x : Int) : P4 (w.setCell ⟨b, 1, none⟩ (.int .u64 x)) b p x r s := (h.at 1 _).trans rfl
theorem P4.set2 (h : P4 w b p q r s) (x : Int) : P4 (w.setCell ⟨b, 2, none⟩ (.int .u64 x)) b p q x s := (h.at 2 _).trans rfl
theorem P4.set3 (h : P4 w b p q r s) (x : Int) : P4 (w.setCell ⟨b, 3, none⟩ (.int .u64 x)) b p q r x := (h.at 3 _).trans rfl
theorem P4.put (h : P4 w x p q r s) : P4 ((((w.setCell ⟨x, 0, none⟩ (.int .u64 p')).setCell ⟨x, 1, none⟩ (.int .u64 q')).setCell ⟨x, 2, none⟩ (.int .u64 r')).setCell ⟨x, 3, none⟩ (.int .u64 s')) x p' q' r' s' := (((h.set0 p').set1 q').set2 r').set3 s'
theorem below_putP4 {B : Nat} {a : World} (h : Below B a w) (hb : B ≤ x) : Below B a ((((w.setCell ⟨x, 0, none⟩ (.int .u64 p')).setCell ⟨x, 1, none⟩ (.int .u64 q')).setCell ⟨x, 2, none⟩ (.int .u64 r')).setCell ⟨x, 3, none⟩ (.int .u64 s')) := (((h.setCell hb _).setCell hb _).setCell hb _).setCell hb _
end
theorem p4_early {w v : World} (hb : Below (w.alloc (.cells #[.int .u64 0, .int .u64 0, .int .u64 0, .int .u64 0] 26)).heap.size (w.alloc (.cells #[.int .u64 0, .int .u64 0, .int .u64 0, .int .u64 0] 26)) v) : P4 v w.heap.size 0 0 0 0 := P4.below (P4.new w 0 0 0 0) hb
/-- Behind a region that lays a state and an error's number. -/
def CutS (W0 : World) (a0 a1 a2 a3 : Int) (p v : Value) (wr : World) : Prop := ∃ b, p = .pointer (some ⟨b, 0, none⟩) ∧ v = .int .i64 0 ∧ F4 wr b a0 a1 a2 a3 ∧ Below W0.heap.size W0 wr
section
variable {W0 x : World} {b : Nat} {a0 a1 a2 a3 : Int}
theorem CutS.of (hb : Below W0.heap.size W0 x) : CutS W0 a0 a1 a2 a3 (.pointer (some ⟨x.heap.size, 0, none⟩)) (.int .i64 0) (x.alloc (.cells #[.int .u64 a0, .int .u64 a1, .int .u64 a2, .int .u64 a3] 26)) := ⟨_, rfl, rfl, (P4.new x _ _ _ _).f4, below_alloc hb _⟩
theorem CutS.early (hb : Below W0.heap.size W0 x) (le : W0.heap.size ≤ b) (z : P4 x b 0 0 0 0) : CutS W0 a0 a1 a2 a3 (.pointer (some ⟨b, 0, none⟩)) (.int .i64 0) ((((x.setCell ⟨b, 0, none⟩ (.int .u64 a0)).setCell ⟨b, 1, none⟩ (.int .u64 a1)).setCell ⟨b, 2, none⟩ (.int .u64 a2)).setCell ⟨b, 3, none⟩ (.int .u64 a3)) := ⟨_, rfl, rfl, (P4.put z).f4, below_putP4 hb le⟩
end
set_option maxHeartbeats 8000000 in
theorem pjumpsMain (aw : Hid (∀ W, Calls Try.prog 8 #[] W (Bl true W))) (s0 s1 s2 s3 n0 n1 m0 m1 t0 t1 a0 a1 b0 b1 d0 d1 : Int) (c : Bool) (w : World)
    (R : Hid (TB 14 #[.agg #[.int .u64 s0, .int .u64 s1, .int .u64 s2, .int .u64 s3]] true))
    (CA : Hid (∀ W : World, Calls Try.prog 25 #[.agg #[.int .u64 n0, .int .u64 n1], .agg #[.int .u64 m0, .int .u64 m1]] W (fun e w' => e = .returned (.tuple #[.agg #[.int .u64 t0, .int .u64 t1], .bool c]) ∧ Below W.heap.size W w')))
    (C1 : Hid (TN 17 #[.int .u64 1] 0 1))
    (J1 : Hid (TSE 16 #[.agg #[.int .u64 s0, .int .u64 s1, .int .u64 s2, .int .u64 s3], .agg #[.int .u64 n0, .int .u64 n1]] a0 a1 s2 s3 0))
    (J2 : Hid (TSE 16 #[.agg #[.int .u64 a0, .int .u64 a1, .int .u64 s2, .int .u64 s3], .agg #[.int .u64 m0, .int .u64 m1]] b0 b1 s2 s3 0))
    (J3 : Hid (TSE 16 #[.agg #[.int .u64 s0, .int .u64 s1, .int .u64 s2, .int .u64 s3], .agg #[.int .u64 t0, .int .u64 t1]] b0 b1 s2 s3 0))
    (J4 : Hid (TSE 16 #[.agg #[.int .u64 s0, .int .u64 s1, .int .u64 s2, .int .u64 s3], .agg #[.int .u64 0, .int .u64 1]] d0 d1 s2 s3 0))
    (J5 : Hid (TSE 16 #[.agg #[.int .u64 s0, .int .u64 s1, .int .u64 s2, .int .u64 s3], .agg #[.int .u64 0, .int .u64 0]] s0 s1 s2 s3 0))
    (ST : Hid (TM 12 #[.agg #[.int .u64 s0, .int .u64 s1, .int .u64 s2, .int .u64 s3]] d0 d1 s2 s3)) :
    Calls Try.prog 6 #[.agg #[.int .u64 s0, .int .u64 s1, .int .u64 s2, .int .u64 s3], .agg #[.int .u64 n0, .int .u64 n1], .agg #[.int .u64 m0, .int .u64 m1]] w (Bl true w) := by
  have hB : Below w.heap.size w w := Below.refl _ _
  go_enter Try.func6, Try.ntmps6
  go_wp2_with fail
  have US := F4.new w s0 s1 s2 s3 26
  have z1 : (w.alloc (.cells #[.int .u64 s0, .int .u64 s1, .int .u64 s2, .int .u64 s3] 26)).heap.size = w.heap.size + 1 := Array.size_push _
  replace hB := below_alloc hB (.cells #[.int .u64 s0, .int .u64 s1, .int .u64 s2, .int .u64 s3] 26)
  generalize w.alloc _ = V1 at US hB z1 ⊢
  have UN := CU.new V1 n0 n1 24
  have z2 : (V1.alloc (.cells #[.int .u64 n0, .int .u64 n1] 24)).heap.size = w.heap.size + 1 + 1 := (Array.size_push _).trans (by rw [z1])
  rw [z1] at UN
  have LB := below_allocs V1 (.cells #[.int .u64 n0, .int .u64 n1] 24)
  replace US := US.below LB
  replace hB := below_then hB LB
  clear LB
  generalize V1.alloc _ = V2 at US UN hB z2 ⊢
  have UM := CU.new V2 m0 m1 24
  rw [z2] at UM
  have LB := below_allocs V2 (.cells #[.int .u64 m0, .int .u64 m1] 24)
  replace US := US.below LB
  replace UN := UN.below LB
  replace hB := below_then hB LB
  clear LB z1 z2
  generalize V2.alloc _ = V3 at US UN UM hB ⊢
  generalize w.heap.size + 1 + 1 = cm at UM ⊢
  generalize w.heap.size + 1 = cn at UN ⊢
  obtain ⟨cs, hcs⟩ : ∃ cs, cs = w.heap.size := ⟨_, rfl⟩
  have HW := Lib.hid hB
  rw [← hcs] at US ⊢
  clear hcs hB
  have hB : Below w.heap.size w V3 := HW.out
  clear HW
  refine (aw.out _).mono ?_
  rintro e W0 ⟨rfl, hb⟩
  replace US := US.below hb
  replace UN := UN.below hb
  replace UM := UM.below hb
  replace hB := below_then hB hb
  clear hb
  obtain ⟨k1, k2, k3, k4⟩ := US
  have US := F4.mk k1 k2 k3 k4
  go_wp2_with fail
  clear k1 k2 k3 k4
  refine (R.out _).mono ?_
  rintro e W1 ⟨rfl, hb⟩
  replace US := US.below hb
  replace UN := UN.below hb
  replace UM := UM.below hb
  replace hB := below_then hB hb
  clear hb
  obtain ⟨u1, u2⟩ := UN.c
  obtain ⟨v1, v2⟩ := UM.c
  go_wp2_with fail
  clear u1 u2 v1 v2
  refine (CA.out _).mono ?_
  rintro e W2 ⟨rfl, hb⟩
  replace US := US.below hb
  replace UN := UN.below hb
  replace UM := UM.below hb
  replace hB := below_then hB hb
  clear hb
  go_upto_region 6 with fail
  have UT := CU.new W2 t0 t1 24
  have LB := below_allocs W2 (.cells #[.int .u64 t0, .int .u64 t1] 24)
  replace US := US.below LB
  replace UN := UN.below LB
  replace UM := UM.below LB
  replace hB := below_then hB LB
  clear LB
  generalize W2.alloc _ = V4 at US UN UM UT hB ⊢
  generalize W2.heap.size = ct at UT ⊢
  obtain ⟨k1, k2, k3, k4⟩ := US
  have US := F4.mk k1 k2 k3 k4
  obtain ⟨u1, u2⟩ := UN.c
  go_wp2_with fail
  clear k1 k2 k3 k4 u1 u2
  refine (J1.out _).mono ?_
  rintro e W3 ⟨rfl, hb⟩
  replace US := US.below hb
  replace UM := UM.below hb
  replace UT := UT.below hb
  replace hB := below_then hB hb
  clear hb
  go_upto_region 7 with fail
  have UA := F4.new W3 a0 a1 s2 s3 26
  have LB := below_allocs W3 (.cells #[.int .u64 a0, .int .u64 a1, .int .u64 s2, .int .u64 s3] 26)
  replace US := US.below LB
  replace UM := UM.below LB
  replace UT := UT.below LB
  replace hB := below_then hB LB
  clear LB
  generalize W3.alloc _ = V5 at US UM UT UA hB ⊢
  generalize W3.heap.size = ca at UA ⊢
  obtain ⟨k1, k2, k3, k4⟩ := UA
  have UA := F4.mk k1 k2 k3 k4
  obtain ⟨u1, u2⟩ := UM.c
  go_wp2_with fail
  clear k1 k2 k3 k4 u1 u2
  refine (J2.out _).mono ?_
  rintro e W4 ⟨rfl, hb⟩
  replace US := US.below hb
  replace UT := UT.below hb
  replace hB := below_then hB hb
  clear hb
  go_upto_region 8 with fail
  have UB := F4.new W4 b0 b1 s2 s3 26
  have LB := below_allocs W4 (.cells #[.int .u64 b0, .int .u64 b1, .int .u64 s2, .int .u64 s3] 26)
  replace US := US.below LB
  replace UT := UT.below LB
  replace hB := below_then hB LB
  clear LB
  generalize W4.alloc _ = V6 at US UT UB hB ⊢
  generalize W4.heap.size = cb at UB ⊢
  obtain ⟨k1, k2, k3, k4⟩ := US
  have US := F4.mk k1 k2 k3 k4
  obtain ⟨u1, u2⟩ := UT.c
  go_wp2_with fail
  clear k1 k2 k3 k4 u1 u2
  refine (J3.out _).mono ?_
  rintro e W5 ⟨rfl, hb⟩
  replace US := US.below hb
  replace UB := UB.below hb
  replace hB := below_then hB hb
  clear hb
  go_upto_region 9 with fail
  have UC := F4.new W5 b0 b1 s2 s3 26
  have LB := below_allocs W5 (.cells #[.int .u64 b0, .int .u64 b1, .int .u64 s2, .int .u64 s3] 26)
  replace US := US.below LB
  replace UB := UB.below LB
  replace hB := below_then hB LB
  clear LB
  generalize W5.alloc _ = V8 at US UB UC hB ⊢
  generalize W5.heap.size = cc at UC ⊢
  have HS := Lib.hid US
  have HU := Lib.hid (And.intro UB (And.intro UC hB))
  clear US UB UC hB UN UA UM UT
  go_cut [15, 16] (CutS V8 d0 d1 s2 s3)
  case first =>
    have hX : Below V8.heap.size V8 V8 := Below.refl _ _
    obtain ⟨f1, f2, f3, f4⟩ := HS.out.below hX
    have l1 : cs < V8.heap.size := World.block_lt_of_cell? _ _ f1
    clear HU
    go_region_held3 (fun w' => w'.cell? ⟨cs, 0, none⟩ = some (.int .u64 s0) ∧ w'.cell? ⟨cs, 1, none⟩ = some (.int .u64 s1) ∧ w'.cell? ⟨cs, 2, none⟩ = some (.int .u64 s2) ∧ w'.cell? ⟨cs, 3, none⟩ = some (.int .u64 s3)) (go_keep) (first
      | (go_at_call 17; (with_reducible refine (C1.out _).mono ?_); rintro e1 x1 ⟨rfl, hb⟩; (first | (have za : P4 x1 V8.heap.size 0 0 0 0 := p4_early (w := World.drew V8) hb; obtain ⟨za0, za1, za2, za3⟩ := P4.cells za; obtain ⟨za4, za5, za6, za7⟩ := P4.free za; have za8 := P4.lt za) | skip); replace hX := below_then (show Below V8.heap.size V8 _ by first | exact hX | exact hX.drew | exact hX.alloc hX.size _ | exact hX.drew.alloc hX.drew.size _) hb; clear hb; have sx1 : V8.heap.size ≤ x1.heap.size := hX.size; have d1 : cs ≠ V8.heap.size := Nat.ne_of_lt l1; have d2 : V8.heap.size ≠ cs := Nat.ne_of_gt l1; clear f1 f2 f3 f4 l1; obtain ⟨f1, f2, f3, f4⟩ := HS.out.below hX; have l1 : cs < x1.heap.size := World.block_lt_of_cell? _ _ f1)
      | (go_at_call 16; (with_reducible refine (J4.out _).mono ?_); rintro e1 x2 ⟨rfl, hb⟩; (first | (have zc : P4 x2 x1.heap.size 0 0 0 0 := p4_early (w := x1) hb; obtain ⟨zc0, zc1, zc2, zc3⟩ := P4.cells zc; obtain ⟨zc4, zc5, zc6, zc7⟩ := P4.free zc; have zc8 := P4.lt zc) | skip); (first | (replace za := P4.below za (below_then (by first | exact Below.refl _ _ | exact below_allocs _ _) hb); obtain ⟨ya0, ya1, ya2, ya3⟩ := P4.cells za; obtain ⟨ya4, ya5, ya6, ya7⟩ := P4.free za; have ya8 := P4.lt za) | skip); replace hX := below_then (show Below V8.heap.size V8 _ by first | exact hX | exact hX.drew | exact hX.alloc hX.size _ | exact hX.drew.alloc hX.drew.size _) hb; clear hb; have d3 : cs ≠ x1.heap.size := Nat.ne_of_lt l1; have d4 : x1.heap.size ≠ cs := Nat.ne_of_gt l1; clear f1 f2 f3 f4 l1; obtain ⟨f1, f2, f3, f4⟩ := HS.out.below hX; have l1 : cs < x2.heap.size := World.block_lt_of_cell? _ _ f1; have d5 : cs ≠ x2.heap.size := Nat.ne_of_lt l1))
    all_goals
      go_wp2_with fail
      go_meet
      first
        | with_reducible exact CutS.of hX
        | with_reducible exact CutS.early hX (Nat.le_refl _) za
        | with_reducible exact CutS.early hX sx1 zc
  obtain ⟨cd, rfl, rfl, UD, hX⟩ := hcut
  obtain ⟨W6, h6⟩ : ∃ x : World, x = wc := ⟨_, rfl⟩
  subst h6
  have US := HS.out.below hX
  have UB := HU.out.1.below hX
  have UC := HU.out.2.1.below hX
  have hB := below_then HU.out.2.2 hX
  clear HS HU hX
  obtain ⟨k1, k2, k3, k4⟩ := US
  have US := F4.mk k1 k2 k3 k4
  go_wp2_with fail
  clear k1 k2 k3 k4
  refine (J5.out _).mono ?_
  rintro e W7 ⟨rfl, hb⟩
  replace US := US.below hb
  replace UB := UB.below hb
  replace UC := UC.below hb
  replace UD := UD.below hb
  replace hB := below_then hB hb
  clear hb
  go_upto_region 11 with fail
  have UZ := F4.new W7 s0 s1 s2 s3 26
  have LB := below_allocs W7 (.cells #[.int .u64 s0, .int .u64 s1, .int .u64 s2, .int .u64 s3] 26)
  replace US := US.below LB
  replace UB := UB.below LB
  replace UC := UC.below LB
  replace UD := UD.below LB
  replace hB := below_then hB LB
  clear LB
  generalize W7.alloc _ = V9 at US UB UC UD UZ hB ⊢
  generalize W7.heap.size = cz at UZ ⊢
  have HK := Lib.hid (And.intro US (And.intro UB (And.intro UC (And.intro UD UZ))))
  clear US UB UC UD UZ
  refine wp_region_class (fun w' => Below V9.heap.size V9 w') (by kernel_rfl) (by kernel_rfl) (Below.refl _ _).drew ?_
  iterate 35
    (refine WQ.yes ?_ (by rfl) (fun w' hC => ?_) ?_
     rotate_left
     · (obtain ⟨k1, k2, k3, k4⟩ := HK.out.1.below hC
        obtain ⟨b1', b2', b3', b4'⟩ := HK.out.2.1.below hC
        obtain ⟨c1', c2', c3', c4'⟩ := HK.out.2.2.1.below hC
        obtain ⟨d1', d2', d3', d4'⟩ := HK.out.2.2.2.1.below hC
        obtain ⟨z1', z2', z3', z4'⟩ := HK.out.2.2.2.2.below hC
        go_simp
        first
          | done
          | with_reducible rfl
          | exact ⟨rfl, rfl⟩
          | (go_at_call 12; (with_reducible exact quietA4 (ST.out _) hC)))
     (try simp only [Act.put, List.setIfInBounds_toArray, List.set_cons_zero, List.set_cons_succ]))
  refine WQ.nil ?_
  intro wz hX
  go_wp2
  go_ret
  exact ⟨rfl, below_then hB hX⟩
set_option maxHeartbeats 2000000 in
theorem pjumpsNone (aw : Hid (∀ W, Calls Try.prog 8 #[] W (Bl true W))) (s0 s1 s2 s3 n0 n1 m0 m1 : Int) (w : World)
    (R : Hid (TB 14 #[.agg #[.int .u64 s0, .int .u64 s1, .int .u64 s2, .int .u64 s3]] false)) :
    Calls Try.prog 6 #[.agg #[.int .u64 s0, .int .u64 s1, .int .u64 s2, .int .u64 s3], .agg #[.int .u64 n0, .int .u64 n1], .agg #[.int .u64 m0, .int .u64 m1]] w (Bl true w) := by
  have hB : Below w.heap.size w w := Below.refl _ _
  go_enter Try.func6, Try.ntmps6
  go_wp2_with fail
  have US := F4.new w s0 s1 s2 s3 26
  replace hB := below_alloc hB (.cells #[.int .u64 s0, .int .u64 s1, .int .u64 s2, .int .u64 s3] 26)
  generalize w.alloc _ = V1 at US hB ⊢
  have L2 := below_then (below_allocs V1 (.cells #[.int .u64 n0, .int .u64 n1] 24)) (below_allocs _ (.cells #[.int .u64 m0, .int .u64 m1] 24))
  replace US := US.below L2
  replace hB := below_then hB L2
  clear L2
  generalize World.alloc (World.alloc V1 _) _ = V3 at US hB ⊢
  refine (aw.out _).mono ?_
  rintro e W0 ⟨rfl, hb⟩
  obtain ⟨k1, k2, k3, k4⟩ := US.below hb
  replace hB := below_then hB hb
  clear hb aw US
  go_wp2_with fail
  clear k1 k2 k3 k4
  refine (R.out _).mono ?_
  rintro e W1 ⟨rfl, hb⟩
  replace hB := below_then hB hb
  clear hb R
  go_wp2
  go_ret
  exact ⟨rfl, hB⟩
theorem pcgJumps (X : PX) (aw : Hid (∀ W, Calls Try.prog 8 #[] W (Bl true W))) (s : Ps) {n0 n1 m0 m1 : Int} {N M : Nat} (hs : s.Ok) (i : Wn n0 n1 N) (j : Wn m0 m1 M) (w : World) :
    Calls Try.prog 6 #[s.val, .agg #[.int .u64 n0, .int .u64 n1], .agg #[.int .u64 m0, .int .u64 m1]] w (Bl true w) := by
  rcases Nat.mod_two_eq_zero_or_one s.I with ev | od
  · have R := fun W => X.right s W hs
    rw [decide_eq_false (by omega)] at R
    exact pjumpsNone aw _ _ _ _ _ _ _ _ w (Lib.hid R)
  · have R := fun W => X.right s W hs
    rw [decide_eq_true od] at R
    have J2 := fun W => X.jumpY (jumpP s N) m0 m1 M W (jumpP_ok hs N) od j
    rw [jump_add] at J2
    have J3 := fun W => X.jumpY s _ _ ((N + M) % Q) W hs od (wn_of (Nat.mod_lt _ (by decide)))
    rw [jump_mod od] at J3
    have J4 := fun W => X.jumpY s 0 1 1 W hs od ⟨by decide, by decide, by decide, by decide, by decide⟩
    rw [jump_one hs] at J4
    have J5 := fun W => X.jumpY s 0 0 0 W hs od ⟨by decide, by decide, by decide, by decide, by decide⟩
    rw [jump_zero hs] at J5
    exact pjumpsMain aw _ _ _ _ _ _ _ _ _ _ _ _ _ _ _ _ _ w (Lib.hid R) (Lib.hid fun W => cAdd128 i j W) (Lib.hid fun W => cOf 1 1 rfl (by decide) W) (Lib.hid fun W => X.jumpY s n0 n1 N W hs od i) (Lib.hid J2) (Lib.hid J3) (Lib.hid J4) (Lib.hid J5) (Lib.hid fun W => X.step s W hs)
end Go.Proofs.Ythnmekieanndgaa
