/-
  What the reference of layer 9 answers: Own, At, Then.
-/
import Derived.Test.YthnmekieanndgaaAffR
namespace Go.Proofs.Ythnmekieanndgaa
open Go.RowKit G
set_option linter.unusedVariables false
set_option maxRecDepth 100000

set_option maxHeartbeats 4000000 in
theorem atMain (a0 a1 c0 c1 h l p0 p1 s0 s1 : Int) (o : Bool)
    (M : Hid (TN 28 #[.agg #[.int .u64 a0, .int .u64 a1], .agg #[.int .u64 h, .int .u64 l]] p0 p1))
    (D : Hid (TNB 27 #[.agg #[.int .u64 p0, .int .u64 p1], .agg #[.int .u64 c0, .int .u64 c1]] s0 s1 o)) :
    TN 20 #[.agg #[.int .u64 a0, .int .u64 a1, .int .u64 c0, .int .u64 c1], .agg #[.int .u64 h, .int .u64 l]] s0 s1 := fun w => by
  have U := R4.new w a0 a1 c0 c1
  have z1 : (w.alloc (.cells #[.int .u64 a0, .int .u64 a1, .int .u64 c0, .int .u64 c1] 49)).heap.size = w.heap.size + 1 := Array.size_push _
  have L := below_alloc (Below.refl w.heap.size w) (.cells #[.int .u64 a0, .int .u64 a1, .int .u64 c0, .int .u64 c1] 49)
  have H1 := Lib.hid (And.intro U (And.intro z1 L))
  clear U z1 L
  go_enter Try.func20, Try.ntmps20
  go_upto_region 1 with fail
  generalize w.alloc _ = V1 at H1 ⊢
  have UX := R2.new V1 h l
  have z2 : (V1.alloc (.cells #[.int .u64 h, .int .u64 l] 31)).heap.size = w.heap.size + 1 + 1 := (Array.size_push _).trans (by rw [H1.out.2.1])
  rw [H1.out.2.1] at UX
  have LB := below_allocs V1 (.cells #[.int .u64 h, .int .u64 l] 31)
  have H2 := Lib.hid (And.intro (H1.out.1.below LB) (And.intro UX (And.intro z2 (below_then H1.out.2.2 LB))))
  clear UX z2 LB H1
  generalize V1.alloc _ = V2 at H2 ⊢
  have UZ := R2.new V2 0 0
  rw [H2.out.2.2.1] at UZ
  have LB := below_allocs V2 (.cells #[.int .u64 0, .int .u64 0] 31)
  have HK := Lib.hid (And.intro (H2.out.1.below LB) (And.intro (H2.out.2.1.below LB) (And.intro UZ (below_then H2.out.2.2.2 LB))))
  clear UZ LB H2
  generalize V2.alloc _ = V4 at HK ⊢
  have hc : w.heap.size ≤ w.heap.size + 1 := Nat.le_succ _
  generalize w.heap.size + 1 = cx at HK hc ⊢
  go_cut [5] (CutN V4 s0 s1)
  case first =>
    have hX : Below V4.heap.size V4 V4 := Below.refl _ _
    obtain ⟨f1, f2, f3, f4⟩ := HK.out.1.cells
    obtain ⟨f5, f6⟩ := HK.out.2.1.cells
    have l1 : w.heap.size < V4.heap.size := HK.out.1.lt
    have l2 : cx < V4.heap.size := HK.out.2.1.lt
    go_region_held3 (fun w' => w'.cell? ⟨w.heap.size, 0, none⟩ = some (.int .u64 a0) ∧ w'.cell? ⟨w.heap.size, 1, none⟩ = some (.int .u64 a1) ∧ w'.cell? ⟨w.heap.size, 2, none⟩ = some (.int .u64 c0) ∧ w'.cell? ⟨w.heap.size, 3, none⟩ = some (.int .u64 c1) ∧ w'.cell? ⟨cx, 0, none⟩ = some (.int .u64 h) ∧ w'.cell? ⟨cx, 1, none⟩ = some (.int .u64 l)) (go_keep) (first
      | (go_at_call 28; (with_reducible refine (M.out _).mono ?_); rintro e x1 ⟨rfl, hb⟩; (first | (have za : R2 x1 V4.heap.size 0 0 := r2_early (w := World.drew V4) hb; obtain ⟨za0, za1⟩ := R2.cells za; obtain ⟨za2, za3⟩ := R2.free za; have za4 := R2.lt za) | skip); replace hX := below_then (show Below V4.heap.size V4 _ by first | exact hX | exact hX.drew | exact hX.alloc hX.size _ | exact hX.drew.alloc hX.drew.size _) hb; clear hb; have sx1 : V4.heap.size ≤ x1.heap.size := hX.size; have d1 : w.heap.size ≠ V4.heap.size := Nat.ne_of_lt l1; have d2 : V4.heap.size ≠ w.heap.size := Nat.ne_of_gt l1; have d3 : cx ≠ V4.heap.size := Nat.ne_of_lt l2; have d4 : V4.heap.size ≠ cx := Nat.ne_of_gt l2; clear f1 f2 f3 f4 f5 f6 l1 l2; obtain ⟨f1, f2, f3, f4⟩ := (HK.out.1.below hX).cells; obtain ⟨f5, f6⟩ := (HK.out.2.1.below hX).cells; have l1 : w.heap.size < x1.heap.size := (HK.out.1.below hX).lt; have l2 : cx < x1.heap.size := (HK.out.2.1.below hX).lt)
      | (go_at_call 27; (with_reducible refine (D.out _).mono ?_); rintro e x2 ⟨rfl, hb⟩; (first | (have zc : R2 x2 x1.heap.size 0 0 := r2_early (w := x1) hb; obtain ⟨zc0, zc1⟩ := R2.cells zc; obtain ⟨zc2, zc3⟩ := R2.free zc; have zc4 := R2.lt zc) | skip); (first | (replace za := R2.below za (below_then (by first | exact Below.refl _ _ | exact below_allocs _ _) hb); obtain ⟨ya0, ya1⟩ := R2.cells za; obtain ⟨ya2, ya3⟩ := R2.free za; have ya4 := R2.lt za) | skip); replace hX := below_then (show Below V4.heap.size V4 _ by first | exact hX | exact hX.drew | exact hX.alloc hX.size _ | exact hX.drew.alloc hX.drew.size _) hb; clear hb; have d5 : w.heap.size ≠ x1.heap.size := Nat.ne_of_lt l1; have d6 : x1.heap.size ≠ w.heap.size := Nat.ne_of_gt l1; have d7 : cx ≠ x1.heap.size := Nat.ne_of_lt l2; have d8 : x1.heap.size ≠ cx := Nat.ne_of_gt l2; clear f1 f2 f3 f4 f5 f6 l1 l2; obtain ⟨f1, f2, f3, f4⟩ := (HK.out.1.below hX).cells; obtain ⟨f5, f6⟩ := (HK.out.2.1.below hX).cells; have l1 : w.heap.size < x2.heap.size := (HK.out.1.below hX).lt; have l2 : cx < x2.heap.size := (HK.out.2.1.below hX).lt; have d9 : w.heap.size ≠ x2.heap.size := Nat.ne_of_lt l1; have d10 : cx ≠ x2.heap.size := Nat.ne_of_lt l2))
    all_goals
      go_wp2_with fail
      go_meet
      first
        | with_reducible exact CutN.of hX
        | with_reducible exact CutN.early hX (Nat.le_refl _) za
        | with_reducible exact CutN.early hX sx1 zc
  obtain ⟨b, rfl, N, hX⟩ := hcut
  have hU := HK.out.2.2.1.below hX
  have HR := Lib.hid (R2.put (p' := s0) (q' := s1) hU)
  have HB : Hid (Below w.heap.size w ((wc.setCell ⟨cx + 1, 0, none⟩ (.int .u64 s0)).setCell ⟨cx + 1, 1, none⟩ (.int .u64 s1))) := Lib.hid (below_putR2 (below_then HK.out.2.2.2 hX) (Nat.le_trans hc (Nat.le_succ _)) _ _)
  obtain ⟨n1, n2⟩ := N.cells
  obtain ⟨z1, z2⟩ := hU.cells
  obtain ⟨f1, f2⟩ := hU.free
  clear HK M D hU N hX
  go_wp2_with fail
  generalize World.setCell (World.setCell wc _ _) _ _ = V5 at HR HB ⊢
  obtain ⟨r1, r2⟩ := HR.out.cells
  try simp only [Exit.inBlock, Exit.then, Exit.noGoto]
  refine bodyPost_ret (by simp [results, Try.results20, go_sem, r1, r2]; try rfl) rfl ?_
  exact ⟨rfl, HB.out⟩
end Go.Proofs.Ythnmekieanndgaa
