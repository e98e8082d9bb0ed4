/-
  What Inverse of package affine answers.
-/
import Derived.Test.YthnmekieanndgaaAffXo
namespace Go.Proofs.Ythnmekieanndgaa
open Go.RowKit G
set_option linter.unusedVariables false
set_option maxRecDepth 100000

set_option maxHeartbeats 4000000 in
theorem xinvNo (a0 a1 a2 a3 : Int) (w : World)
    (OD : Hid (∀ W, Calls Try.prog 42 #[.agg #[.int .u64 a0, .int .u64 a1]] W (fun e w' => e = .returned (.tuple #[.agg #[.int .u64 0, .int .u64 0], .int .i64 1]) ∧ Below W.heap.size W w'))) :
    Calls Try.prog 33 #[.agg #[.int .u64 a0, .int .u64 a1, .int .u64 a2, .int .u64 a3]] w (AnsME Mp.zero 1 w) := by
  have U := B4.new w a0 a1 a2 a3
  have z1 : (w.alloc (.cells #[.int .u64 a0, .int .u64 a1, .int .u64 a2, .int .u64 a3] 55)).heap.size = w.heap.size + 1 := Array.size_push _
  have L := below_allocs w (.cells #[.int .u64 a0, .int .u64 a1, .int .u64 a2, .int .u64 a3] 55)
  have H1 := Lib.hid (And.intro U (And.intro z1 L))
  clear U z1 L
  go_enter Try.func33, Try.ntmps33
  go_upto_region 1 with fail
  generalize w.alloc _ = V1 at H1 ⊢
  have UX := ZB.new V1
  rw [H1.out.2.1] at UX
  have LB := below_allocs V1 (.cells #[.int .u64 0, .int .u64 0, .int .u64 0, .int .u64 0] 55)
  have H2 := Lib.hid (And.intro (H1.out.1.below LB) (And.intro UX (below_then H1.out.2.2 LB)))
  clear UX LB H1
  generalize V1.alloc _ = V2 at H2 ⊢
  have hc : w.heap.size ≤ w.heap.size + 1 := Nat.le_succ _
  generalize w.heap.size + 1 = cz at H2 hc ⊢
  obtain ⟨x1, x2, x3, x4⟩ := H2.out.1.cells
  go_wp2_with fail
  clear x1 x2 x3 x4
  refine (OD.out _).mono ?_
  rintro e V3 ⟨rfl, hb⟩
  have H3 := Lib.hid (And.intro (H2.out.1.below hb) (And.intro (B4.below H2.out.2.1 hb) (below_then H2.out.2.2 hb)))
  clear H2 hb OD
  have LB := below_allocs V3 (.cells #[.int .u64 0, .int .u64 0] 24)
  have H4 := Lib.hid (And.intro (B4.below H3.out.2.1 LB) (below_then H3.out.2.2 LB))
  clear LB H3
  go_upto_region 3 with fail
  generalize V3.alloc _ = V4 at H4 ⊢
  have HR := Lib.hid (B4.put (p' := 0) (q' := 0) (r' := 0) (s' := 0) H4.out.1)
  have HB : Hid (Below w.heap.size w ((((V4.setCell ⟨cz, 0, none⟩ (.int .u64 0)).setCell ⟨cz, 1, none⟩ (.int .u64 0)).setCell ⟨cz, 2, none⟩ (.int .u64 0)).setCell ⟨cz, 3, none⟩ (.int .u64 0))) := Lib.hid (below_put4 H4.out.2 hc)
  obtain ⟨x1, x2, x3, x4⟩ := B4.cells H4.out.1
  obtain ⟨f1, f2, f3, f4⟩ := B4.free H4.out.1
  clear H4
  go_wp2_with fail
  generalize World.setCell (World.setCell (World.setCell (World.setCell V4 _ _) _ _) _ _) _ _ = V9 at HR HB ⊢
  obtain ⟨r1, r2, r3, r4⟩ := HR.out.cells
  try simp only [Exit.inBlock, Exit.then, Exit.noGoto]
  refine bodyPost_ret (by simp [results, Try.results33, go_sem, r1, r2, r3, r4]; try rfl) rfl ?_
  exact ⟨rfl, HB.out⟩
set_option maxHeartbeats 8000000 in
theorem xinvYes (a0 a1 a2 a3 b0 b1 o0 o1 s0 s1 : Int) (u : Bool) (w : World)
    (OD : Hid (∀ W, Calls Try.prog 42 #[.agg #[.int .u64 a0, .int .u64 a1]] W (fun e w' => e = .returned (.tuple #[.agg #[.int .u64 b0, .int .u64 b1], .int .i64 0]) ∧ Below W.heap.size W w')))
    (O : Hid (TN 17 #[.int .u64 0] 0 0))
    (M : Hid (TN 34 #[.agg #[.int .u64 b0, .int .u64 b1], .agg #[.int .u64 a2, .int .u64 a3]] o0 o1))
    (D : Hid (TNB 43 #[.agg #[.int .u64 0, .int .u64 0], .agg #[.int .u64 o0, .int .u64 o1]] s0 s1 u)) :
    Calls Try.prog 33 #[.agg #[.int .u64 a0, .int .u64 a1, .int .u64 a2, .int .u64 a3]] w (fun e w' => e = .returned (.tuple #[.agg #[.int .u64 b0, .int .u64 b1, .int .u64 s0, .int .u64 s1], .int .i64 0]) ∧ Below w.heap.size w w') := by
  have U := B4.new w a0 a1 a2 a3
  have z1 : (w.alloc (.cells #[.int .u64 a0, .int .u64 a1, .int .u64 a2, .int .u64 a3] 55)).heap.size = w.heap.size + 1 := Array.size_push _
  have L := below_allocs w (.cells #[.int .u64 a0, .int .u64 a1, .int .u64 a2, .int .u64 a3] 55)
  have H1 := Lib.hid (And.intro U (And.intro z1 L))
  clear U z1 L
  go_enter Try.func33, Try.ntmps33
  go_upto_region 1 with fail
  generalize w.alloc _ = V1 at H1 ⊢
  have UX := ZB.new V1
  rw [H1.out.2.1] at UX
  have LB := below_allocs V1 (.cells #[.int .u64 0, .int .u64 0, .int .u64 0, .int .u64 0] 55)
  have H2 := Lib.hid (And.intro (H1.out.1.below LB) (And.intro UX (below_then H1.out.2.2 LB)))
  clear UX LB H1
  generalize V1.alloc _ = V2 at H2 ⊢
  have hc : w.heap.size ≤ w.heap.size + 1 := Nat.le_succ _
  generalize w.heap.size + 1 = cz at H2 hc ⊢
  obtain ⟨x1, x2, x3, x4⟩ := H2.out.1.cells
  go_wp2_with fail
  clear x1 x2 x3 x4
  refine (OD.out _).mono ?_
  rintro e V3 ⟨rfl, hb⟩
  have H3 := Lib.hid (And.intro (H2.out.1.below hb) (And.intro (B4.below H2.out.2.1 hb) (below_then H2.out.2.2 hb)))
  clear H2 hb OD
  have UB := U2.new V3 b0 b1
  have LB := below_allocs V3 (.cells #[.int .u64 b0, .int .u64 b1] 24)
  have HK := Lib.hid (And.intro (H3.out.1.below LB) (And.intro (B4.below H3.out.2.1 LB) (And.intro UB (below_then H3.out.2.2 LB))))
  clear UB LB H3
  go_upto_region 4 with fail
  generalize V3.alloc _ = W5 at HK ⊢
  generalize V3.heap.size = cb at HK ⊢
  go_cut [6] (CutU W5 s0 s1)
  case first =>
    have hX : Below W5.heap.size W5 W5 := Below.refl _ _
    obtain ⟨f1, f2⟩ := HK.out.2.2.1.cells
    obtain ⟨_, _, f3, f4⟩ := HK.out.1.cells
    have l0 : cb < W5.heap.size := HK.out.2.2.1.lt
    have l1 : w.heap.size < W5.heap.size := HK.out.1.lt
    go_region_held3 (fun w' => w'.cell? ⟨cb, 0, none⟩ = some (.int .u64 b0) ∧ w'.cell? ⟨cb, 1, none⟩ = some (.int .u64 b1) ∧ w'.cell? ⟨w.heap.size, 2, none⟩ = some (.int .u64 a2) ∧ w'.cell? ⟨w.heap.size, 3, none⟩ = some (.int .u64 a3)) (go_keep) (first
    | (go_at_call 17; (with_reducible refine (O.out _).mono ?_); rintro e xo ⟨rfl, hb⟩; (first | (have z_W5 : U2 xo W5.heap.size 0 0 := u2_early (w := World.drew W5) hb; obtain ⟨aoW50, aoW51⟩ := U2.cells z_W5; obtain ⟨aoW52, aoW53⟩ := U2.free z_W5; have aoW54 := U2.lt z_W5) | (have z_xm : U2 xo xm.heap.size 0 0 := u2_early (w := xm) hb; obtain ⟨aoxm0, aoxm1⟩ := U2.cells z_xm; obtain ⟨aoxm2, aoxm3⟩ := U2.free z_xm; have aoxm4 := U2.lt z_xm) | skip); (first | (replace z_W5 := U2.below z_W5 hb; obtain ⟨boW50, boW51⟩ := U2.cells z_W5; obtain ⟨boW52, boW53⟩ := U2.free z_W5; have boW54 := U2.lt z_W5) | skip); (first | (replace z_xm := U2.below z_xm hb; obtain ⟨boxm0, boxm1⟩ := U2.cells z_xm; obtain ⟨boxm2, boxm3⟩ := U2.free z_xm; have boxm4 := U2.lt z_xm) | skip); replace hX := below_then (show Below W5.heap.size W5 _ by first | exact hX | exact hX.drew | exact hX.alloc hX.size _ | exact hX.drew.alloc hX.drew.size _) hb; clear hb; have s_xo : W5.heap.size ≤ xo.heap.size := hX.size; have do0 := Nat.ne_of_lt l0; have do0s := Nat.ne_of_gt l0; clear l0; have do1 := Nat.ne_of_lt l1; have do1s := Nat.ne_of_gt l1; clear l1; clear f1 f2 f3 f4; obtain ⟨f1, f2⟩ := (HK.out.2.2.1.below hX).cells; obtain ⟨_, _, f3, f4⟩ := (HK.out.1.below hX).cells; have l0 := (HK.out.2.2.1.below hX).lt; have l1 := (HK.out.1.below hX).lt; have eo0 := Nat.ne_of_lt l0; have eo0s := Nat.ne_of_gt l0; have eo1 := Nat.ne_of_lt l1; have eo1s := Nat.ne_of_gt l1)
    | (go_at_call 34; (with_reducible refine (M.out _).mono ?_); rintro e xm ⟨rfl, hb⟩; (first | (have z_W5 : U2 xm W5.heap.size 0 0 := u2_early (w := World.drew W5) hb; obtain ⟨amW50, amW51⟩ := U2.cells z_W5; obtain ⟨amW52, amW53⟩ := U2.free z_W5; have amW54 := U2.lt z_W5) | (have z_xo : U2 xm xo.heap.size 0 0 := u2_early (w := xo) hb; obtain ⟨amxo0, amxo1⟩ := U2.cells z_xo; obtain ⟨amxo2, amxo3⟩ := U2.free z_xo; have amxo4 := U2.lt z_xo) | skip); (first | (replace z_W5 := U2.below z_W5 hb; obtain ⟨bmW50, bmW51⟩ := U2.cells z_W5; obtain ⟨bmW52, bmW53⟩ := U2.free z_W5; have bmW54 := U2.lt z_W5) | skip); (first | (replace z_xo := U2.below z_xo hb; obtain ⟨bmxo0, bmxo1⟩ := U2.cells z_xo; obtain ⟨bmxo2, bmxo3⟩ := U2.free z_xo; have bmxo4 := U2.lt z_xo) | skip); replace hX := below_then (show Below W5.heap.size W5 _ by first | exact hX | exact hX.drew | exact hX.alloc hX.size _ | exact hX.drew.alloc hX.drew.size _) hb; clear hb; have s_xm : W5.heap.size ≤ xm.heap.size := hX.size; have dm0 := Nat.ne_of_lt l0; have dm0s := Nat.ne_of_gt l0; clear l0; have dm1 := Nat.ne_of_lt l1; have dm1s := Nat.ne_of_gt l1; clear l1; clear f1 f2 f3 f4; obtain ⟨f1, f2⟩ := (HK.out.2.2.1.below hX).cells; obtain ⟨_, _, f3, f4⟩ := (HK.out.1.below hX).cells; have l0 := (HK.out.2.2.1.below hX).lt; have l1 := (HK.out.1.below hX).lt; have em0 := Nat.ne_of_lt l0; have em0s := Nat.ne_of_gt l0; have em1 := Nat.ne_of_lt l1; have em1s := Nat.ne_of_gt l1)
    | (go_at_call 43; (with_reducible refine (D.out _).mono ?_); rintro e xs ⟨rfl, hb⟩; (first | (have z_W5 : U2 xs W5.heap.size 0 0 := u2_early (w := World.drew W5) hb; obtain ⟨asW50, asW51⟩ := U2.cells z_W5; obtain ⟨asW52, asW53⟩ := U2.free z_W5; have asW54 := U2.lt z_W5) | (have z_xo : U2 xs xo.heap.size 0 0 := u2_early (w := xo) hb; obtain ⟨asxo0, asxo1⟩ := U2.cells z_xo; obtain ⟨asxo2, asxo3⟩ := U2.free z_xo; have asxo4 := U2.lt z_xo) | (have z_xm : U2 xs xm.heap.size 0 0 := u2_early (w := xm) hb; obtain ⟨asxm0, asxm1⟩ := U2.cells z_xm; obtain ⟨asxm2, asxm3⟩ := U2.free z_xm; have asxm4 := U2.lt z_xm) | skip); (first | (replace z_W5 := U2.below z_W5 hb; obtain ⟨bsW50, bsW51⟩ := U2.cells z_W5; obtain ⟨bsW52, bsW53⟩ := U2.free z_W5; have bsW54 := U2.lt z_W5) | skip); (first | (replace z_xo := U2.below z_xo hb; obtain ⟨bsxo0, bsxo1⟩ := U2.cells z_xo; obtain ⟨bsxo2, bsxo3⟩ := U2.free z_xo; have bsxo4 := U2.lt z_xo) | skip); (first | (replace z_xm := U2.below z_xm hb; obtain ⟨bsxm0, bsxm1⟩ := U2.cells z_xm; obtain ⟨bsxm2, bsxm3⟩ := U2.free z_xm; have bsxm4 := U2.lt z_xm) | skip); replace hX := below_then (show Below W5.heap.size W5 _ by first | exact hX | exact hX.drew | exact hX.alloc hX.size _ | exact hX.drew.alloc hX.drew.size _) hb; clear hb; have s_xs : W5.heap.size ≤ xs.heap.size := hX.size; have ds0 := Nat.ne_of_lt l0; have ds0s := Nat.ne_of_gt l0; clear l0; have ds1 := Nat.ne_of_lt l1; have ds1s := Nat.ne_of_gt l1; clear l1; clear f1 f2 f3 f4; obtain ⟨f1, f2⟩ := (HK.out.2.2.1.below hX).cells; obtain ⟨_, _, f3, f4⟩ := (HK.out.1.below hX).cells; have l0 := (HK.out.2.2.1.below hX).lt; have l1 := (HK.out.1.below hX).lt; have es0 := Nat.ne_of_lt l0; have es0s := Nat.ne_of_gt l0; have es1 := Nat.ne_of_lt l1; have es1s := Nat.ne_of_gt l1))
    all_goals
      go_wp2_with fail
      go_meet
      first
        | with_reducible exact CutU.of hX
        | with_reducible exact CutU.early hX (Nat.le_refl _) z_W5
        | with_reducible exact CutU.early hX s_xo z_xo
        | with_reducible exact CutU.early hX s_xm z_xm
        | with_reducible exact CutU.early hX s_xs z_xs
  obtain ⟨bf, rfl, UF, hX⟩ := hcut
  have Z := B4.below HK.out.2.1 hX
  have HR := Lib.hid (B4.put (p' := b0) (q' := b1) (r' := s0) (s' := s1) Z)
  have HB : Hid (Below w.heap.size w ((((wc.setCell ⟨cz, 0, none⟩ (.int .u64 b0)).setCell ⟨cz, 1, none⟩ (.int .u64 b1)).setCell ⟨cz, 2, none⟩ (.int .u64 s0)).setCell ⟨cz, 3, none⟩ (.int .u64 s1))) := Lib.hid (below_put4 (below_then HK.out.2.2.2 hX) hc)
  obtain ⟨n1, n2⟩ := UF.cells
  obtain ⟨y1, y2⟩ := (HK.out.2.2.1.below hX).cells
  obtain ⟨x1, x2, x3, x4⟩ := B4.cells Z
  obtain ⟨f1, f2, f3, f4⟩ := B4.free Z
  clear HK UF hX Z M D O
  go_wp2_with fail
  generalize World.setCell (World.setCell (World.setCell (World.setCell wc _ _) _ _) _ _) _ _ = V9 at HR HB ⊢
  obtain ⟨r1, r2, r3, r4⟩ := HR.out.cells
  try simp only [Exit.inBlock, Exit.then, Exit.noGoto]
  refine bodyPost_ret (by simp [results, Try.results33, go_sem, r1, r2, r3, r4]; try rfl) rfl ?_
  exact ⟨rfl, HB.out⟩
theorem xInvN (m : Mp) (W : World) (hm : m.Ok) (h : m.A % 2 = 0) : Calls Try.prog 33 #[m.val] W (AnsME Mp.zero 1 W) :=
  xinvNo _ _ _ _ W (Lib.hid fun V => xOddN _ _ m.A V (wn_of hm.a) h)
theorem neg_is (x : Nat) : (0 + (Q - x % Q)) % Q = negQ x := by rw [Nat.zero_add]; rfl
theorem xInvY (m : Mp) (W : World) (hm : m.Ok) (h : m.A % 2 = 1) : Calls Try.prog 33 #[m.val] W (AnsME (invM m) 0 W) := by
  have j0 : Wn 0 0 0 := ⟨by decide, by decide, by decide, by decide, rfl⟩
  have l1 : invQ m.A * m.C % Q < Q := Nat.mod_lt _ (by decide)
  have D := fun V => cSub128 j0 (wn_of l1) V
  rw [neg_is] at D
  exact xinvYes _ _ _ _ _ _ _ _ _ _ _ W (Lib.hid fun V => xOddY _ _ m.A V (wn_of hm.a) h) (Lib.hid fun V => cOf 0 0 rfl (by decide) V) (Lib.hid fun V => cMul128 (wn_of (invQ_ok h).1) (wn_of hm.c) V) (Lib.hid D)
end Go.Proofs.Ythnmekieanndgaa
