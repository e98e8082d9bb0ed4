/-
  What half's Word answers. Made by wip/gen/hfx.py.
-/
import Derived.Test.YtdmoedjjbhkdmaaHfXa
namespace Go.Proofs.Ytdmoedjjbhkdmaa
open Go.RowKit G
set_option linter.unusedVariables false
set_option maxRecDepth 100000

def Z4p (w : World) (b : Nat) : Prop := B4 47 w b 0 0 0 0
section
variable {w w' : World} {b : Nat}
theorem Z4p.cells (h : Z4p w b) : w.cell? ⟨b, 0, none⟩ = some (.int .u32 0) ∧ w.cell? ⟨b, 1, none⟩ = some (.int .u32 0) ∧ w.cell? ⟨b, 2, none⟩ = some (.int .u32 0) ∧ w.cell? ⟨b, 3, none⟩ = some (.int .u32 0) := B4.cells h
theorem Z4p.free (h : Z4p w b) : w.frozen? ⟨b, 0, none⟩ = false ∧ w.frozen? ⟨b, 1, none⟩ = false ∧ w.frozen? ⟨b, 2, none⟩ = false ∧ w.frozen? ⟨b, 3, none⟩ = false := B4.free h
theorem Z4p.lt (h : Z4p w b) : b < w.heap.size := B4.lt h
theorem Z4p.below (h : Z4p w b) (hb : Below w.heap.size w w') : Z4p w' b := B4.below h hb
end
theorem z4p_early {w v : World} (hb : Below (w.alloc (.cells #[.int .u32 0, .int .u32 0, .int .u32 0, .int .u32 0] 47)).heap.size (w.alloc (.cells #[.int .u32 0, .int .u32 0, .int .u32 0, .int .u32 0] 47)) v) : Z4p v w.heap.size := B4.below (B4.new 47 w 0 0 0 0) hb
/-- Behind a region that lays a block, and a number beside it. -/
def CutW (W0 : World) (p q r s i : Int) (v u : Value) (wr : World) : Prop := ∃ b, v = .pointer (some ⟨b, 0, none⟩) ∧ u = .int .i64 i ∧ B4 47 wr b p q r s ∧ Below W0.heap.size W0 wr
section
variable {W0 v : World} {b : Nat} {p q r s i : Int}
theorem CutW.of (hb : Below W0.heap.size W0 v) : CutW W0 p q r s i (.pointer (some ⟨v.heap.size, 0, none⟩)) (.int .i64 i) (v.alloc (.cells #[.int .u32 p, .int .u32 q, .int .u32 r, .int .u32 s] 47)) := ⟨_, rfl, rfl, B4.new _ v p q r s, below_alloc hb _⟩
theorem CutW.early (hb : Below W0.heap.size W0 v) (le : W0.heap.size ≤ b) (z : Z4p v b) : CutW W0 p q r s i (.pointer (some ⟨b, 0, none⟩)) (.int .i64 i) ((((v.setCell ⟨b, 0, none⟩ (.int .u32 p)).setCell ⟨b, 1, none⟩ (.int .u32 q)).setCell ⟨b, 2, none⟩ (.int .u32 r)).setCell ⟨b, 3, none⟩ (.int .u32 s)) := ⟨_, rfl, rfl, B4.put z, below_put4 hb le _ _ _ _⟩
end
set_option maxHeartbeats 8000000 in
theorem xwordMain (h l k m : Int) (bs : Bool) (a b c d p q r s v0 v1 : Int) (B : Hid (T4 18 #[.agg #[.int .u64 h, .int .u64 l]] a b c d)) (M : Hid (T4 27 #[.agg #[.int .u32 a, .int .u32 b, .int .u32 c, .int .u32 d], .agg #[.int .u32 k, .int .u32 m]] p q r s))
    (i : Int) (hi : Hid (i = if bs then 2 else 0)) (G : Hid (TI 28 #[.bool bs] i)) (PA : Hid (TU 29 #[.int .u32 p, .int .u32 q] v0)) (PB : Hid (TU 29 #[.int .u32 r, .int .u32 s] v1)) :
    TU 14 #[.agg #[.int .u64 h, .int .u64 l, .int .u32 k, .int .u32 m, .bool bs]] (if bs then v1 else v0) := fun w => by
  have HK := Lib.hid (And.intro (K5.new 29 w ⟨h, l, k, m, bs⟩) (below_allocs w (.cells #[.int .u64 h, .int .u64 l, .int .u32 k, .int .u32 m, .bool bs] 29)))
  go_enter Try.func14, Try.ntmps14
  go_upto_region 1 with fail
  generalize w.alloc _ = W5 at HK ⊢
  go_cut [3, 4] (CutW W5 p q r s i)
  case first =>
    have hX : Below W5.heap.size W5 W5 := Below.refl _ _
    obtain ⟨f0, f1, f2, f3, f4⟩ := HK.out.1.cells
    have l0 : w.heap.size < W5.heap.size := HK.out.1.lt
    go_region_held3 (fun w' => w'.cell? ⟨w.heap.size, 0, none⟩ = some (.int .u64 h) ∧ w'.cell? ⟨w.heap.size, 1, none⟩ = some (.int .u64 l) ∧ w'.cell? ⟨w.heap.size, 2, none⟩ = some (.int .u32 k) ∧ w'.cell? ⟨w.heap.size, 3, none⟩ = some (.int .u32 m) ∧ w'.cell? ⟨w.heap.size, 4, none⟩ = some (.bool bs)) (go_keep) (first
      | (go_at_call 18; (with_reducible refine (B.out _).mono ?_); rintro e xb ⟨rfl, hb⟩; (first | (have z_W5 : Z4p xb W5.heap.size := z4p_early (w := World.drew W5) hb; obtain ⟨abW50, abW51, abW52, abW53⟩ := Z4p.cells z_W5; obtain ⟨abW54, abW55, abW56, abW57⟩ := Z4p.free z_W5; have abW5l := Z4p.lt z_W5) | (have z_xg : Z4p xb xg.heap.size := z4p_early (w := xg) hb; obtain ⟨abxg0, abxg1, abxg2, abxg3⟩ := Z4p.cells z_xg; obtain ⟨abxg4, abxg5, abxg6, abxg7⟩ := Z4p.free z_xg; have abxgl := Z4p.lt z_xg) | skip); (first | (replace z_W5 := Z4p.below z_W5 hb; obtain ⟨bbW50, bbW51, bbW52, bbW53⟩ := Z4p.cells z_W5; obtain ⟨bbW54, bbW55, bbW56, bbW57⟩ := Z4p.free z_W5; have bbW5l := Z4p.lt z_W5) | skip); (first | (replace z_xg := Z4p.below z_xg hb; obtain ⟨bbxg0, bbxg1, bbxg2, bbxg3⟩ := Z4p.cells z_xg; obtain ⟨bbxg4, bbxg5, bbxg6, bbxg7⟩ := Z4p.free z_xg; have bbxgl := Z4p.lt z_xg) | skip); replace hX := below_then (show Below W5.heap.size W5 _ by first | exact hX | exact hX.drew | exact hX.alloc hX.size _ | exact hX.drew.alloc hX.drew.size _) hb; clear hb; have s_xb : W5.heap.size ≤ xb.heap.size := hX.size; have db0 := Nat.ne_of_lt l0; have db0s := Nat.ne_of_gt l0; clear l0; clear f0 f1 f2 f3 f4; obtain ⟨f0, f1, f2, f3, f4⟩ := (HK.out.1.below hX).cells; have l0 := (HK.out.1.below hX).lt; have eb0 := Nat.ne_of_lt l0; have eb0s := Nat.ne_of_gt l0)
      | (go_at_call 27; (with_reducible refine (M.out _).mono ?_); rintro e xm ⟨rfl, hb⟩; (first | (have z_W5 : Z4p xm W5.heap.size := z4p_early (w := World.drew W5) hb; obtain ⟨amW50, amW51, amW52, amW53⟩ := Z4p.cells z_W5; obtain ⟨amW54, amW55, amW56, amW57⟩ := Z4p.free z_W5; have amW5l := Z4p.lt z_W5) | (have z_xb : Z4p xm xb.heap.size := z4p_early (w := xb) hb; obtain ⟨amxb0, amxb1, amxb2, amxb3⟩ := Z4p.cells z_xb; obtain ⟨amxb4, amxb5, amxb6, amxb7⟩ := Z4p.free z_xb; have amxbl := Z4p.lt z_xb) | (have z_xg : Z4p xm xg.heap.size := z4p_early (w := xg) hb; obtain ⟨amxg0, amxg1, amxg2, amxg3⟩ := Z4p.cells z_xg; obtain ⟨amxg4, amxg5, amxg6, amxg7⟩ := Z4p.free z_xg; have amxgl := Z4p.lt z_xg) | skip); (first | (replace z_W5 := Z4p.below z_W5 hb; obtain ⟨bmW50, bmW51, bmW52, bmW53⟩ := Z4p.cells z_W5; obtain ⟨bmW54, bmW55, bmW56, bmW57⟩ := Z4p.free z_W5; have bmW5l := Z4p.lt z_W5) | skip); (first | (replace z_xb := Z4p.below z_xb hb; obtain ⟨bmxb0, bmxb1, bmxb2, bmxb3⟩ := Z4p.cells z_xb; obtain ⟨bmxb4, bmxb5, bmxb6, bmxb7⟩ := Z4p.free z_xb; have bmxbl := Z4p.lt z_xb) | skip); (first | (replace z_xg := Z4p.below z_xg hb; obtain ⟨bmxg0, bmxg1, bmxg2, bmxg3⟩ := Z4p.cells z_xg; obtain ⟨bmxg4, bmxg5, bmxg6, bmxg7⟩ := Z4p.free z_xg; have bmxgl := Z4p.lt z_xg) | skip); replace hX := below_then (show Below W5.heap.size W5 _ by first | exact hX | exact hX.drew | exact hX.alloc hX.size _ | exact hX.drew.alloc hX.drew.size _) hb; clear hb; have s_xm : W5.heap.size ≤ xm.heap.size := hX.size; have dm0 := Nat.ne_of_lt l0; have dm0s := Nat.ne_of_gt l0; clear l0; clear f0 f1 f2 f3 f4; obtain ⟨f0, f1, f2, f3, f4⟩ := (HK.out.1.below hX).cells; have l0 := (HK.out.1.below hX).lt; have em0 := Nat.ne_of_lt l0; have em0s := Nat.ne_of_gt l0)
      | (go_at_call 28; (with_reducible refine (G.out _).mono ?_); rintro e xg ⟨rfl, hb⟩; (first | (have z_W5 : Z4p xg W5.heap.size := z4p_early (w := World.drew W5) hb; obtain ⟨agW50, agW51, agW52, agW53⟩ := Z4p.cells z_W5; obtain ⟨agW54, agW55, agW56, agW57⟩ := Z4p.free z_W5; have agW5l := Z4p.lt z_W5) | (have z_xb : Z4p xg xb.heap.size := z4p_early (w := xb) hb; obtain ⟨agxb0, agxb1, agxb2, agxb3⟩ := Z4p.cells z_xb; obtain ⟨agxb4, agxb5, agxb6, agxb7⟩ := Z4p.free z_xb; have agxbl := Z4p.lt z_xb) | (have z_xm : Z4p xg xm.heap.size := z4p_early (w := xm) hb; obtain ⟨agxm0, agxm1, agxm2, agxm3⟩ := Z4p.cells z_xm; obtain ⟨agxm4, agxm5, agxm6, agxm7⟩ := Z4p.free z_xm; have agxml := Z4p.lt z_xm) | skip); (first | (replace z_W5 := Z4p.below z_W5 hb; obtain ⟨bgW50, bgW51, bgW52, bgW53⟩ := Z4p.cells z_W5; obtain ⟨bgW54, bgW55, bgW56, bgW57⟩ := Z4p.free z_W5; have bgW5l := Z4p.lt z_W5) | skip); (first | (replace z_xb := Z4p.below z_xb hb; obtain ⟨bgxb0, bgxb1, bgxb2, bgxb3⟩ := Z4p.cells z_xb; obtain ⟨bgxb4, bgxb5, bgxb6, bgxb7⟩ := Z4p.free z_xb; have bgxbl := Z4p.lt z_xb) | skip); (first | (replace z_xm := Z4p.below z_xm hb; obtain ⟨bgxm0, bgxm1, bgxm2, bgxm3⟩ := Z4p.cells z_xm; obtain ⟨bgxm4, bgxm5, bgxm6, bgxm7⟩ := Z4p.free z_xm; have bgxml := Z4p.lt z_xm) | skip); replace hX := below_then (show Below W5.heap.size W5 _ by first | exact hX | exact hX.drew | exact hX.alloc hX.size _ | exact hX.drew.alloc hX.drew.size _) hb; clear hb; have s_xg : W5.heap.size ≤ xg.heap.size := hX.size; have dg0 := Nat.ne_of_lt l0; have dg0s := Nat.ne_of_gt l0; clear l0; clear f0 f1 f2 f3 f4; obtain ⟨f0, f1, f2, f3, f4⟩ := (HK.out.1.below hX).cells; have l0 := (HK.out.1.below hX).lt; have eg0 := Nat.ne_of_lt l0; have eg0s := Nat.ne_of_gt l0))
    all_goals
      go_wp2_with fail
      go_meet
      first
          | with_reducible exact CutW.of hX
          | with_reducible exact CutW.early hX (Nat.le_refl _) z_W5
          | with_reducible exact CutW.early hX s_xb z_xb
          | with_reducible exact CutW.early hX s_xm z_xm
          | with_reducible exact CutW.early hX s_xg z_xg
  obtain ⟨bb, rfl, rfl, UB, hb⟩ := hcut
  have hB := below_then HK.out.2 hb
  clear HK B M G hb
  cases bs
  · clear PB
    obtain rfl : i = 0 := hi.out
    clear hi
    go_wp2_with fail
    refine wp_region_class (fun w' => Below wc.heap.size wc w') (by kernel_rfl) (by kernel_rfl) (Below.refl _ _).drew ?_
    iterate 9
      (refine WQ.yes ?_ (by rfl) (fun w' hC => ?_) ?_
       rotate_left
       · (obtain ⟨u0, u1, u2, u3⟩ := (UB.below hC).cells
          have n1 : IntKind.i64.wrap 1 = 1 := rfl
          have n3 : IntKind.i64.wrap 3 = 3 := rfl
          go_simp
          first
            | done
            | with_reducible rfl
            | exact ⟨rfl, rfl⟩
            | (go_at_call 29; (with_reducible exact quietU (PA.out _) hC)))
       (try simp only [Act.put, List.setIfInBounds_toArray, List.set_cons_zero, List.set_cons_succ]))
    refine WQ.nil ?_
    intro wz hX
    go_wp2
    go_ret
    exact ⟨rfl, below_then hB hX⟩
  · clear PA
    obtain rfl : i = 2 := hi.out
    clear hi
    go_wp2_with fail
    refine wp_region_class (fun w' => Below wc.heap.size wc w') (by kernel_rfl) (by kernel_rfl) (Below.refl _ _).drew ?_
    iterate 9
      (refine WQ.yes ?_ (by rfl) (fun w' hC => ?_) ?_
       rotate_left
       · (obtain ⟨u0, u1, u2, u3⟩ := (UB.below hC).cells
          have n1 : IntKind.i64.wrap 1 = 1 := rfl
          have n3 : IntKind.i64.wrap 3 = 3 := rfl
          go_simp
          first
            | done
            | with_reducible rfl
            | exact ⟨rfl, rfl⟩
            | (go_at_call 29; (with_reducible exact quietU (PB.out _) hC)))
       (try simp only [Act.put, List.setIfInBounds_toArray, List.set_cons_zero, List.set_cons_succ]))
    refine WQ.nil ?_
    intro wz hX
    go_wp2
    go_ret
    exact ⟨rfl, below_then hB hX⟩
theorem xWordH (x : Hs) (h : x.Ok) : TU 14 #[x.val] ((wordH x : Nat) : Int) := by
  have o := outH_ok h
  have := xwordMain _ _ _ _ x.s _ _ _ _ _ _ _ _ _ _ (Lib.hid (xBlock x.C h.c)) (Lib.hid (xOut (blockH x.C) x.K (blockH_ok _) h.k)) _ (Lib.hid rfl) (Lib.hid (xbegins x.s)) (Lib.hid (xpair (outH x).a (outH x).b o.a o.b)) (Lib.hid (xpair (outH x).c (outH x).d o.c o.d))
  unfold wordH
  rw [apply_ite (fun n : Nat => (n : Int))]
  exact this
end Go.Proofs.Ytdmoedjjbhkdmaa
