/-
  What the reference of layer 12 answers: Own, Block, Word, Step, Jump. Made by wip/gen/hfref.py.
-/
import Derived.Test.YtdmoedjjbhkdmaaHfA
import Derived.Test.YtdmoedjjbhkdmaaWideTp
import Derived.Test.YtdmoedjjbhkdmaaWideRj
namespace Go.Proofs.Ytdmoedjjbhkdmaa
open Go.RowKit G
set_option linter.unusedVariables false
set_option maxRecDepth 100000

set_option maxHeartbeats 4000000 in
theorem yOwnH (y : Hw) : TH 10 #[y.val] y := fun w => by
  have U := K5.new 29 w y
  have z1 : (w.alloc (.cells #[.int .u64 y.h, .int .u64 y.l, .int .u32 y.k, .int .u32 y.m, .bool y.s] 29)).heap.size = w.heap.size + 1 := Array.size_push _
  have L := below_allocs w (.cells #[.int .u64 y.h, .int .u64 y.l, .int .u32 y.k, .int .u32 y.m, .bool y.s] 29)
  have H1 := Lib.hid (And.intro U (And.intro z1 L))
  clear U z1 L
  go_enter Try.func10, Try.ntmps10
  go_upto_region 1 with fail
  generalize w.alloc _ = V1 at H1 ⊢
  have UZ := K5.new 37 V1 ⟨0, 0, 0, 0, false⟩
  rw [H1.out.2.1] at UZ
  have LB := below_allocs V1 (.cells #[.int .u64 0, .int .u64 0, .int .u32 0, .int .u32 0, .bool false] 37)
  have HK := Lib.hid (And.intro (H1.out.1.below LB) (And.intro UZ (below_then H1.out.2.2 LB)))
  clear UZ LB H1
  generalize V1.alloc _ = V4 at HK ⊢
  have hc : w.heap.size ≤ w.heap.size + 1 := Nat.le_succ _
  have hz : w.heap.size + 1 ≠ w.heap.size := Nat.succ_ne_self _
  generalize w.heap.size + 1 = cz at HK hc hz ⊢
  obtain ⟨x0, x1, x2, x3, x4⟩ := HK.out.1.cells
  have HZ := HK.out.2.1
  have hB := HK.out.2.2
  clear HK
  have HR := Lib.hid (K5.put HZ y)
  have HB := Lib.hid (below_put5 hB hc y)
  obtain ⟨y0, y1, y2, y3, y4⟩ := HZ.cells
  obtain ⟨f0, f1, f2, f3, f4⟩ := HZ.free
  unfold put5 at HR HB
  clear HZ hB
  go_wp2_with fail
  generalize World.setCell (World.setCell (World.setCell (World.setCell (World.setCell V4 _ _) _ _) _ _) _ _) _ _ = V9 at HR HB ⊢
  obtain ⟨r0, r1, r2, r3, r4⟩ := HR.out.cells
  try simp only [Exit.inBlock, Exit.then, Exit.noGoto]
  refine bodyPost_ret (by simp [results, Try.results10, go_sem, r0, r1, r2, r3, r4]; try rfl) rfl ?_
  exact ⟨rfl, HB.out⟩
/-- The two digits of 32 bits of a word. -/
structure Dg (P h l : Nat) : Prop where
  lt : P < 18446744073709551616
  hi : (P : Int) / 4294967296 = (h : Int)
  lo : (P : Int) % 4294967296 = (l : Int)
  td : (P : Int).tdiv 4294967296 = (h : Int)
  tm : (P : Int).tmod 4294967296 = (l : Int)
  wh : IntKind.u64.wrap (h : Int) = (h : Int)
  h32 : (h : Int) % 4294967296 = (h : Int)
  l32 : (l : Int) % 4294967296 = (l : Int)
theorem dg_of {P : Nat} (h : P < 18446744073709551616) : Dg P (P / 4294967296) (P % 4294967296) := by
  refine ⟨h, ?_, ?_, ?_, ?_, ?_, ?_, ?_⟩
  · omega
  · omega
  · rw [Int.tdiv_eq_ediv_of_nonneg (by omega)]
    omega
  · rw [Int.tmod_eq_emod_of_nonneg (by omega)]
    omega
  · rw [IntKind.wrap_u64]
    omega
  · omega
  · omega
set_option maxHeartbeats 4000000 in
theorem yblockMain (p q a b c d : Nat) (hp : Dg p b a) (hq : Dg q d c) (w : World) : Calls Try.prog 19 #[.agg #[.int .u64 (q : Int), .int .u64 (p : Int)]] w (fun e w' => e = .returned (.agg #[.int .u32 (a : Int), .int .u32 (b : Int), .int .u32 (c : Int), .int .u32 (d : Int)]) ∧ Below w.heap.size w w') := by
  obtain ⟨p1, p2, p3, p4, p5, p6, p7, p8⟩ := hp
  obtain ⟨q1, q2, q3, q4, q5, q6, q7, q8⟩ := hq
  have LB := below_allocs w (.cells #[.int .u64 (q : Int), .int .u64 (p : Int)] 35)
  have U := cells_new w (.int .u64 (q : Int)) (.int .u64 (p : Int)) 35
  have z1 : (w.alloc (.cells #[.int .u64 (q : Int), .int .u64 (p : Int)] 35)).heap.size = w.heap.size + 1 := Array.size_push _
  have H1 := Lib.hid (And.intro U (And.intro z1 LB))
  clear U z1 LB
  go_enter Try.func19, Try.ntmps19
  go_upto_region 1 with fail
  generalize w.alloc _ = V1 at H1 ⊢
  have UZ := B4.new 46 V1 0 0 0 0
  rw [H1.out.2.1] at UZ
  have LB := below_allocs V1 (.cells #[.int .u32 0, .int .u32 0, .int .u32 0, .int .u32 0] 46)
  have HK := Lib.hid (And.intro (two_below H1.out.1 LB) (And.intro UZ (below_then H1.out.2.2 LB)))
  clear UZ LB H1
  generalize V1.alloc _ = V4 at HK ⊢
  have hc : w.heap.size ≤ w.heap.size + 1 := Nat.le_succ _
  generalize w.heap.size + 1 = cz at HK hc ⊢
  have HR := Lib.hid (B4.put (p' := (a : Int)) (q' := (b : Int)) (r' := (c : Int)) (s' := (d : Int)) HK.out.2.1)
  have HB := Lib.hid (below_put4 HK.out.2.2 hc (.int .u32 (a : Int)) (.int .u32 (b : Int)) (.int .u32 (c : Int)) (.int .u32 (d : Int)))
  obtain ⟨x1, x2⟩ := HK.out.1
  obtain ⟨g1, g2, g3, g4⟩ := HK.out.2.1.cells
  obtain ⟨g5, g6, g7, g8⟩ := HK.out.2.1.free
  clear HK
  go_wp2_with fail
  generalize World.setCell (World.setCell (World.setCell (World.setCell V4 _ _) _ _) _ _) _ _ = V9 at HR HB ⊢
  obtain ⟨r1, r2, r3, r4⟩ := HR.out.cells
  try simp only [Exit.inBlock, Exit.then, Exit.noGoto]
  refine bodyPost_ret (by simp [results, Try.results19, go_sem, r1, r2, r3, r4]; try rfl) rfl ?_
  exact ⟨rfl, HB.out⟩
theorem yBlock (c : Nat) (h : c < 340282366920938463463374607431768211456) : TB 19 #[U c] (blockH c) := fun w => by
  have l1 : loW c < 18446744073709551616 := Nat.mod_lt _ (by decide)
  have l2 : hiW c < 18446744073709551616 := by unfold hiW; omega
  have e : blockH c = ⟨loW c % 4294967296, loW c / 4294967296, hiW c % 4294967296, hiW c / 4294967296⟩ := by
    unfold loW hiW
    refine Bk.same ?_ ?_ ?_ ?_
    · show c % 4294967296 = c % 18446744073709551616 % 4294967296
      omega
    · show c / 4294967296 % 4294967296 = c % 18446744073709551616 / 4294967296
      omega
    · show c / 18446744073709551616 % 4294967296 = c / 18446744073709551616 % 4294967296
      rfl
    · show c / 79228162514264337593543950336 % 4294967296 = c / 18446744073709551616 / 4294967296
      omega
  rw [e]
  exact yblockMain (loW c) (hiW c) _ _ _ _ (dg_of l1) (dg_of l2) w
def Z4r (w : World) (b : Nat) : Prop := B4 46 w b 0 0 0 0
section
variable {w w' : World} {b : Nat}
theorem Z4r.cells (h : Z4r w b) : w.cell? ⟨b, 0, none⟩ = some (.int .u32 0) ∧ w.cell? ⟨b, 1, none⟩ = some (.int .u32 0) ∧ w.cell? ⟨b, 2, none⟩ = some (.int .u32 0) ∧ w.cell? ⟨b, 3, none⟩ = some (.int .u32 0) := B4.cells h
theorem Z4r.free (h : Z4r w b) : w.frozen? ⟨b, 0, none⟩ = false ∧ w.frozen? ⟨b, 1, none⟩ = false ∧ w.frozen? ⟨b, 2, none⟩ = false ∧ w.frozen? ⟨b, 3, none⟩ = false := B4.free h
theorem Z4r.lt (h : Z4r w b) : b < w.heap.size := B4.lt h
theorem Z4r.below (h : Z4r w b) (hb : Below w.heap.size w w') : Z4r w' b := B4.below h hb
end
theorem z4r_early {w v : World} (hb : Below (w.alloc (.cells #[.int .u32 0, .int .u32 0, .int .u32 0, .int .u32 0] 46)).heap.size (w.alloc (.cells #[.int .u32 0, .int .u32 0, .int .u32 0, .int .u32 0] 46)) v) : Z4r v w.heap.size := B4.below (B4.new 46 w 0 0 0 0) hb
/-- Behind a region that lays a block. -/
def CutB (W0 : World) (p q r s : Int) (v : Value) (wr : World) : Prop := ∃ b, v = .pointer (some ⟨b, 0, none⟩) ∧ B4 46 wr b p q r s ∧ Below W0.heap.size W0 wr
section
variable {W0 v : World} {b : Nat} {p q r s : Int}
theorem CutB.of (hb : Below W0.heap.size W0 v) : CutB W0 p q r s (.pointer (some ⟨v.heap.size, 0, none⟩)) (v.alloc (.cells #[.int .u32 p, .int .u32 q, .int .u32 r, .int .u32 s] 46)) := ⟨_, rfl, B4.new _ v p q r s, below_alloc hb _⟩
theorem CutB.early (hb : Below W0.heap.size W0 v) (le : W0.heap.size ≤ b) (z : Z4r v b) : CutB W0 p q r s (.pointer (some ⟨b, 0, none⟩)) ((((v.setCell ⟨b, 0, none⟩ (.int .u32 p)).setCell ⟨b, 1, none⟩ (.int .u32 q)).setCell ⟨b, 2, none⟩ (.int .u32 r)).setCell ⟨b, 3, none⟩ (.int .u32 s)) := ⟨_, rfl, B4.put z, below_put4 hb le _ _ _ _⟩
end
set_option maxHeartbeats 8000000 in
theorem ywordMain (y : Hw) (a b c d p q r s : Int) (v0 v1 v2 v3 : Int) (B : Hid (T4 19 #[.agg #[.int .u64 y.h, .int .u64 y.l]] a b c d)) (M : Hid (T4 25 #[.agg #[.int .u32 a, .int .u32 b, .int .u32 c, .int .u32 d], .agg #[.int .u32 y.k, .int .u32 y.m], .int .i64 10] p q r s))
    (wp : IntKind.u64.wrap p = p) (wq : IntKind.u64.wrap q = q) (wr : IntKind.u64.wrap r = r) (wsd : IntKind.u64.wrap s = s) (e0 : IntKind.u64.wrap (4294967296 * q) = v0) (e1 : IntKind.u64.wrap (p + v0) = v1) (e2 : IntKind.u64.wrap (4294967296 * s) = v2) (e3 : IntKind.u64.wrap (r + v2) = v3) (w : World) :
    Calls Try.prog 11 #[y.val] w (fun e w' => e = .returned (.int .u64 (if y.s then v3 else v1)) ∧ Below w.heap.size w w') := by
  have HK := Lib.hid (And.intro (K5.new 37 w y) (below_allocs w (.cells #[.int .u64 y.h, .int .u64 y.l, .int .u32 y.k, .int .u32 y.m, .bool y.s] 37)))
  go_enter Try.func11, Try.ntmps11
  go_upto_region 1 with fail
  generalize w.alloc _ = W5 at HK ⊢
  go_cut [3] (CutB W5 p q r s)
  case first =>
    have hX : Below W5.heap.size W5 W5 := Below.refl _ _
    obtain ⟨f0, f1, f2, f3, f4⟩ := HK.out.1.cells
    have l0 : w.heap.size < W5.heap.size := HK.out.1.lt
    clear e0 e1 e2 e3 wp wq wr wsd
    go_region_held3 (fun w' => w'.cell? ⟨w.heap.size, 0, none⟩ = some (.int .u64 y.h) ∧ w'.cell? ⟨w.heap.size, 1, none⟩ = some (.int .u64 y.l) ∧ w'.cell? ⟨w.heap.size, 2, none⟩ = some (.int .u32 y.k) ∧ w'.cell? ⟨w.heap.size, 3, none⟩ = some (.int .u32 y.m) ∧ w'.cell? ⟨w.heap.size, 4, none⟩ = some (.bool y.s)) (go_keep) (first
      | (go_at_call 19; (with_reducible refine (B.out _).mono ?_); rintro e xb ⟨rfl, hb⟩; (first | (have z_W5 : Z4r xb W5.heap.size := z4r_early (w := World.drew W5) hb; obtain ⟨abW50, abW51, abW52, abW53⟩ := Z4r.cells z_W5; obtain ⟨abW54, abW55, abW56, abW57⟩ := Z4r.free z_W5; have abW5l := Z4r.lt z_W5) | skip); (first | (replace z_W5 := Z4r.below z_W5 hb; obtain ⟨bbW50, bbW51, bbW52, bbW53⟩ := Z4r.cells z_W5; obtain ⟨bbW54, bbW55, bbW56, bbW57⟩ := Z4r.free z_W5; have bbW5l := Z4r.lt z_W5) | skip); replace hX := below_then (show Below W5.heap.size W5 _ by first | exact hX | exact hX.drew | exact hX.alloc hX.size _ | exact hX.drew.alloc hX.drew.size _) hb; clear hb; have s_xb : W5.heap.size ≤ xb.heap.size := hX.size; have db0 := Nat.ne_of_lt l0; have db0s := Nat.ne_of_gt l0; clear l0; clear f0 f1 f2 f3 f4; obtain ⟨f0, f1, f2, f3, f4⟩ := (HK.out.1.below hX).cells; have l0 := (HK.out.1.below hX).lt; have eb0 := Nat.ne_of_lt l0; have eb0s := Nat.ne_of_gt l0)
      | (go_at_call 25; (with_reducible refine (M.out _).mono ?_); rintro e xm ⟨rfl, hb⟩; (first | (have z_W5 : Z4r xm W5.heap.size := z4r_early (w := World.drew W5) hb; obtain ⟨amW50, amW51, amW52, amW53⟩ := Z4r.cells z_W5; obtain ⟨amW54, amW55, amW56, amW57⟩ := Z4r.free z_W5; have amW5l := Z4r.lt z_W5) | (have z_xb : Z4r xm xb.heap.size := z4r_early (w := xb) hb; obtain ⟨amxb0, amxb1, amxb2, amxb3⟩ := Z4r.cells z_xb; obtain ⟨amxb4, amxb5, amxb6, amxb7⟩ := Z4r.free z_xb; have amxbl := Z4r.lt z_xb) | skip); (first | (replace z_W5 := Z4r.below z_W5 hb; obtain ⟨bmW50, bmW51, bmW52, bmW53⟩ := Z4r.cells z_W5; obtain ⟨bmW54, bmW55, bmW56, bmW57⟩ := Z4r.free z_W5; have bmW5l := Z4r.lt z_W5) | skip); (first | (replace z_xb := Z4r.below z_xb hb; obtain ⟨bmxb0, bmxb1, bmxb2, bmxb3⟩ := Z4r.cells z_xb; obtain ⟨bmxb4, bmxb5, bmxb6, bmxb7⟩ := Z4r.free z_xb; have bmxbl := Z4r.lt z_xb) | skip); replace hX := below_then (show Below W5.heap.size W5 _ by first | exact hX | exact hX.drew | exact hX.alloc hX.size _ | exact hX.drew.alloc hX.drew.size _) hb; clear hb; have s_xm : W5.heap.size ≤ xm.heap.size := hX.size; have dm0 := Nat.ne_of_lt l0; have dm0s := Nat.ne_of_gt l0; clear l0; clear f0 f1 f2 f3 f4; obtain ⟨f0, f1, f2, f3, f4⟩ := (HK.out.1.below hX).cells; have l0 := (HK.out.1.below hX).lt; have em0 := Nat.ne_of_lt l0; have em0s := Nat.ne_of_gt l0))
    all_goals
      go_wp2_with fail
      go_meet
      first
        | with_reducible exact CutB.of hX
        | with_reducible exact CutB.early hX (Nat.le_refl _) z_W5
        | with_reducible exact CutB.early hX s_xb z_xb
        | with_reducible exact CutB.early hX s_xm z_xm
  obtain ⟨bb, rfl, UB, hb⟩ := hcut
  have US := HK.out.1.below hb
  have hB := below_then HK.out.2 hb
  clear HK B M hb
  obtain ⟨x0, x1, x2, x3, x4⟩ := US.cells
  obtain ⟨u0, u1, u2, u3⟩ := UB.cells
  obtain ⟨yh, yl, yk, ym, ys⟩ := y
  cases ys
  · have x4' : wc.cell? ⟨w.heap.size, 4, none⟩ = some (.bool false) := x4
    go_wp2
    go_ret
    exact ⟨rfl, hB⟩
  · have x4' : wc.cell? ⟨w.heap.size, 4, none⟩ = some (.bool true) := x4
    go_wp2
    go_ret
    exact ⟨rfl, hB⟩
theorem word_two {a b : Nat} (ha : a < 4294967296) (hb : b < 4294967296) : IntKind.u64.wrap (4294967296 * (b : Int)) = ((4294967296 * b : Nat) : Int) ∧ IntKind.u64.wrap ((a : Int) + ((4294967296 * b : Nat) : Int)) = ((a + 4294967296 * b : Nat) : Int) ∧ IntKind.u64.wrap (a : Int) = (a : Int) ∧ IntKind.u64.wrap (b : Int) = (b : Int) := by
  refine ⟨?_, ?_, ?_, ?_⟩ <;> rw [IntKind.wrap_u64] <;> omega
theorem yWordH (x : Hs) (h : x.Ok) : TU 11 #[x.val] ((wordH x : Nat) : Int) := fun w => by
  have o := outH_ok h
  obtain ⟨p1, p2, p3, p4⟩ := word_two o.a o.b
  obtain ⟨q1, q2, q3, q4⟩ := word_two o.c o.d
  have := ywordMain x.w _ _ _ _ _ _ _ _ _ _ _ _ (Lib.hid (yBlock x.C h.c)) (Lib.hid (rMix (blockH x.C) x.K (blockH_ok _) h.k 10 (by decide))) p3 p4 q3 q4 p1 p2 q1 q2 w
  refine this.mono ?_
  rintro e w' ⟨rfl, hb⟩
  refine ⟨?_, hb⟩
  unfold wordH
  show Ending.returned (.int .u64 (if x.s then _ else _)) = _
  cases x.s <;> rfl
end Go.Proofs.Ytdmoedjjbhkdmaa
