/-
  What the reference of layer 10 answers: Step, Jump. Made by wip/gen/pcgref.py.
-/
import Derived.Test.YthnmekieanndgaaPcgB
import Derived.Deep.LoopGhost
import Derived.Deep.RegionWith
namespace Go.Proofs.Ythnmekieanndgaa
open Go.RowKit G
set_option linter.unusedVariables false
set_option maxRecDepth 100000

set_option maxHeartbeats 4000000 in
theorem ystepMain (s0 s1 i0 i1 p0 p1 t0 t1 : Int) (o : Bool)
    (M : Hid (TN 28 #[.agg #[.int .u64 s0, .int .u64 s1], .agg #[.int .u64 0, .int .u64 15750249268501108917]] p0 p1))
    (D : Hid (TNB 27 #[.agg #[.int .u64 p0, .int .u64 p1], .agg #[.int .u64 i0, .int .u64 i1]] t0 t1 o)) :
    TM 13 #[.agg #[.int .u64 s0, .int .u64 s1, .int .u64 i0, .int .u64 i1]] t0 t1 i0 i1 := fun w => by
  have U := K4.new 33 w s0 s1 i0 i1
  have z1 : (w.alloc (.cells #[.int .u64 s0, .int .u64 s1, .int .u64 i0, .int .u64 i1] 33)).heap.size = w.heap.size + 1 := Array.size_push _
  have L := below_allocs w (.cells #[.int .u64 s0, .int .u64 s1, .int .u64 i0, .int .u64 i1] 33)
  have H1 := Lib.hid (And.intro U (And.intro z1 L))
  clear U z1 L
  go_enter Try.func13, Try.ntmps13
  go_upto_region 1 with fail
  generalize w.alloc _ = V1 at H1 ⊢
  have UX := K4.new 33 V1 0 0 0 0
  rw [H1.out.2.1] at UX
  have LB := below_allocs V1 (.cells #[.int .u64 0, .int .u64 0, .int .u64 0, .int .u64 0] 33)
  have HK := Lib.hid (And.intro (H1.out.1.below LB) (And.intro UX (below_then H1.out.2.2 LB)))
  clear UX LB H1
  generalize V1.alloc _ = W5 at HK ⊢
  have hc : w.heap.size ≤ w.heap.size + 1 := Nat.le_succ _
  generalize w.heap.size + 1 = cz at HK hc ⊢
  go_cut [3] (CutN W5 t0 t1)
  case first =>
    have hX : Below W5.heap.size W5 W5 := Below.refl _ _
    obtain ⟨f1, f2, f3, f4⟩ := HK.out.1.cells
    have l0 : w.heap.size < W5.heap.size := HK.out.1.lt
    go_region_held3 (fun w' => w'.cell? ⟨w.heap.size, 0, none⟩ = some (.int .u64 s0) ∧ w'.cell? ⟨w.heap.size, 1, none⟩ = some (.int .u64 s1) ∧ w'.cell? ⟨w.heap.size, 2, none⟩ = some (.int .u64 i0) ∧ w'.cell? ⟨w.heap.size, 3, none⟩ = some (.int .u64 i1)) (go_keep) (first
      | (go_at_call 28; (with_reducible refine (M.out _).mono ?_); rintro e xm ⟨rfl, hb⟩; (first | (have z_W5 : R2 xm W5.heap.size 0 0 := r2_early (w := World.drew W5) hb; obtain ⟨amW50, amW51⟩ := R2.cells z_W5; obtain ⟨amW52, amW53⟩ := R2.free z_W5; have amW54 := R2.lt z_W5) | skip); (first | (replace z_W5 := R2.below z_W5 hb; obtain ⟨bmW50, bmW51⟩ := R2.cells z_W5; obtain ⟨bmW52, bmW53⟩ := R2.free z_W5; have bmW54 := R2.lt z_W5) | skip); replace hX := below_then (show Below W5.heap.size W5 _ by first | exact hX | exact hX.drew | exact hX.alloc hX.size _ | exact hX.drew.alloc hX.drew.size _) hb; clear hb; have s_xm : W5.heap.size ≤ xm.heap.size := hX.size; have dm0 := Nat.ne_of_lt l0; have dm0s := Nat.ne_of_gt l0; clear l0; clear f1 f2 f3 f4; obtain ⟨f1, f2, f3, f4⟩ := (HK.out.1.below hX).cells; have l0 := (HK.out.1.below hX).lt; have em0 := Nat.ne_of_lt l0; have em0s := Nat.ne_of_gt l0)
      | (go_at_call 27; (with_reducible refine (D.out _).mono ?_); rintro e xs ⟨rfl, hb⟩; (first | (have z_W5 : R2 xs W5.heap.size 0 0 := r2_early (w := World.drew W5) hb; obtain ⟨asW50, asW51⟩ := R2.cells z_W5; obtain ⟨asW52, asW53⟩ := R2.free z_W5; have asW54 := R2.lt z_W5) | (have z_xm : R2 xs xm.heap.size 0 0 := r2_early (w := xm) hb; obtain ⟨asxm0, asxm1⟩ := R2.cells z_xm; obtain ⟨asxm2, asxm3⟩ := R2.free z_xm; have asxm4 := R2.lt z_xm) | skip); (first | (replace z_W5 := R2.below z_W5 hb; obtain ⟨bsW50, bsW51⟩ := R2.cells z_W5; obtain ⟨bsW52, bsW53⟩ := R2.free z_W5; have bsW54 := R2.lt z_W5) | skip); (first | (replace z_xm := R2.below z_xm hb; obtain ⟨bsxm0, bsxm1⟩ := R2.cells z_xm; obtain ⟨bsxm2, bsxm3⟩ := R2.free z_xm; have bsxm4 := R2.lt z_xm) | skip); replace hX := below_then (show Below W5.heap.size W5 _ by first | exact hX | exact hX.drew | exact hX.alloc hX.size _ | exact hX.drew.alloc hX.drew.size _) hb; clear hb; have s_xs : W5.heap.size ≤ xs.heap.size := hX.size; have ds0 := Nat.ne_of_lt l0; have ds0s := Nat.ne_of_gt l0; clear l0; clear f1 f2 f3 f4; obtain ⟨f1, f2, f3, f4⟩ := (HK.out.1.below hX).cells; have l0 := (HK.out.1.below hX).lt; have es0 := Nat.ne_of_lt l0; have es0s := Nat.ne_of_gt l0))
    all_goals
      go_wp2_with fail
      go_meet
      first
        | with_reducible exact CutN.of hX
        | with_reducible exact CutN.early hX (Nat.le_refl _) z_W5
        | with_reducible exact CutN.early hX s_xm z_xm
        | with_reducible exact CutN.early hX s_xs z_xs
  obtain ⟨bf, rfl, UF, hX⟩ := hcut
  have Z := HK.out.2.1.below hX
  have HR := Lib.hid (K4.put (p' := t0) (q' := t1) (r' := i0) (s' := i1) Z)
  have HB : Hid (Below w.heap.size w ((((wc.setCell ⟨cz, 0, none⟩ (.int .u64 t0)).setCell ⟨cz, 1, none⟩ (.int .u64 t1)).setCell ⟨cz, 2, none⟩ (.int .u64 i0)).setCell ⟨cz, 3, none⟩ (.int .u64 i1))) := Lib.hid (below_putK4 (below_then HK.out.2.2 hX) hc)
  obtain ⟨n1, n2⟩ := UF.cells
  obtain ⟨x1, x2, x3, x4⟩ := (HK.out.1.below hX).cells
  obtain ⟨y1, y2, y3, y4⟩ := Z.cells
  obtain ⟨f1, f2, f3, f4⟩ := Z.free
  clear HK UF hX Z M D
  go_wp2_with fail
  generalize World.setCell (World.setCell (World.setCell (World.setCell wc _ _) _ _) _ _) _ _ = V9 at HR HB ⊢
  obtain ⟨r1, r2, r3, r4⟩ := HR.out.cells
  try simp only [Exit.inBlock, Exit.then, Exit.noGoto]
  refine bodyPost_ret (by simp [results, Try.results13, go_sem, r1, r2, r3, r4]; try rfl) rfl ?_
  exact ⟨rfl, HB.out⟩
theorem yStepP (s : Ps) (h : s.Ok) : TM 13 #[s.val] ((hiW (stepP s).S : Nat) : Int) ((loW (stepP s).S : Nat) : Int) ((hiW s.I : Nat) : Int) ((loW s.I : Nat) : Int) := fun W => by
  have M := yMul h.a (by decide : fac < Q)
  rw [show hiW fac = 0 by decide, show loW fac = 15750249268501108917 by decide] at M
  have D := yAdd (M := s.S * fac % Q) (Nat.mod_lt _ (by decide)) h.c
  rw [Nat.mod_add_mod, Nat.mul_comm] at D
  rw [Nat.mul_comm] at M
  exact ystepMain _ _ _ _ _ _ _ _ _ (Lib.hid M) (Lib.hid D) W
set_option maxHeartbeats 8000000 in
theorem yjumpMain (n : Nat) (hn : n ≤ 1000) (s0 s1 i0 i1 : Int) (st : Nat → Int → Int → Prop) (I : Hid (st 0 s0 s1))
    (S : Hid (∀ (j : Nat) (p q : Int), st j p q → ∃ p' q' : Int, st (j + 1) p' q' ∧ TM 13 #[.agg #[.int .u64 p, .int .u64 q, .int .u64 i0, .int .u64 i1]] p' q' i0 i1)) (w : World) :
    Calls Try.prog 18 #[.agg #[.int .u64 s0, .int .u64 s1, .int .u64 i0, .int .u64 i1], .int .i64 (n : Int)] w (fun e w' => ∃ p q : Int, st n p q ∧ e = .returned (.agg #[.int .u64 p, .int .u64 q, .int .u64 i0, .int .u64 i1]) ∧ Below w.heap.size w w') := by
  have U := K4.new 33 w s0 s1 i0 i1
  have z1 : (w.alloc (.cells #[.int .u64 s0, .int .u64 s1, .int .u64 i0, .int .u64 i1] 33)).heap.size = w.heap.size + 1 := Array.size_push _
  have L := below_allocs w (.cells #[.int .u64 s0, .int .u64 s1, .int .u64 i0, .int .u64 i1] 33)
  have H1 := Lib.hid (And.intro U (And.intro z1 L))
  clear U z1 L
  go_enter Try.func18, Try.ntmps18
  go_upto_region 1 with fail
  generalize w.alloc _ = V1 at H1 ⊢
  have UX := K4.new 33 V1 0 0 0 0
  rw [H1.out.2.1] at UX
  have LB := below_allocs V1 (.cells #[.int .u64 0, .int .u64 0, .int .u64 0, .int .u64 0] 33)
  have HK := Lib.hid (And.intro (H1.out.1.below LB) (And.intro UX (below_then H1.out.2.2 LB)))
  clear UX LB H1
  generalize V1.alloc _ = V2 at HK ⊢
  have hc : w.heap.size ≤ w.heap.size + 1 := Nat.le_succ _
  have hz : w.heap.size + 1 ≠ w.heap.size := Nat.succ_ne_self _
  generalize w.heap.size + 1 = cz at HK hc hz ⊢
  have F0 : Hid ((∃ p q : Int, st 0 p q ∧ K4 33 V2 w.heap.size p q i0 i1) ∧ K4 33 V2 cz 0 0 0 0 ∧ Below w.heap.size w V2) := Lib.hid ⟨⟨s0, s1, I.out, HK.out.1⟩, HK.out.2.1, HK.out.2.2⟩
  have Hc := Lib.hid (And.intro hc hz)
  clear HK hc hz I
  go_wp2_with fail
  go_loopg [5] n (fun gh z wr => ∃ j : Nat, j + gh = n ∧ z = .int .i64 (j : Int) ∧ Hid ((∃ p q : Int, st j p q ∧ K4 33 wr w.heap.size p q i0 i1) ∧ K4 33 wr cz 0 0 0 0 ∧ Below w.heap.size w wr))
  case atStart => exact ⟨0, Nat.zero_add _, rfl, F0⟩
  case round =>
    obtain ⟨j, hg, rfl, F⟩ := hrel
    clear F0
    obtain ⟨⟨p, q, hs, K⟩, FZ, FL⟩ := F.out
    have HS := Lib.hid hs
    by_cases hlt : j < n
    · have pl : (j : Int) < (n : Int) := by omega
      obtain ⟨p', q', hs', C⟩ := S.out j p q hs
      have HS' := Lib.hid hs'
      have C := Lib.hid C
      have H1 := Lib.hid (And.intro FZ FL)
      obtain ⟨x1, x2, x3, x4⟩ := K.cells
      have HK := Lib.hid K
      have w1 : IntKind.i64.wrap ((j : Int) + 1) = ((j + 1 : Nat) : Int) := by rw [IntKind.wrap_i64]; omega
      clear F FZ FL hs hs' K HS
      go_wp2_with fail
      refine (C.out _).mono ?_
      rintro e V5 ⟨rfl, hb⟩
      clear x1 x2 x3 x4
      have K5 := HK.out.below hb
      have H5 := Lib.hid (And.intro K5 (And.intro (H1.out.1.below hb) (below_then H1.out.2 hb)))
      obtain ⟨x1, x2, x3, x4⟩ := K5.cells
      obtain ⟨f1, f2, f3, f4⟩ := K5.free
      clear H1 HK K5 hb
      go_wp2_with fail
      go_roundg (gk - 1)
      case measure => omega
      case rel => exact ⟨j + 1, by omega, by first | rfl | go_num, Lib.hid ⟨⟨p', q', HS'.out, K4.put H5.out.1⟩, H5.out.2.1.far4 Hc.out.2, below_putK4 H5.out.2.2 (Nat.le_refl _)⟩⟩
    · obtain rfl : j = n := by omega
      have pl : ¬ ((j : Int) < (j : Int)) := by omega
      have HR := Lib.hid (K4.put (p' := p) (q' := q) (r' := i0) (s' := i1) FZ)
      have HB : Hid (Below w.heap.size w ((((wr.setCell ⟨cz, 0, none⟩ (.int .u64 p)).setCell ⟨cz, 1, none⟩ (.int .u64 q)).setCell ⟨cz, 2, none⟩ (.int .u64 i0)).setCell ⟨cz, 3, none⟩ (.int .u64 i1))) := Lib.hid (below_putK4 FL Hc.out.1)
      obtain ⟨x1, x2, x3, x4⟩ := K.cells
      obtain ⟨y1, y2, y3, y4⟩ := FZ.cells
      obtain ⟨f1, f2, f3, f4⟩ := FZ.free
      clear F FZ FL hs K S
      go_wp2_with fail
      generalize World.setCell (World.setCell (World.setCell (World.setCell wr _ _) _ _) _ _) _ _ = V9 at HR HB ⊢
      obtain ⟨r1, r2, r3, r4⟩ := HR.out.cells
      try simp only [Exit.inBlock, Exit.then, Exit.noGoto]
      refine bodyPost_ret (by simp [results, Try.results18, go_sem, r1, r2, r3, r4]; try rfl) rfl ?_
      exact ⟨p, q, HS.out, rfl, HB.out⟩
/-- The two words of the number of a state. -/
def Sw (s : Ps) (p q : Int) : Prop := p = ((hiW s.S : Nat) : Int) ∧ q = ((loW s.S : Nat) : Int)
theorem Sw.of (s : Ps) : Sw s ((hiW s.S : Nat) : Int) ((loW s.S : Nat) : Int) := ⟨rfl, rfl⟩
theorem iterP_I (s : Ps) (j : Nat) : (iterP s j).I = s.I := by
  induction j with
  | zero => rfl
  | succ j ih => exact ih
theorem yStepQ (s : Ps) (h : s.Ok) (j : Nat) (p q : Int) (k : Sw (iterP s j) p q) : TM 13 #[.agg #[.int .u64 p, .int .u64 q, .int .u64 ((hiW s.I : Nat) : Int), .int .u64 ((loW s.I : Nat) : Int)]] ((hiW (iterP s (j + 1)).S : Nat) : Int) ((loW (iterP s (j + 1)).S : Nat) : Int) ((hiW s.I : Nat) : Int) ((loW s.I : Nat) : Int) := by
  obtain ⟨rfl, rfl⟩ := k
  have := yStepP (iterP s j) (iterP_ok h j)
  unfold Ps.val at this
  rw [iterP_I] at this
  have e : stepP (iterP s j) = iterP s (j + 1) := rfl
  rw [e] at this
  exact this
theorem yJumpP (s : Ps) (h : s.Ok) (n : Nat) (hn : n ≤ 1000) (W : World) : Calls Try.prog 18 #[s.val, .int .i64 (n : Int)] W (AnsP (iterP s n) W) := by
  refine (yjumpMain n hn _ _ _ _ (fun j p q => Sw (iterP s j) p q) (Lib.hid (Sw.of s)) (Lib.hid fun j p q k => ⟨_, _, Sw.of (iterP s (j + 1)), yStepQ s h j p q k⟩) W).mono ?_
  rintro _ w' ⟨p, q, ⟨rfl, rfl⟩, rfl, hb⟩
  refine ⟨?_, hb⟩
  unfold Ps.val
  rw [iterP_I]
end Go.Proofs.Ythnmekieanndgaa
