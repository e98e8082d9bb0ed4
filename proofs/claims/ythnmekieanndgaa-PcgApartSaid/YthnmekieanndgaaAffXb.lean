/-
  Then and One of package affine .
-/
import Derived.Test.YthnmekieanndgaaAffXa
namespace Go.Proofs.Ythnmekieanndgaa
open Go.RowKit G
set_option linter.unusedVariables false
set_option maxRecDepth 100000

set_option maxHeartbeats 8000000 in
theorem xthenMain (a0 a1 a2 a3 b0 b1 b2 b3 d0 d1 e0 e1 : Int)
    (M : Hid (TN 34 #[.agg #[.int .u64 b0, .int .u64 b1], .agg #[.int .u64 a0, .int .u64 a1]] d0 d1))
    (A : Hid (TN 23 #[.agg #[.int .u64 b0, .int .u64 b1, .int .u64 b2, .int .u64 b3], .agg #[.int .u64 a2, .int .u64 a3]] e0 e1)) :
    TM 39 #[.agg #[.int .u64 a0, .int .u64 a1, .int .u64 a2, .int .u64 a3], .agg #[.int .u64 b0, .int .u64 b1, .int .u64 b2, .int .u64 b3]] d0 d1 e0 e1 := fun w => by
  have U := B4.new w a0 a1 a2 a3
  have z1 : (w.alloc (.cells #[.int .u64 a0, .int .u64 a1, .int .u64 a2, .int .u64 a3] 55)).heap.size = w.heap.size + 1 := Array.size_push _
  have L := below_alloc (Below.refl w.heap.size w) (.cells #[.int .u64 a0, .int .u64 a1, .int .u64 a2, .int .u64 a3] 55)
  have H1 := Lib.hid (And.intro U (And.intro z1 L))
  clear U z1 L
  go_enter Try.func39, Try.ntmps39
  go_upto_region 1 with fail
  generalize w.alloc _ = V1 at H1 ⊢
  have UX := B4.new V1 b0 b1 b2 b3
  have z2 : (V1.alloc (.cells #[.int .u64 b0, .int .u64 b1, .int .u64 b2, .int .u64 b3] 55)).heap.size = w.heap.size + 1 + 1 := (Array.size_push _).trans (by rw [H1.out.2.1])
  rw [H1.out.2.1] at UX
  have LB := below_allocs V1 (.cells #[.int .u64 b0, .int .u64 b1, .int .u64 b2, .int .u64 b3] 55)
  have H2 := Lib.hid (And.intro (H1.out.1.below LB) (And.intro UX (And.intro z2 (below_then H1.out.2.2 LB))))
  clear UX z2 LB H1
  generalize V1.alloc _ = V2 at H2 ⊢
  have UZ := B4.new V2 0 0 0 0
  rw [H2.out.2.2.1] at UZ
  have LB := below_allocs V2 (.cells #[.int .u64 0, .int .u64 0, .int .u64 0, .int .u64 0] 55)
  have HK := Lib.hid (And.intro (H2.out.1.below LB) (And.intro (H2.out.2.1.below LB) UZ))
  have HW := Lib.hid (below_then H2.out.2.2.2 LB)
  clear UZ LB H2
  generalize V2.alloc _ = V4 at HK HW ⊢
  have hc : w.heap.size ≤ w.heap.size + 1 + 1 := Nat.le_trans (Nat.le_succ _) (Nat.le_succ _)
  have n1 : w.heap.size ≠ w.heap.size + 1 + 1 := by omega
  have n2 : w.heap.size + 1 ≠ w.heap.size + 1 + 1 := by omega
  generalize w.heap.size + 1 + 1 = cz at HK hc n1 n2 ⊢
  generalize w.heap.size + 1 = cn at HK n2 ⊢
  obtain ⟨cm, hcm⟩ : ∃ cm, cm = w.heap.size := ⟨_, rfl⟩
  rw [← hcm] at HK n1 ⊢
  have hX : Below V4.heap.size V4 V4 := Below.refl _ _
  obtain ⟨f1, f2, f3, f4⟩ := (HK.out.1.below hX).cells
  obtain ⟨f5, f6, f7, f8⟩ := (HK.out.2.1.below hX).cells
  obtain ⟨g1, g2, g3, g4⟩ := (HK.out.2.2.below hX).cells
  obtain ⟨g5, g6, g7, g8⟩ := (HK.out.2.2.below hX).free
  have l1 : cm < V4.heap.size := (HK.out.1.below hX).lt
  have l2 : cn < V4.heap.size := (HK.out.2.1.below hX).lt
  have l3 : cz < V4.heap.size := (HK.out.2.2.below hX).lt
  have n3 := n1.symm
  have n4 := n2.symm
  go_cut [] (fun wr => B4 wr cz d0 d1 e0 e1 ∧ Below w.heap.size w wr)
  case first =>
    clear hcm
    go_region_held3 (fun w' => w'.cell? ⟨cm, 0, none⟩ = some (.int .u64 a0) ∧ w'.cell? ⟨cm, 1, none⟩ = some (.int .u64 a1) ∧ w'.cell? ⟨cm, 2, none⟩ = some (.int .u64 a2) ∧ w'.cell? ⟨cm, 3, none⟩ = some (.int .u64 a3) ∧ w'.cell? ⟨cn, 0, none⟩ = some (.int .u64 b0) ∧ w'.cell? ⟨cn, 1, none⟩ = some (.int .u64 b1) ∧ w'.cell? ⟨cn, 2, none⟩ = some (.int .u64 b2) ∧ w'.cell? ⟨cn, 3, none⟩ = some (.int .u64 b3)) (go_keep) (first
      | (go_at_call 34; (with_reducible refine (M.out _).mono ?_); rintro e x1 ⟨rfl, hb⟩; replace hX := below_then (show Below V4.heap.size V4 _ by first | exact hX | exact hX.drew) hb; clear hb; clear f1 f2 f3 f4 f5 f6 f7 f8 g1 g2 g3 g4 g5 g6 g7 g8 l1 l2 l3; obtain ⟨f1, f2, f3, f4⟩ := (HK.out.1.below hX).cells; obtain ⟨f5, f6, f7, f8⟩ := (HK.out.2.1.below hX).cells; obtain ⟨g1, g2, g3, g4⟩ := (HK.out.2.2.below hX).cells; obtain ⟨g5, g6, g7, g8⟩ := (HK.out.2.2.below hX).free; have l1 : cm < x1.heap.size := (HK.out.1.below hX).lt; have l2 : cn < x1.heap.size := (HK.out.2.1.below hX).lt; have l3 : cz < x1.heap.size := (HK.out.2.2.below hX).lt)
      | (go_at_call 23; (with_reducible refine (A.out _).mono ?_); rintro e x2 ⟨rfl, hb⟩; replace hX := below_then (show Below V4.heap.size V4 _ by first | exact hX | exact hX.drew) hb; clear hb; clear f1 f2 f3 f4 f5 f6 f7 f8 g1 g2 g3 g4 g5 g6 g7 g8 l1 l2 l3; obtain ⟨f1, f2, f3, f4⟩ := (HK.out.1.below hX).cells; obtain ⟨f5, f6, f7, f8⟩ := (HK.out.2.1.below hX).cells; obtain ⟨g1, g2, g3, g4⟩ := (HK.out.2.2.below hX).cells; obtain ⟨g5, g6, g7, g8⟩ := (HK.out.2.2.below hX).free; have l1 : cm < x2.heap.size := (HK.out.1.below hX).lt; have l2 : cn < x2.heap.size := (HK.out.2.1.below hX).lt; have l3 : cz < x2.heap.size := (HK.out.2.2.below hX).lt))
    all_goals
      go_wp2_with fail
      go_meet
      exact ⟨B4.put (HK.out.2.2.below hX), below_put4 (below_then HW.out hX) hc⟩
  obtain ⟨HR, HB⟩ := hcut
  obtain ⟨r1, r2, r3, r4⟩ := HR.cells
  clear f1 f2 f3 f4 f5 f6 f7 f8 g1 g2 g3 g4 g5 g6 g7 g8 l1 l2 l3
  go_wp2_with fail
  try simp only [Exit.inBlock, Exit.then, Exit.noGoto]
  refine bodyPost_ret (by simp [results, Try.results39, go_sem, r1, r2, r3, r4]; try rfl) rfl ?_
  exact ⟨rfl, HB⟩
theorem xThenM (m n : Mp) (W : World) (hm : m.Ok) (hn : n.Ok) : Calls Try.prog 39 #[m.val, n.val] W (AnsM (thenM m n) W) := by
  have M := fun V => cMul128 (wn_of hn.a) (wn_of hm.a) V
  rw [Nat.mul_comm] at M
  exact xthenMain _ _ _ _ _ _ _ _ _ _ _ _ (Lib.hid M) (Lib.hid fun V => xAtM n _ _ m.C V hn (wn_of hm.c)) W
set_option maxHeartbeats 2000000 in
theorem xOne (w : World) : Calls Try.prog 45 #[] w (AnsM Mp.one w) := by
  have C : Hid (TN 17 #[.int .u64 1] 0 1) := Lib.hid fun W => cOf 1 1 rfl (by decide) W
  have Z := Lib.hid (ZB.new w)
  go_enter Try.func45, Try.ntmps45
  go_wp2_with fail
  refine (C.out _).mono ?_
  rintro e V ⟨rfl, hb⟩
  have Z2 : ZB V w.heap.size := B4.below Z.out hb
  have hB : Below w.heap.size w V := below_then (below_allocs _ _) hb
  have HR := Lib.hid (B4.put (p' := 0) (q' := 1) (r' := 0) (s' := 0) Z2)
  have HB : Hid (Below w.heap.size w ((((V.setCell ⟨w.heap.size, 0, none⟩ (.int .u64 0)).setCell ⟨w.heap.size, 1, none⟩ (.int .u64 1)).setCell ⟨w.heap.size, 2, none⟩ (.int .u64 0)).setCell ⟨w.heap.size, 3, none⟩ (.int .u64 0))) := Lib.hid (below_put4 hB (Nat.le_refl _))
  obtain ⟨x1, x2, x3, x4⟩ := B4.cells Z2
  obtain ⟨f1, f2, f3, f4⟩ := B4.free Z2
  clear Z Z2 hB hb C
  go_wp2_with fail
  generalize World.setCell (World.setCell (World.setCell (World.setCell V _ _) _ _) _ _) _ _ = V9 at HR HB ⊢
  obtain ⟨r1, r2, r3, r4⟩ := HR.out.cells
  try simp only [Exit.inBlock, Exit.then, Exit.noGoto]
  refine bodyPost_ret (by simp [results, Try.results45, go_sem, r1, r2, r3, r4]; try rfl) rfl ?_
  exact ⟨rfl, HB.out⟩
end Go.Proofs.Ythnmekieanndgaa
