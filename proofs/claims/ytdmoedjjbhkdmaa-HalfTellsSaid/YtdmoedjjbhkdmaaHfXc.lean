/-
  What half's Step and Back answer. Made by wip/gen/hfx.py.
-/
import Derived.Test.YtdmoedjjbhkdmaaHfXa
import Derived.Test.YtdmoedjjbhkdmaaHfS
namespace Go.Proofs.Ytdmoedjjbhkdmaa
open Go.RowKit G
set_option linter.unusedVariables false
set_option maxRecDepth 100000

section
variable {t : TypeId} {w : World} {b x : Nat} {y : Hw}
theorem K5.put2 (h : K5 t w b y) (p q : Int) : K5 t ((w.setCell ⟨b, 0, none⟩ (.int .u64 p)).setCell ⟨b, 1, none⟩ (.int .u64 q)) b ⟨p, q, y.k, y.m, y.s⟩ := (at_block (at_block h 0 (.int .u64 p)) 1 (.int .u64 q)).trans rfl
theorem K5.far2 (h : K5 t w b y) (hne : b ≠ x) (p q : Int) : K5 t ((w.setCell ⟨x, 0, none⟩ (.int .u64 p)).setCell ⟨x, 1, none⟩ (.int .u64 q)) b y := (h.far hne _).far hne _
theorem below_put2K {B : Nat} {a : World} (h : Below B a w) (hb : B ≤ x) (p q : Int) : Below B a ((w.setCell ⟨x, 0, none⟩ (.int .u64 p)).setCell ⟨x, 1, none⟩ (.int .u64 q)) := (h.setCell hb _).setCell hb _
end
set_option maxHeartbeats 4000000 in
theorem xstepStay (h l k m : Int) : TH 15 #[.agg #[.int .u64 h, .int .u64 l, .int .u32 k, .int .u32 m, .bool false]] ⟨h, l, k, m, true⟩ := fun w => by
  have U := K5.new 29 w ⟨h, l, k, m, false⟩
  have z1 : (w.alloc (.cells #[.int .u64 h, .int .u64 l, .int .u32 k, .int .u32 m, .bool false] 29)).heap.size = w.heap.size + 1 := Array.size_push _
  have L := below_allocs w (.cells #[.int .u64 h, .int .u64 l, .int .u32 k, .int .u32 m, .bool false] 29)
  have H1 := Lib.hid (And.intro U (And.intro z1 L))
  clear U z1 L
  go_enter Try.func15, Try.ntmps15
  go_upto_region 1 with fail
  generalize w.alloc _ = V1 at H1 ⊢
  have UZ := K5.new 29 V1 ⟨0, 0, 0, 0, false⟩
  rw [H1.out.2.1] at UZ
  have LB := below_allocs V1 (.cells #[.int .u64 0, .int .u64 0, .int .u32 0, .int .u32 0, .bool false] 29)
  have HK := Lib.hid (And.intro (H1.out.1.below LB) UZ)
  have HW := Lib.hid (below_then H1.out.2.2 LB)
  clear UZ LB H1
  generalize V1.alloc _ = V4 at HK HW ⊢
  have hc : w.heap.size ≤ w.heap.size + 1 := Nat.le_succ _
  have n1 : w.heap.size ≠ w.heap.size + 1 := by omega
  generalize w.heap.size + 1 = cz at HK hc n1 ⊢
  have n3 := n1.symm
  obtain ⟨cs, hcs⟩ : ∃ cs, cs = w.heap.size := ⟨_, rfl⟩
  rw [← hcs] at HK n1 n3
  have hs : w.heap.size ≤ cs := Nat.le_of_eq hcs.symm
  rw [← hcs]
  clear hcs
  obtain ⟨x0, x1, x2, x3, x4⟩ := HK.out.1.cells
  obtain ⟨f0, f1, f2, f3, f4⟩ := HK.out.1.free
  go_upto_region 3 with fail
  go_upto_region 4 with fail
  have HK2 : Hid (K5 29 (V4.setCell ⟨cs, 4, none⟩ (.bool true)) cs ⟨h, l, k, m, true⟩ ∧ K5 29 (V4.setCell ⟨cs, 4, none⟩ (.bool true)) cz ⟨0, 0, 0, 0, false⟩ ∧ Below w.heap.size w (V4.setCell ⟨cs, 4, none⟩ (.bool true))) := Lib.hid ⟨(at_block HK.out.1 4 (.bool true)).trans rfl, HK.out.2.far (a := ⟨cs, 4, none⟩) n3 _, HW.out.setCell hs _⟩
  clear HK HW x0 x1 x2 x3 x4 f0 f1 f2 f3 f4
  generalize World.setCell V4 _ _ = V7 at HK2 ⊢
  obtain ⟨x0, x1, x2, x3, x4⟩ := HK2.out.1.cells
  have HZ := HK2.out.2.1
  have hB := HK2.out.2.2
  clear HK2
  have HR := Lib.hid (K5.put HZ (⟨h, l, k, m, true⟩ : Hw))
  have HB := Lib.hid (below_put5 hB hc (⟨h, l, k, m, true⟩ : Hw))
  obtain ⟨y0, y1, y2, y3, y4⟩ := HZ.cells
  obtain ⟨f0, f1, f2, f3, f4⟩ := HZ.free
  unfold put5 at HR HB
  clear HZ hB
  go_wp2_with fail
  generalize World.setCell (World.setCell (World.setCell (World.setCell (World.setCell V7 _ _) _ _) _ _) _ _) _ _ = V9 at HR HB ⊢
  obtain ⟨r0, r1, r2, r3, r4⟩ := HR.out.cells
  try simp only [Exit.inBlock, Exit.then, Exit.noGoto]
  refine bodyPost_ret (by simp [results, Try.results15, go_sem, r0, r1, r2, r3, r4]; try rfl) rfl ?_
  exact ⟨rfl, HB.out⟩
set_option maxHeartbeats 8000000 in
theorem xstepGo (h l k m a b : Int) (o : Bool) (O : Hid (TN 20 #[.int .u64 1] 0 1)) (A : Hid (TNB 24 #[.agg #[.int .u64 h, .int .u64 l], .agg #[.int .u64 0, .int .u64 1]] a b o)) : TH 15 #[.agg #[.int .u64 h, .int .u64 l, .int .u32 k, .int .u32 m, .bool true]] ⟨a, b, k, m, false⟩ := fun w => by
  have U := K5.new 29 w ⟨h, l, k, m, true⟩
  have z1 : (w.alloc (.cells #[.int .u64 h, .int .u64 l, .int .u32 k, .int .u32 m, .bool true] 29)).heap.size = w.heap.size + 1 := Array.size_push _
  have L := below_allocs w (.cells #[.int .u64 h, .int .u64 l, .int .u32 k, .int .u32 m, .bool true] 29)
  have H1 := Lib.hid (And.intro U (And.intro z1 L))
  clear U z1 L
  go_enter Try.func15, Try.ntmps15
  go_upto_region 1 with fail
  generalize w.alloc _ = V1 at H1 ⊢
  have UZ := K5.new 29 V1 ⟨0, 0, 0, 0, false⟩
  rw [H1.out.2.1] at UZ
  have LB := below_allocs V1 (.cells #[.int .u64 0, .int .u64 0, .int .u32 0, .int .u32 0, .bool false] 29)
  have HK := Lib.hid (And.intro (H1.out.1.below LB) UZ)
  have HW := Lib.hid (below_then H1.out.2.2 LB)
  clear UZ LB H1
  generalize V1.alloc _ = V4 at HK HW ⊢
  have hc : w.heap.size ≤ w.heap.size + 1 := Nat.le_succ _
  have n1 : w.heap.size ≠ w.heap.size + 1 := by omega
  generalize w.heap.size + 1 = cz at HK hc n1 ⊢
  have n3 := n1.symm
  obtain ⟨cs, hcs⟩ : ∃ cs, cs = w.heap.size := ⟨_, rfl⟩
  rw [← hcs] at HK n1 n3
  have hs : w.heap.size ≤ cs := Nat.le_of_eq hcs.symm
  rw [← hcs]
  clear hcs
  obtain ⟨x0, x1, x2, x3, x4⟩ := HK.out.1.cells
  go_upto_region 2 with fail
  clear x0 x1 x2 x3 x4

  go_cut [] (fun wr => K5 29 wr cs ⟨a, b, k, m, true⟩ ∧ K5 29 wr cz ⟨0, 0, 0, 0, false⟩ ∧ Below w.heap.size w wr)
  case first =>
    have hX : Below V4.heap.size V4 V4 := Below.refl _ _
    obtain ⟨f00, f01, f02, f03, f04⟩ := (HK.out.1.below hX).cells
    obtain ⟨g0, g1, g2, g3, g4⟩ := (HK.out.1.below hX).free
    have l0 : cs < V4.heap.size := (HK.out.1.below hX).lt
    go_region_with (first
      | (go_at_call 20; (with_reducible refine (O.out _).mono ?_); rintro e x0 ⟨rfl, hb⟩; replace hX := below_then (show Below V4.heap.size V4 _ by first | exact hX | exact hX.drew) hb; clear hb; clear f00 f01 f02 f03 f04 g0 g1 g2 g3 g4 l0; obtain ⟨f00, f01, f02, f03, f04⟩ := (HK.out.1.below hX).cells; obtain ⟨g0, g1, g2, g3, g4⟩ := (HK.out.1.below hX).free; have l0 := (HK.out.1.below hX).lt)
      | (go_at_call 24; (with_reducible refine (A.out _).mono ?_); rintro e x1 ⟨rfl, hb⟩; replace hX := below_then (show Below V4.heap.size V4 _ by first | exact hX | exact hX.drew) hb; clear hb; clear f00 f01 f02 f03 f04 g0 g1 g2 g3 g4 l0; obtain ⟨f00, f01, f02, f03, f04⟩ := (HK.out.1.below hX).cells; obtain ⟨g0, g1, g2, g3, g4⟩ := (HK.out.1.below hX).free; have l0 := (HK.out.1.below hX).lt))
    all_goals
      go_wp2_with fail
      go_meet
      exact ⟨K5.put2 (HK.out.1.below hX) a b, (HK.out.2.below hX).far2 n3 a b, below_put2K (below_then HW.out hX) hs a b⟩
  clear HK HW A O
  have HK := Lib.hid (And.intro hcut.1 hcut.2.1)
  have HW := Lib.hid hcut.2.2
  clear hcut
  obtain ⟨x0, x1, x2, x3, x4⟩ := HK.out.1.cells
  obtain ⟨f0, f1, f2, f3, f4⟩ := HK.out.1.free
  go_upto_region 3 with fail
  go_upto_region 4 with fail
  have HK2 : Hid (K5 29 (wc.setCell ⟨cs, 4, none⟩ (.bool false)) cs ⟨a, b, k, m, false⟩ ∧ K5 29 (wc.setCell ⟨cs, 4, none⟩ (.bool false)) cz ⟨0, 0, 0, 0, false⟩ ∧ Below w.heap.size w (wc.setCell ⟨cs, 4, none⟩ (.bool false))) := Lib.hid ⟨(at_block HK.out.1 4 (.bool false)).trans rfl, HK.out.2.far (a := ⟨cs, 4, none⟩) n3 _, HW.out.setCell hs _⟩
  clear HK HW x0 x1 x2 x3 x4 f0 f1 f2 f3 f4
  generalize World.setCell wc _ _ = V7 at HK2 ⊢
  obtain ⟨x0, x1, x2, x3, x4⟩ := HK2.out.1.cells
  have HZ := HK2.out.2.1
  have hB := HK2.out.2.2
  clear HK2
  have HR := Lib.hid (K5.put HZ (⟨a, b, k, m, false⟩ : Hw))
  have HB := Lib.hid (below_put5 hB hc (⟨a, b, k, m, false⟩ : Hw))
  obtain ⟨y0, y1, y2, y3, y4⟩ := HZ.cells
  obtain ⟨f0, f1, f2, f3, f4⟩ := HZ.free
  unfold put5 at HR HB
  clear HZ hB
  go_wp2_with fail
  generalize World.setCell (World.setCell (World.setCell (World.setCell (World.setCell V7 _ _) _ _) _ _) _ _) _ _ = V9 at HR HB ⊢
  obtain ⟨r0, r1, r2, r3, r4⟩ := HR.out.cells
  try simp only [Exit.inBlock, Exit.then, Exit.noGoto]
  refine bodyPost_ret (by simp [results, Try.results15, go_sem, r0, r1, r2, r3, r4]; try rfl) rfl ?_
  exact ⟨rfl, HB.out⟩
set_option maxHeartbeats 4000000 in
theorem xbackStay (h l k m : Int) : TH 22 #[.agg #[.int .u64 h, .int .u64 l, .int .u32 k, .int .u32 m, .bool true]] ⟨h, l, k, m, false⟩ := fun w => by
  have U := K5.new 29 w ⟨h, l, k, m, true⟩
  have z1 : (w.alloc (.cells #[.int .u64 h, .int .u64 l, .int .u32 k, .int .u32 m, .bool true] 29)).heap.size = w.heap.size + 1 := Array.size_push _
  have L := below_allocs w (.cells #[.int .u64 h, .int .u64 l, .int .u32 k, .int .u32 m, .bool true] 29)
  have H1 := Lib.hid (And.intro U (And.intro z1 L))
  clear U z1 L
  go_enter Try.func22, Try.ntmps22
  go_upto_region 1 with fail
  generalize w.alloc _ = V1 at H1 ⊢
  have UZ := K5.new 29 V1 ⟨0, 0, 0, 0, false⟩
  rw [H1.out.2.1] at UZ
  have LB := below_allocs V1 (.cells #[.int .u64 0, .int .u64 0, .int .u32 0, .int .u32 0, .bool false] 29)
  have HK := Lib.hid (And.intro (H1.out.1.below LB) UZ)
  have HW := Lib.hid (below_then H1.out.2.2 LB)
  clear UZ LB H1
  generalize V1.alloc _ = V4 at HK HW ⊢
  have hc : w.heap.size ≤ w.heap.size + 1 := Nat.le_succ _
  have n1 : w.heap.size ≠ w.heap.size + 1 := by omega
  generalize w.heap.size + 1 = cz at HK hc n1 ⊢
  have n3 := n1.symm
  obtain ⟨cs, hcs⟩ : ∃ cs, cs = w.heap.size := ⟨_, rfl⟩
  rw [← hcs] at HK n1 n3
  have hs : w.heap.size ≤ cs := Nat.le_of_eq hcs.symm
  rw [← hcs]
  clear hcs
  obtain ⟨x0, x1, x2, x3, x4⟩ := HK.out.1.cells
  obtain ⟨f0, f1, f2, f3, f4⟩ := HK.out.1.free
  go_upto_region 3 with fail
  go_upto_region 4 with fail
  have HK2 : Hid (K5 29 (V4.setCell ⟨cs, 4, none⟩ (.bool false)) cs ⟨h, l, k, m, false⟩ ∧ K5 29 (V4.setCell ⟨cs, 4, none⟩ (.bool false)) cz ⟨0, 0, 0, 0, false⟩ ∧ Below w.heap.size w (V4.setCell ⟨cs, 4, none⟩ (.bool false))) := Lib.hid ⟨(at_block HK.out.1 4 (.bool false)).trans rfl, HK.out.2.far (a := ⟨cs, 4, none⟩) n3 _, HW.out.setCell hs _⟩
  clear HK HW x0 x1 x2 x3 x4 f0 f1 f2 f3 f4
  generalize World.setCell V4 _ _ = V7 at HK2 ⊢
  obtain ⟨x0, x1, x2, x3, x4⟩ := HK2.out.1.cells
  have HZ := HK2.out.2.1
  have hB := HK2.out.2.2
  clear HK2
  have HR := Lib.hid (K5.put HZ (⟨h, l, k, m, false⟩ : Hw))
  have HB := Lib.hid (below_put5 hB hc (⟨h, l, k, m, false⟩ : Hw))
  obtain ⟨y0, y1, y2, y3, y4⟩ := HZ.cells
  obtain ⟨f0, f1, f2, f3, f4⟩ := HZ.free
  unfold put5 at HR HB
  clear HZ hB
  go_wp2_with fail
  generalize World.setCell (World.setCell (World.setCell (World.setCell (World.setCell V7 _ _) _ _) _ _) _ _) _ _ = V9 at HR HB ⊢
  obtain ⟨r0, r1, r2, r3, r4⟩ := HR.out.cells
  try simp only [Exit.inBlock, Exit.then, Exit.noGoto]
  refine bodyPost_ret (by simp [results, Try.results22, go_sem, r0, r1, r2, r3, r4]; try rfl) rfl ?_
  exact ⟨rfl, HB.out⟩
set_option maxHeartbeats 8000000 in
theorem xbackGo (h l k m a b : Int) (o : Bool) (O : Hid (TN 20 #[.int .u64 1] 0 1)) (A : Hid (TNB 35 #[.agg #[.int .u64 h, .int .u64 l], .agg #[.int .u64 0, .int .u64 1]] a b o)) : TH 22 #[.agg #[.int .u64 h, .int .u64 l, .int .u32 k, .int .u32 m, .bool false]] ⟨a, b, k, m, true⟩ := fun w => by
  have U := K5.new 29 w ⟨h, l, k, m, false⟩
  have z1 : (w.alloc (.cells #[.int .u64 h, .int .u64 l, .int .u32 k, .int .u32 m, .bool false] 29)).heap.size = w.heap.size + 1 := Array.size_push _
  have L := below_allocs w (.cells #[.int .u64 h, .int .u64 l, .int .u32 k, .int .u32 m, .bool false] 29)
  have H1 := Lib.hid (And.intro U (And.intro z1 L))
  clear U z1 L
  go_enter Try.func22, Try.ntmps22
  go_upto_region 1 with fail
  generalize w.alloc _ = V1 at H1 ⊢
  have UZ := K5.new 29 V1 ⟨0, 0, 0, 0, false⟩
  rw [H1.out.2.1] at UZ
  have LB := below_allocs V1 (.cells #[.int .u64 0, .int .u64 0, .int .u32 0, .int .u32 0, .bool false] 29)
  have HK := Lib.hid (And.intro (H1.out.1.below LB) UZ)
  have HW := Lib.hid (below_then H1.out.2.2 LB)
  clear UZ LB H1
  generalize V1.alloc _ = V4 at HK HW ⊢
  have hc : w.heap.size ≤ w.heap.size + 1 := Nat.le_succ _
  have n1 : w.heap.size ≠ w.heap.size + 1 := by omega
  generalize w.heap.size + 1 = cz at HK hc n1 ⊢
  have n3 := n1.symm
  obtain ⟨cs, hcs⟩ : ∃ cs, cs = w.heap.size := ⟨_, rfl⟩
  rw [← hcs] at HK n1 n3
  have hs : w.heap.size ≤ cs := Nat.le_of_eq hcs.symm
  rw [← hcs]
  clear hcs
  obtain ⟨x0, x1, x2, x3, x4⟩ := HK.out.1.cells
  go_upto_region 2 with fail
  clear x0 x1 x2 x3 x4

  go_cut [] (fun wr => K5 29 wr cs ⟨a, b, k, m, false⟩ ∧ K5 29 wr cz ⟨0, 0, 0, 0, false⟩ ∧ Below w.heap.size w wr)
  case first =>
    have hX : Below V4.heap.size V4 V4 := Below.refl _ _
    obtain ⟨f00, f01, f02, f03, f04⟩ := (HK.out.1.below hX).cells
    obtain ⟨g0, g1, g2, g3, g4⟩ := (HK.out.1.below hX).free
    have l0 : cs < V4.heap.size := (HK.out.1.below hX).lt
    go_region_with (first
      | (go_at_call 20; (with_reducible refine (O.out _).mono ?_); rintro e x0 ⟨rfl, hb⟩; replace hX := below_then (show Below V4.heap.size V4 _ by first | exact hX | exact hX.drew) hb; clear hb; clear f00 f01 f02 f03 f04 g0 g1 g2 g3 g4 l0; obtain ⟨f00, f01, f02, f03, f04⟩ := (HK.out.1.below hX).cells; obtain ⟨g0, g1, g2, g3, g4⟩ := (HK.out.1.below hX).free; have l0 := (HK.out.1.below hX).lt)
      | (go_at_call 35; (with_reducible refine (A.out _).mono ?_); rintro e x1 ⟨rfl, hb⟩; replace hX := below_then (show Below V4.heap.size V4 _ by first | exact hX | exact hX.drew) hb; clear hb; clear f00 f01 f02 f03 f04 g0 g1 g2 g3 g4 l0; obtain ⟨f00, f01, f02, f03, f04⟩ := (HK.out.1.below hX).cells; obtain ⟨g0, g1, g2, g3, g4⟩ := (HK.out.1.below hX).free; have l0 := (HK.out.1.below hX).lt))
    all_goals
      go_wp2_with fail
      go_meet
      exact ⟨K5.put2 (HK.out.1.below hX) a b, (HK.out.2.below hX).far2 n3 a b, below_put2K (below_then HW.out hX) hs a b⟩
  clear HK HW A O
  have HK := Lib.hid (And.intro hcut.1 hcut.2.1)
  have HW := Lib.hid hcut.2.2
  clear hcut
  obtain ⟨x0, x1, x2, x3, x4⟩ := HK.out.1.cells
  obtain ⟨f0, f1, f2, f3, f4⟩ := HK.out.1.free
  go_upto_region 3 with fail
  go_upto_region 4 with fail
  have HK2 : Hid (K5 29 (wc.setCell ⟨cs, 4, none⟩ (.bool true)) cs ⟨a, b, k, m, true⟩ ∧ K5 29 (wc.setCell ⟨cs, 4, none⟩ (.bool true)) cz ⟨0, 0, 0, 0, false⟩ ∧ Below w.heap.size w (wc.setCell ⟨cs, 4, none⟩ (.bool true))) := Lib.hid ⟨(at_block HK.out.1 4 (.bool true)).trans rfl, HK.out.2.far (a := ⟨cs, 4, none⟩) n3 _, HW.out.setCell hs _⟩
  clear HK HW x0 x1 x2 x3 x4 f0 f1 f2 f3 f4
  generalize World.setCell wc _ _ = V7 at HK2 ⊢
  obtain ⟨x0, x1, x2, x3, x4⟩ := HK2.out.1.cells
  have HZ := HK2.out.2.1
  have hB := HK2.out.2.2
  clear HK2
  have HR := Lib.hid (K5.put HZ (⟨a, b, k, m, true⟩ : Hw))
  have HB := Lib.hid (below_put5 hB hc (⟨a, b, k, m, true⟩ : Hw))
  obtain ⟨y0, y1, y2, y3, y4⟩ := HZ.cells
  obtain ⟨f0, f1, f2, f3, f4⟩ := HZ.free
  unfold put5 at HR HB
  clear HZ hB
  go_wp2_with fail
  generalize World.setCell (World.setCell (World.setCell (World.setCell (World.setCell V7 _ _) _ _) _ _) _ _) _ _ = V9 at HR HB ⊢
  obtain ⟨r0, r1, r2, r3, r4⟩ := HR.out.cells
  try simp only [Exit.inBlock, Exit.then, Exit.noGoto]
  refine bodyPost_ret (by simp [results, Try.results22, go_sem, r0, r1, r2, r3, r4]; try rfl) rfl ?_
  exact ⟨rfl, HB.out⟩
theorem cSubU {M N K : Nat} (i : M < 340282366920938463463374607431768211456) (j : N < 340282366920938463463374607431768211456) (hK : N + K = 340282366920938463463374607431768211456) :
    TNB 35 #[U M, U N] ((hiW ((M + K) % 340282366920938463463374607431768211456) : Nat) : Int) ((loW ((M + K) % 340282366920938463463374607431768211456) : Nat) : Int) (decide (M < N)) := fun w => by
  have wi := wn_of i
  have wj := wn_of j
  have h := Wd.wSub _ _ _ _ wi.h0 wi.h1 wi.l0 wi.l1 wj.h0 wj.h1 wj.l0 wj.l1 w
  rw [wi.eq, wj.eq] at h
  refine h.mono ?_
  rintro e w' ⟨x, y, z, ⟨k, hz⟩, rfl, hb⟩
  obtain ⟨rfl, rfl⟩ := (wn_is (N := (M + K) % 340282366920938463463374607431768211456) k (by omega)).of
  refine ⟨?_, hb⟩
  rw [hz]
  have : decide ((M : Int) < (N : Int)) = decide (M < N) := decide_eq_decide.2 (by omega)
  rw [this]
theorem of_one : TN 20 #[.int .u64 1] 0 1 := fun W => by
  have := cOf 1 _ rfl (by decide) W
  unfold AnsW at this
  exact this
theorem backH_no {x : Hs} (e : x.s = false) : (backH x).w = ⟨((hiW ((x.C + 340282366920938463463374607431768211455) % 340282366920938463463374607431768211456) : Nat) : Int), ((loW ((x.C + 340282366920938463463374607431768211455) % 340282366920938463463374607431768211456) : Nat) : Int), (x.K.k : Int), (x.K.m : Int), true⟩ := by
  unfold backH
  rw [e, if_neg Bool.false_ne_true]
theorem backH_yes {x : Hs} (e : x.s = true) : (backH x).w = ⟨((hiW x.C : Nat) : Int), ((loW x.C : Nat) : Int), (x.K.k : Int), (x.K.m : Int), false⟩ := by
  unfold backH
  rw [e]
  rfl
theorem xStepH (x : Hs) (h : x.Ok) : TH 15 #[x.val] (stepH x).w := by
  cases e : x.s
  · rw [stepH_no e, val_s e]
    exact xstepStay _ _ _ _
  · rw [stepH_yes e, val_s e]
    exact xstepGo _ _ _ _ _ _ _ (Lib.hid of_one) (Lib.hid (cAddU h.c (show 1 < 340282366920938463463374607431768211456 by decide)))
theorem xBackH (x : Hs) (h : x.Ok) : TH 22 #[x.val] (backH x).w := by
  cases e : x.s
  · rw [backH_no e, val_s e]
    have A := cSubU (M := x.C) (N := 1) (K := 340282366920938463463374607431768211455) h.c (by decide) (by decide)
    generalize (x.C + 340282366920938463463374607431768211455) % 340282366920938463463374607431768211456 = z at A ⊢
    exact xbackGo _ _ _ _ _ _ _ (Lib.hid of_one) (Lib.hid A)
  · rw [backH_yes e, val_s e]
    exact xbackStay _ _ _ _
end Go.Proofs.Ytdmoedjjbhkdmaa
