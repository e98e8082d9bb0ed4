/-
  What half's Jump answers. Made by wip/gen/hfx.py.
-/
import Derived.Test.YtdmoedjjbhkdmaaHfXc
namespace Go.Proofs.Ytdmoedjjbhkdmaa
open Go.RowKit G
set_option linter.unusedVariables false
set_option maxRecDepth 100000

set_option maxHeartbeats 8000000 in
theorem xjumpEven (h l k m : Int) (s : Bool) (p q a b c d : Int) (o : Bool) (BI : Hid (TI 30 #[.agg #[.int .u64 p, .int .u64 q], .int .i64 0] 0)) (RI : Hid (TN 31 #[.agg #[.int .u64 p, .int .u64 q], .int .i64 1] c d)) (AD : Hid (TNB 24 #[.agg #[.int .u64 h, .int .u64 l], .agg #[.int .u64 c, .int .u64 d]] a b o)) :
    TH 16 #[.agg #[.int .u64 h, .int .u64 l, .int .u32 k, .int .u32 m, .bool s], .agg #[.int .u64 p, .int .u64 q]] ⟨a, b, k, m, s⟩ := fun w => by
  have U := K5.new 29 w ⟨h, l, k, m, s⟩
  have z1 : (w.alloc (.cells #[.int .u64 h, .int .u64 l, .int .u32 k, .int .u32 m, .bool s] 29)).heap.size = w.heap.size + 1 := Array.size_push _
  have L := below_allocs w (.cells #[.int .u64 h, .int .u64 l, .int .u32 k, .int .u32 m, .bool s] 29)
  have H1 := Lib.hid (And.intro U (And.intro z1 L))
  clear U z1 L
  go_enter Try.func16, Try.ntmps16
  go_upto_region 1 with fail
  generalize w.alloc _ = V1 at H1 ⊢
  have UX := Nw.new V1 p q
  have z2 : (V1.alloc (.cells #[.int .u64 p, .int .u64 q] 24)).heap.size = w.heap.size + 1 + 1 := (Array.size_push _).trans (by rw [H1.out.2.1])
  rw [H1.out.2.1] at UX
  have LB := below_allocs V1 (.cells #[.int .u64 p, .int .u64 q] 24)
  have H2 := Lib.hid (And.intro (H1.out.1.below LB) (And.intro UX (And.intro z2 (below_then H1.out.2.2 LB))))
  clear UX z2 LB H1
  generalize V1.alloc _ = V2 at H2 ⊢
  have UZ := K5.new 29 V2 ⟨0, 0, 0, 0, false⟩
  rw [H2.out.2.2.1] at UZ
  have LB := below_allocs V2 (.cells #[.int .u64 0, .int .u64 0, .int .u32 0, .int .u32 0, .bool false] 29)
  have HK := Lib.hid (And.intro (H2.out.1.below LB) (And.intro UZ (H2.out.2.1.below LB)))
  have HW := Lib.hid (below_then H2.out.2.2.2 LB)
  clear UZ LB H2
  generalize V2.alloc _ = V4 at HK HW ⊢
  have hc : w.heap.size ≤ w.heap.size + 1 + 1 := Nat.le_trans (Nat.le_succ _) (Nat.le_succ _)
  have n1 : w.heap.size ≠ w.heap.size + 1 + 1 := by omega
  have n2 : w.heap.size + 1 ≠ w.heap.size + 1 + 1 := by omega
  have n5 : w.heap.size + 1 ≠ w.heap.size := by omega
  have n6 := n5.symm
  have n4 := n2.symm
  generalize w.heap.size + 1 + 1 = cz at HK hc n1 n2 n4 ⊢
  generalize w.heap.size + 1 = cn at HK n2 n4 n5 n6 ⊢
  have n3 := n1.symm
  obtain ⟨cs, hcs⟩ : ∃ cs, cs = w.heap.size := ⟨_, rfl⟩
  rw [← hcs] at HK n1 n3 n5 n6
  have hs : w.heap.size ≤ cs := Nat.le_of_eq hcs.symm
  rw [← hcs]
  clear hcs
  obtain ⟨v0, v1⟩ := HK.out.2.2.cells
  obtain ⟨x0, x1, x2, x3, x4⟩ := HK.out.1.cells
  go_wp2_with fail
  refine (BI.out _).mono ?_
  rintro e V5 ⟨rfl, hb⟩
  clear v0 v1 x0 x1 x2 x3 x4 BI
  replace HK := Lib.hid (And.intro (HK.out.1.below hb) (And.intro (HK.out.2.1.below hb) (HK.out.2.2.below hb)))
  replace HW := Lib.hid (below_then HW.out hb)
  clear hb
  go_upto_region 3 with fail
  go_cut [] (fun wr => K5 29 wr cs ⟨a, b, k, m, s⟩ ∧ K5 29 wr cz ⟨0, 0, 0, 0, false⟩ ∧ Below w.heap.size w wr)
  case first =>
    have hX : Below V5.heap.size V5 V5 := Below.refl _ _
    obtain ⟨f00, f01, f02, f03, f04⟩ := (HK.out.1.below hX).cells
    obtain ⟨g0, g1, g2, g3, g4⟩ := (HK.out.1.below hX).free
    have l0 : cs < V5.heap.size := (HK.out.1.below hX).lt
    obtain ⟨m0, m1⟩ := (HK.out.2.2.below hX).cells
    have l1 : cn < V5.heap.size := (HK.out.2.2.below hX).lt
    go_region_with (first
      | (go_at_call 31; (with_reducible refine (RI.out _).mono ?_); rintro e x0 ⟨rfl, hb⟩; replace hX := below_then (show Below V5.heap.size V5 _ by first | exact hX | exact hX.drew) hb; clear hb; clear f00 f01 f02 f03 f04 g0 g1 g2 g3 g4 l0 m0 m1 l1; obtain ⟨f00, f01, f02, f03, f04⟩ := (HK.out.1.below hX).cells; obtain ⟨g0, g1, g2, g3, g4⟩ := (HK.out.1.below hX).free; have l0 := (HK.out.1.below hX).lt; obtain ⟨m0, m1⟩ := (HK.out.2.2.below hX).cells; have l1 := (HK.out.2.2.below hX).lt)
      | (go_at_call 24; (with_reducible refine (AD.out _).mono ?_); rintro e x1 ⟨rfl, hb⟩; replace hX := below_then (show Below V5.heap.size V5 _ by first | exact hX | exact hX.drew) hb; clear hb; clear f00 f01 f02 f03 f04 g0 g1 g2 g3 g4 l0 m0 m1 l1; obtain ⟨f00, f01, f02, f03, f04⟩ := (HK.out.1.below hX).cells; obtain ⟨g0, g1, g2, g3, g4⟩ := (HK.out.1.below hX).free; have l0 := (HK.out.1.below hX).lt; obtain ⟨m0, m1⟩ := (HK.out.2.2.below hX).cells; have l1 := (HK.out.2.2.below hX).lt))
    all_goals
      go_wp2_with fail
      go_meet
      exact ⟨K5.put2 (HK.out.1.below hX) a b, (HK.out.2.1.below hX).far2 n3 a b, below_put2K (below_then HW.out hX) hs a b⟩
  clear HK HW RI AD
  have HK := Lib.hid (And.intro hcut.1 hcut.2.1)
  have HW := Lib.hid hcut.2.2
  clear hcut
  obtain ⟨x0, x1, x2, x3, x4⟩ := HK.out.1.cells
  have HZ := HK.out.2
  have hB := HW.out
  clear HK HW
  have HR := Lib.hid (K5.put HZ (⟨a, b, k, m, s⟩ : Hw))
  have HB := Lib.hid (below_put5 hB hc (⟨a, b, k, m, s⟩ : Hw))
  obtain ⟨y0, y1, y2, y3, y4⟩ := HZ.cells
  obtain ⟨f0, f1, f2, f3, f4⟩ := HZ.free
  unfold put5 at HR HB
  clear HZ hB
  go_wp2_with fail
  generalize World.setCell (World.setCell (World.setCell (World.setCell (World.setCell wc _ _) _ _) _ _) _ _) _ _ = V9 at HR HB ⊢
  obtain ⟨r0, r1, r2, r3, r4⟩ := HR.out.cells
  try simp only [Exit.inBlock, Exit.then, Exit.noGoto]
  refine bodyPost_ret (by simp [results, Try.results16, go_sem, r0, r1, r2, r3, r4]; try rfl) rfl ?_
  exact ⟨rfl, HB.out⟩
set_option maxHeartbeats 8000000 in
theorem xjumpOdd (h l k m : Int) (s : Bool) (p q a b c d h' l' k' m' : Int) (s' o : Bool) (BI : Hid (TI 30 #[.agg #[.int .u64 p, .int .u64 q], .int .i64 0] 1)) (SP : Hid (TH 15 #[.agg #[.int .u64 h, .int .u64 l, .int .u32 k, .int .u32 m, .bool s]] ⟨h', l', k', m', s'⟩)) (RI : Hid (TN 31 #[.agg #[.int .u64 p, .int .u64 q], .int .i64 1] c d)) (AD : Hid (TNB 24 #[.agg #[.int .u64 h', .int .u64 l'], .agg #[.int .u64 c, .int .u64 d]] a b o)) :
    TH 16 #[.agg #[.int .u64 h, .int .u64 l, .int .u32 k, .int .u32 m, .bool s], .agg #[.int .u64 p, .int .u64 q]] ⟨a, b, k', m', s'⟩ := fun w => by
  have U := K5.new 29 w ⟨h, l, k, m, s⟩
  have z1 : (w.alloc (.cells #[.int .u64 h, .int .u64 l, .int .u32 k, .int .u32 m, .bool s] 29)).heap.size = w.heap.size + 1 := Array.size_push _
  have L := below_allocs w (.cells #[.int .u64 h, .int .u64 l, .int .u32 k, .int .u32 m, .bool s] 29)
  have H1 := Lib.hid (And.intro U (And.intro z1 L))
  clear U z1 L
  go_enter Try.func16, Try.ntmps16
  go_upto_region 1 with fail
  generalize w.alloc _ = V1 at H1 ⊢
  have UX := Nw.new V1 p q
  have z2 : (V1.alloc (.cells #[.int .u64 p, .int .u64 q] 24)).heap.size = w.heap.size + 1 + 1 := (Array.size_push _).trans (by rw [H1.out.2.1])
  rw [H1.out.2.1] at UX
  have LB := below_allocs V1 (.cells #[.int .u64 p, .int .u64 q] 24)
  have H2 := Lib.hid (And.intro (H1.out.1.below LB) (And.intro UX (And.intro z2 (below_then H1.out.2.2 LB))))
  clear UX z2 LB H1
  generalize V1.alloc _ = V2 at H2 ⊢
  have UZ := K5.new 29 V2 ⟨0, 0, 0, 0, false⟩
  rw [H2.out.2.2.1] at UZ
  have LB := below_allocs V2 (.cells #[.int .u64 0, .int .u64 0, .int .u32 0, .int .u32 0, .bool false] 29)
  have HK := Lib.hid (And.intro (H2.out.1.below LB) (And.intro UZ (H2.out.2.1.below LB)))
  have HW := Lib.hid (below_then H2.out.2.2.2 LB)
  clear UZ LB H2
  generalize V2.alloc _ = V4 at HK HW ⊢
  have hc : w.heap.size ≤ w.heap.size + 1 + 1 := Nat.le_trans (Nat.le_succ _) (Nat.le_succ _)
  have n1 : w.heap.size ≠ w.heap.size + 1 + 1 := by omega
  have n2 : w.heap.size + 1 ≠ w.heap.size + 1 + 1 := by omega
  have n5 : w.heap.size + 1 ≠ w.heap.size := by omega
  have n6 := n5.symm
  have n4 := n2.symm
  generalize w.heap.size + 1 + 1 = cz at HK hc n1 n2 n4 ⊢
  generalize w.heap.size + 1 = cn at HK n2 n4 n5 n6 ⊢
  have n3 := n1.symm
  obtain ⟨cs, hcs⟩ : ∃ cs, cs = w.heap.size := ⟨_, rfl⟩
  rw [← hcs] at HK n1 n3 n5 n6
  have hs : w.heap.size ≤ cs := Nat.le_of_eq hcs.symm
  rw [← hcs]
  clear hcs
  obtain ⟨v0, v1⟩ := HK.out.2.2.cells
  obtain ⟨x0, x1, x2, x3, x4⟩ := HK.out.1.cells
  go_wp2_with fail
  refine (BI.out _).mono ?_
  rintro e V5 ⟨rfl, hb⟩
  clear v0 v1 x0 x1 x2 x3 x4 BI
  replace HK := Lib.hid (And.intro (HK.out.1.below hb) (And.intro (HK.out.2.1.below hb) (HK.out.2.2.below hb)))
  replace HW := Lib.hid (below_then HW.out hb)
  clear hb
  obtain ⟨x0, x1, x2, x3, x4⟩ := HK.out.1.cells
  go_wp2_with fail
  refine (SP.out _).mono ?_
  rintro e V6 ⟨rfl, hb⟩
  clear x0 x1 x2 x3 x4 SP
  replace HK := Lib.hid (And.intro (HK.out.1.below hb) (And.intro (HK.out.2.1.below hb) (HK.out.2.2.below hb)))
  replace HW := Lib.hid (below_then HW.out hb)
  clear hb
  obtain ⟨f0, f1, f2, f3, f4⟩ := HK.out.1.free
  obtain ⟨x0, x1, x2, x3, x4⟩ := HK.out.1.cells
  go_upto_region 3 with fail
  have HK2 : Hid (K5 29 (put5 V6 cs ⟨h', l', k', m', s'⟩) cs ⟨h', l', k', m', s'⟩ ∧ K5 29 (put5 V6 cs ⟨h', l', k', m', s'⟩) cz ⟨0, 0, 0, 0, false⟩ ∧ Nw (put5 V6 cs ⟨h', l', k', m', s'⟩) cn p q) := Lib.hid ⟨K5.put HK.out.1 _, HK.out.2.1.far5 n3 _, ((((HK.out.2.2.far n5 _).far n5 _).far n5 _).far n5 _).far n5 _⟩
  have HW2 := Lib.hid (below_put5 HW.out hs (⟨h', l', k', m', s'⟩ : Hw))
  clear HK HW x0 x1 x2 x3 x4 f0 f1 f2 f3 f4
  unfold put5 at HK2 HW2
  generalize World.setCell (World.setCell (World.setCell (World.setCell (World.setCell V6 _ _) _ _) _ _) _ _) _ _ = V7 at HK2 HW2 ⊢
  have HK := HK2
  have HW := HW2
  clear HK2 HW2
  go_cut [] (fun wr => K5 29 wr cs ⟨a, b, k', m', s'⟩ ∧ K5 29 wr cz ⟨0, 0, 0, 0, false⟩ ∧ Below w.heap.size w wr)
  case first =>
    have hX : Below V7.heap.size V7 V7 := Below.refl _ _
    obtain ⟨f00, f01, f02, f03, f04⟩ := (HK.out.1.below hX).cells
    obtain ⟨g0, g1, g2, g3, g4⟩ := (HK.out.1.below hX).free
    have l0 : cs < V7.heap.size := (HK.out.1.below hX).lt
    obtain ⟨m0, m1⟩ := (HK.out.2.2.below hX).cells
    have l1 : cn < V7.heap.size := (HK.out.2.2.below hX).lt
    go_region_with (first
      | (go_at_call 31; (with_reducible refine (RI.out _).mono ?_); rintro e x0 ⟨rfl, hb⟩; replace hX := below_then (show Below V7.heap.size V7 _ by first | exact hX | exact hX.drew) hb; clear hb; clear f00 f01 f02 f03 f04 g0 g1 g2 g3 g4 l0 m0 m1 l1; obtain ⟨f00, f01, f02, f03, f04⟩ := (HK.out.1.below hX).cells; obtain ⟨g0, g1, g2, g3, g4⟩ := (HK.out.1.below hX).free; have l0 := (HK.out.1.below hX).lt; obtain ⟨m0, m1⟩ := (HK.out.2.2.below hX).cells; have l1 := (HK.out.2.2.below hX).lt)
      | (go_at_call 24; (with_reducible refine (AD.out _).mono ?_); rintro e x1 ⟨rfl, hb⟩; replace hX := below_then (show Below V7.heap.size V7 _ by first | exact hX | exact hX.drew) hb; clear hb; clear f00 f01 f02 f03 f04 g0 g1 g2 g3 g4 l0 m0 m1 l1; obtain ⟨f00, f01, f02, f03, f04⟩ := (HK.out.1.below hX).cells; obtain ⟨g0, g1, g2, g3, g4⟩ := (HK.out.1.below hX).free; have l0 := (HK.out.1.below hX).lt; obtain ⟨m0, m1⟩ := (HK.out.2.2.below hX).cells; have l1 := (HK.out.2.2.below hX).lt))
    all_goals
      go_wp2_with fail
      go_meet
      exact ⟨K5.put2 (HK.out.1.below hX) a b, (HK.out.2.1.below hX).far2 n3 a b, below_put2K (below_then HW.out hX) hs a b⟩
  clear HK HW RI AD
  have HK := Lib.hid (And.intro hcut.1 hcut.2.1)
  have HW := Lib.hid hcut.2.2
  clear hcut
  obtain ⟨x0, x1, x2, x3, x4⟩ := HK.out.1.cells
  have HZ := HK.out.2
  have hB := HW.out
  clear HK HW
  have HR := Lib.hid (K5.put HZ (⟨a, b, k', m', s'⟩ : Hw))
  have HB := Lib.hid (below_put5 hB hc (⟨a, b, k', m', s'⟩ : Hw))
  obtain ⟨y0, y1, y2, y3, y4⟩ := HZ.cells
  obtain ⟨f0, f1, f2, f3, f4⟩ := HZ.free
  unfold put5 at HR HB
  clear HZ hB
  go_wp2_with fail
  generalize World.setCell (World.setCell (World.setCell (World.setCell (World.setCell wc _ _) _ _) _ _) _ _) _ _ = V9 at HR HB ⊢
  obtain ⟨r0, r1, r2, r3, r4⟩ := HR.out.cells
  try simp only [Exit.inBlock, Exit.then, Exit.noGoto]
  refine bodyPost_ret (by simp [results, Try.results16, go_sem, r0, r1, r2, r3, r4]; try rfl) rfl ?_
  exact ⟨rfl, HB.out⟩
theorem cBit0U {N : Nat} (i : N < 340282366920938463463374607431768211456) : TI 30 #[U N, .int .i64 0] ((N % 2 : Nat) : Int) := fun w => by
  have wi := wn_of i
  have h := Wd.wBit _ _ 0 wi.h0 wi.h1 wi.l0 wi.l1 w
  rw [wi.eq] at h
  refine h.mono ?_
  rintro e w' ⟨r, rfl, rfl, hb⟩
  refine ⟨?_, hb⟩
  unfold Wd.bitOf
  rw [if_neg (by decide), show (0 : Int).toNat = 0 from rfl]
  congr 3
  omega
theorem cRight1U {N : Nat} (i : N < 340282366920938463463374607431768211456) : TN 31 #[U N, .int .i64 1] ((hiW (N / 2) : Nat) : Int) ((loW (N / 2) : Nat) : Int) := fun w => by
  have wi := wn_of i
  have h := Wd.wRight _ _ 1 wi.h0 wi.h1 wi.l0 wi.l1 w
  rw [wi.eq] at h
  refine h.mono ?_
  rintro e w' ⟨x, y, k, rfl, hb⟩
  obtain ⟨rfl, rfl⟩ := (wn_is (N := N / 2) k (by rw [show (2 : Int) ^ (1 : Int).toNat = 2 from rfl]; omega)).of
  exact ⟨rfl, hb⟩
/-- A jump: its odd step first, then so many numbers. -/
def onH (x : Hs) (d : Nat) : Hs := ⟨(x.C + d) % 340282366920938463463374607431768211456, x.K, x.s⟩
theorem onH_tick (x : Hs) (d : Nat) : tick (onH x d) = (tick x + 2 * d) % 680564733841876926926749214863536422912 := by
  unfold tick onH
  have := one_lt x.s
  show 2 * ((x.C + d) % 340282366920938463463374607431768211456) + one x.s = _
  generalize one x.s = b at *
  omega
theorem jumpH_even {x : Hs} {n : Nat} (e : n % 2 = 0) : jumpH x n = onH x (n / 2) := by
  refine tick_same rfl ?_
  rw [tick_jump, onH_tick, show 2 * (n / 2) = n by omega]
theorem jumpH_odd {x : Hs} {n : Nat} (h : x.Ok) (e : n % 2 = 1) : jumpH x n = onH (stepH x) (n / 2) := by
  refine tick_same (show x.K = (stepH x).K from (stepH_K x).symm) ?_
  rw [tick_jump, onH_tick, tick_step h]
  omega
theorem xJumpH (x : Hs) (n : Nat) (h : x.Ok) (hn : n < 340282366920938463463374607431768211456) : TH 16 #[x.val, U n] (jumpH x n).w := by
  have hd : n / 2 < 340282366920938463463374607431768211456 := by omega
  have BI := cBit0U hn
  rcases Nat.mod_two_eq_zero_or_one n with e | e
  · rw [jumpH_even e]
    rw [e] at BI
    exact xjumpEven _ _ _ _ _ _ _ _ _ _ _ _ (Lib.hid BI) (Lib.hid (cRight1U hn)) (Lib.hid (cAddU h.c hd))
  · rw [jumpH_odd h e]
    rw [e] at BI
    exact xjumpOdd _ _ _ _ _ _ _ _ _ _ _ _ _ _ _ _ _ (Lib.hid BI) (Lib.hid (xStepH x h)) (Lib.hid (cRight1U hn)) (Lib.hid (cAddU (stepH_ok h).c hd))
end Go.Proofs.Ytdmoedjjbhkdmaa
