/-
  What the reference of layer 12 answers: Step, Jump. Made by wip/gen/hfref2.py.
-/
import Derived.Test.YtdmoedjjbhkdmaaHfR
import Derived.Deep.LoopGhost
namespace Go.Proofs.Ytdmoedjjbhkdmaa
open Go.RowKit G
set_option linter.unusedVariables false
set_option maxRecDepth 100000

theorem hi_natH (n : Nat) : Wd.hi (n : Int) = ((hiW n : Nat) : Int) := by unfold Wd.hi hiW; omega
theorem lo_natH (n : Nat) : Wd.lo (n : Int) = ((loW n : Nat) : Int) := by unfold Wd.lo loW; omega
theorem rng_natH {n : Nat} (h : n < 340282366920938463463374607431768211456) : Wd.Rng (n : Int) := ⟨by omega, by omega⟩
theorem md_natH (n : Nat) : Wd.md (n : Int) = ((n % 340282366920938463463374607431768211456 : Nat) : Int) := by unfold Wd.md; rw [Int.natCast_emod]; rfl
theorem yAddH {M N : Nat} (i : M < 340282366920938463463374607431768211456) (j : N < 340282366920938463463374607431768211456) : TNB 26 #[U M, U N] ((hiW ((M + N) % 340282366920938463463374607431768211456) : Nat) : Int) ((loW ((M + N) % 340282366920938463463374607431768211456) : Nat) : Int) (decide ((340282366920938463463374607431768211456 : Int) ≤ (M : Int) + (N : Int))) := fun W => by
  have q := Wd.rAddN M N (rng_natH i) (rng_natH j) W
  rw [show Wd.md ((M : Int) + (N : Int)) = (((M + N) % 340282366920938463463374607431768211456 : Nat) : Int) by rw [← Int.natCast_add]; exact md_natH _] at q
  unfold Wd.N2 at q
  simp only [hi_natH, lo_natH] at q
  exact q
set_option maxHeartbeats 4000000 in
theorem ystepNo (h l k m : Int) : TH 12 #[.agg #[.int .u64 h, .int .u64 l, .int .u32 k, .int .u32 m, .bool false]] ⟨h, l, k, m, true⟩ := fun w => by
  have U := K5.new 37 w ⟨h, l, k, m, false⟩
  have z1 : (w.alloc (.cells #[.int .u64 h, .int .u64 l, .int .u32 k, .int .u32 m, .bool false] 37)).heap.size = w.heap.size + 1 := Array.size_push _
  have L := below_allocs w (.cells #[.int .u64 h, .int .u64 l, .int .u32 k, .int .u32 m, .bool false] 37)
  have H1 := Lib.hid (And.intro U (And.intro z1 L))
  clear U z1 L
  go_enter Try.func12, Try.ntmps12
  go_upto_region 1 with fail
  generalize w.alloc _ = V1 at H1 ⊢
  have UZ := K5.new 37 V1 ⟨0, 0, 0, 0, false⟩
  rw [H1.out.2.1] at UZ
  have LB := below_allocs V1 (.cells #[.int .u64 0, .int .u64 0, .int .u32 0, .int .u32 0, .bool false] 37)
  have HK := Lib.hid (And.intro (H1.out.1.below LB) (And.intro UZ (below_then H1.out.2.2 LB)))
  clear UZ LB H1
  generalize V1.alloc _ = V4 at HK ⊢
  have hc : w.heap.size ≤ w.heap.size + 1 := Nat.le_succ _
  have hz : w.heap.size + 1 ≠ w.heap.size := Nat.succ_ne_self _
  generalize w.heap.size + 1 = cz at HK hc hz ⊢
  obtain ⟨x0, x1, x2, x3, x4⟩ := HK.out.1.cells
  have HZ := HK.out.2.1
  have hB := HK.out.2.2
  clear HK
  have HR := Lib.hid (K5.put HZ (⟨h, l, k, m, true⟩ : Hw))
  have HB := Lib.hid (below_put5 hB hc (⟨h, l, k, m, true⟩ : Hw))
  obtain ⟨y0, y1, y2, y3, y4⟩ := HZ.cells
  obtain ⟨f0, f1, f2, f3, f4⟩ := HZ.free
  unfold put5 at HR HB
  clear HZ hB
  go_wp2_with fail
  generalize World.setCell (World.setCell (World.setCell (World.setCell (World.setCell V4 _ _) _ _) _ _) _ _) _ _ = V9 at HR HB ⊢
  obtain ⟨r0, r1, r2, r3, r4⟩ := HR.out.cells
  try simp only [Exit.inBlock, Exit.then, Exit.noGoto]
  refine bodyPost_ret (by simp [results, Try.results12, go_sem, r0, r1, r2, r3, r4]; try rfl) rfl ?_
  exact ⟨rfl, HB.out⟩
set_option maxHeartbeats 4000000 in
theorem ystepYes (h l k m a b : Int) (o : Bool) (A : Hid (TNB 26 #[.agg #[.int .u64 h, .int .u64 l], .agg #[.int .u64 0, .int .u64 1]] a b o)) : TH 12 #[.agg #[.int .u64 h, .int .u64 l, .int .u32 k, .int .u32 m, .bool true]] ⟨a, b, k, m, false⟩ := fun w => by
  have U := K5.new 37 w ⟨h, l, k, m, true⟩
  have z1 : (w.alloc (.cells #[.int .u64 h, .int .u64 l, .int .u32 k, .int .u32 m, .bool true] 37)).heap.size = w.heap.size + 1 := Array.size_push _
  have L := below_allocs w (.cells #[.int .u64 h, .int .u64 l, .int .u32 k, .int .u32 m, .bool true] 37)
  have H1 := Lib.hid (And.intro U (And.intro z1 L))
  clear U z1 L
  go_enter Try.func12, Try.ntmps12
  go_upto_region 1 with fail
  generalize w.alloc _ = V1 at H1 ⊢
  have UZ := K5.new 37 V1 ⟨0, 0, 0, 0, false⟩
  rw [H1.out.2.1] at UZ
  have LB := below_allocs V1 (.cells #[.int .u64 0, .int .u64 0, .int .u32 0, .int .u32 0, .bool false] 37)
  have HK := Lib.hid (And.intro (H1.out.1.below LB) (And.intro UZ (below_then H1.out.2.2 LB)))
  clear UZ LB H1
  generalize V1.alloc _ = V4 at HK ⊢
  have hc : w.heap.size ≤ w.heap.size + 1 := Nat.le_succ _
  have hz : w.heap.size + 1 ≠ w.heap.size := Nat.succ_ne_self _
  generalize w.heap.size + 1 = cz at HK hc hz ⊢
  obtain ⟨x0, x1, x2, x3, x4⟩ := HK.out.1.cells
  go_wp2_with fail
  clear x0 x1 x2 x3 x4
  refine (A.out _).mono ?_
  rintro e V5 ⟨rfl, hb⟩
  have LB := below_then hb (below_allocs V5 (.cells #[.int .u64 a, .int .u64 b] 35))
  have HC := Lib.hid (cells_new V5 (.int .u64 a) (.int .u64 b) 35)
  have H2 := Lib.hid (And.intro (HK.out.1.below LB) (And.intro (HK.out.2.1.below LB) (below_then HK.out.2.2 LB)))
  clear HK LB hb A
  go_upto_region 3 with fail
  generalize V5.alloc _ = V6 at HC H2 ⊢
  generalize V5.heap.size = ca at HC ⊢
  obtain ⟨c0, c1⟩ := HC.out
  obtain ⟨x0, x1, x2, x3, x4⟩ := H2.out.1.cells
  have HZ := H2.out.2.1
  have hB := H2.out.2.2
  clear H2
  have HR := Lib.hid (K5.put HZ (⟨a, b, k, m, false⟩ : Hw))
  have HB := Lib.hid (below_put5 hB hc (⟨a, b, k, m, false⟩ : Hw))
  obtain ⟨y0, y1, y2, y3, y4⟩ := HZ.cells
  obtain ⟨f0, f1, f2, f3, f4⟩ := HZ.free
  unfold put5 at HR HB
  clear HZ hB
  go_wp2_with fail
  generalize World.setCell (World.setCell (World.setCell (World.setCell (World.setCell V6 _ _) _ _) _ _) _ _) _ _ = V9 at HR HB ⊢
  obtain ⟨r0, r1, r2, r3, r4⟩ := HR.out.cells
  try simp only [Exit.inBlock, Exit.then, Exit.noGoto]
  refine bodyPost_ret (by simp [results, Try.results12, go_sem, r0, r1, r2, r3, r4]; try rfl) rfl ?_
  exact ⟨rfl, HB.out⟩
theorem stepH_no {x : Hs} (e : x.s = false) : (stepH x).w = ⟨((hiW x.C : Nat) : Int), ((loW x.C : Nat) : Int), (x.K.k : Int), (x.K.m : Int), true⟩ := by
  unfold stepH
  rw [e]
  rfl
theorem stepH_yes {x : Hs} (e : x.s = true) : (stepH x).w = ⟨((hiW ((x.C + 1) % 340282366920938463463374607431768211456) : Nat) : Int), ((loW ((x.C + 1) % 340282366920938463463374607431768211456) : Nat) : Int), (x.K.k : Int), (x.K.m : Int), false⟩ := by
  unfold stepH
  rw [e]
  rfl
theorem val_s {x : Hs} {b : Bool} (e : x.s = b) : x.val = .agg #[.int .u64 ((hiW x.C : Nat) : Int), .int .u64 ((loW x.C : Nat) : Int), .int .u32 (x.K.k : Int), .int .u32 (x.K.m : Int), .bool b] := by rw [← e]
theorem yStepH (x : Hs) (h : x.Ok) : TH 12 #[x.val] (stepH x).w := by
  cases e : x.s
  · rw [stepH_no e, val_s e]
    exact ystepNo _ _ _ _
  · rw [stepH_yes e, val_s e]
    exact ystepYes _ _ _ _ _ _ _ (Lib.hid (yAddH h.c (show 1 < 340282366920938463463374607431768211456 by decide)))
set_option maxHeartbeats 8000000 in
theorem yjumpMain (n : Nat) (hn : n ≤ 1000) (y : Hw) (st : Nat → Hw → Prop) (I : Hid (st 0 y)) (S : Hid (∀ (j : Nat) (p : Hw), st j p → ∃ q : Hw, st (j + 1) q ∧ TH 12 #[p.val] q)) (w : World) :
    Calls Try.prog 21 #[y.val, .int .i64 (n : Int)] w (fun e w' => ∃ q : Hw, st n q ∧ e = .returned q.val ∧ Below w.heap.size w w') := by
  have U := K5.new 37 w y
  have z1 : (w.alloc (.cells #[.int .u64 y.h, .int .u64 y.l, .int .u32 y.k, .int .u32 y.m, .bool y.s] 37)).heap.size = w.heap.size + 1 := Array.size_push _
  have L := below_allocs w (.cells #[.int .u64 y.h, .int .u64 y.l, .int .u32 y.k, .int .u32 y.m, .bool y.s] 37)
  have H1 := Lib.hid (And.intro U (And.intro z1 L))
  clear U z1 L
  go_enter Try.func21, Try.ntmps21
  go_upto_region 1 with fail
  generalize w.alloc _ = V1 at H1 ⊢
  have UZ := K5.new 37 V1 ⟨0, 0, 0, 0, false⟩
  rw [H1.out.2.1] at UZ
  have LB := below_allocs V1 (.cells #[.int .u64 0, .int .u64 0, .int .u32 0, .int .u32 0, .bool false] 37)
  have HK := Lib.hid (And.intro (H1.out.1.below LB) (And.intro UZ (below_then H1.out.2.2 LB)))
  clear UZ LB H1
  generalize V1.alloc _ = V4 at HK ⊢
  have hc : w.heap.size ≤ w.heap.size + 1 := Nat.le_succ _
  have hz : w.heap.size + 1 ≠ w.heap.size := Nat.succ_ne_self _
  generalize w.heap.size + 1 = cz at HK hc hz ⊢
  have F0 : Hid ((∃ p : Hw, st 0 p ∧ K5 37 V4 w.heap.size p) ∧ K5 37 V4 cz ⟨0, 0, 0, 0, false⟩ ∧ Below w.heap.size w V4) := Lib.hid ⟨⟨y, I.out, HK.out.1⟩, HK.out.2.1, HK.out.2.2⟩
  have Hc := Lib.hid (And.intro hc hz)
  clear HK hc hz I
  go_wp2_with fail
  go_loopg [5] n (fun gh z wr => ∃ j : Nat, j + gh = n ∧ z = .int .i64 (j : Int) ∧ Hid ((∃ p : Hw, st j p ∧ K5 37 wr w.heap.size p) ∧ K5 37 wr cz ⟨0, 0, 0, 0, false⟩ ∧ Below w.heap.size w wr))
  case atStart => exact ⟨0, Nat.zero_add _, rfl, F0⟩
  case round =>
    obtain ⟨j, hg, rfl, F⟩ := hrel
    clear F0
    obtain ⟨⟨p, hs, K⟩, FZ, FL⟩ := F.out
    have HS := Lib.hid hs
    by_cases hlt : j < n
    · have pl : (j : Int) < (n : Int) := by omega
      obtain ⟨q, hs', C⟩ := S.out j p hs
      have HS' := Lib.hid hs'
      have C := Lib.hid C
      have H1 := Lib.hid (And.intro FZ FL)
      obtain ⟨x0, x1, x2, x3, x4⟩ := K.cells
      have HK := Lib.hid K
      have w1 : IntKind.i64.wrap ((j : Int) + 1) = ((j + 1 : Nat) : Int) := by rw [IntKind.wrap_i64]; omega
      clear F FZ FL hs hs' K HS
      go_wp2_with fail
      refine (C.out _).mono ?_
      rintro e V5 ⟨rfl, hb⟩
      clear x0 x1 x2 x3 x4
      have K5' := HK.out.below hb
      have H5 := Lib.hid (And.intro K5' (And.intro (H1.out.1.below hb) (below_then H1.out.2 hb)))
      obtain ⟨x0, x1, x2, x3, x4⟩ := K5'.cells
      obtain ⟨f0, f1, f2, f3, f4⟩ := K5'.free
      clear H1 HK K5' hb
      go_wp2_with fail
      go_roundg (gk - 1)
      case measure => omega
      case rel => exact ⟨j + 1, by omega, by first | rfl | go_num, Lib.hid ⟨⟨q, HS'.out, K5.put H5.out.1 q⟩, H5.out.2.1.far5 Hc.out.2 q, below_put5 H5.out.2.2 (Nat.le_refl _) q⟩⟩
    · obtain rfl : j = n := by omega
      have pl : ¬ ((j : Int) < (j : Int)) := by omega
      obtain ⟨x0, x1, x2, x3, x4⟩ := K.cells
      have HZ := FZ
      have hB := FL
      have hc := Hc.out.1
      clear F FZ FL hs K S
      have HR := Lib.hid (K5.put HZ p)
      have HB := Lib.hid (below_put5 hB hc p)
      obtain ⟨y0, y1, y2, y3, y4⟩ := HZ.cells
      obtain ⟨f0, f1, f2, f3, f4⟩ := HZ.free
      unfold put5 at HR HB
      clear HZ hB
      go_wp2_with fail
      generalize World.setCell (World.setCell (World.setCell (World.setCell (World.setCell wr _ _) _ _) _ _) _ _) _ _ = V9 at HR HB ⊢
      obtain ⟨r0, r1, r2, r3, r4⟩ := HR.out.cells
      try simp only [Exit.inBlock, Exit.then, Exit.noGoto]
      refine bodyPost_ret (by simp [results, Try.results21, go_sem, r0, r1, r2, r3, r4]; try rfl) rfl ?_
      exact ⟨p, HS.out, rfl, HB.out⟩
theorem yJumpH (x : Hs) (h : x.Ok) (n : Nat) (hn : n ≤ 1000) : TH 21 #[x.val, .int .i64 (n : Int)] (iterH x n).w := fun W => by
  refine (yjumpMain n hn x.w (fun j p => p = (iterH x j).w) (Lib.hid rfl) (Lib.hid ?_) W).mono ?_
  · rintro j p rfl
    have := yStepH (iterH x j) (iterH_ok h j)
    have e : stepH (iterH x j) = iterH x (j + 1) := rfl
    rw [e] at this
    exact ⟨(iterH x (j + 1)).w, Eq.refl _, this⟩
  · rintro e w' ⟨q, rfl, rfl, hb⟩
    exact ⟨rfl, hb⟩
end Go.Proofs.Ytdmoedjjbhkdmaa
