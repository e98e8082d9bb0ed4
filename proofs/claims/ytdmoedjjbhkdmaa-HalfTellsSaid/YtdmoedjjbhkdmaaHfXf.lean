/-
  What half's Words answers. Made by wip/gen/hfxf.py.
-/
import Derived.Test.YtdmoedjjbhkdmaaHfXb
import Derived.Test.YtdmoedjjbhkdmaaHfXc
namespace Go.Proofs.Ytdmoedjjbhkdmaa
open Go.RowKit G
set_option linter.unusedVariables false
set_option maxRecDepth 100000

theorem heapNewH (w : World) (o : Obj) : (w.alloc o).heap[w.heap.size]? = some o := by
  show (w.heap.push o)[w.heap.size]? = some o
  simp
theorem row_newH (w : World) (base M : Nat) (hb : base ≤ w.heap.size) (hM : M ≤ 9223372036854775807) : Row base w.heap.size M (List.replicate M 0) (w.alloc (.cells (madeCells #[.int .u64 0] M) 22)) := by
  have F := Fill.start w M
  refine ⟨⟨by simp [words], .inr ⟨w.heap.size, M, madeCells #[.int .u64 0] M, by rw [List.length_replicate], hb, heapNewH w _, by simp, hM, ?_, ?_⟩⟩, F.wds⟩
  · rw [size_madeCells, Nat.mul_one]
  · rw [toList_madeCells_one, List.length_replicate, Nat.mul_one, words, List.map_replicate, List.take_replicate, Nat.min_self]
    rfl
theorem grown_put5 (w : World) (b : Nat) (z : Hw) : w.grownBy (put5 w b z) (some b) :=
  grown_set (grown_set (grown_set (grown_set (grown_set (grown_refl w _) 0 _) 1 _) 2 _) 3 _) 4 _
/-- What a loop keeps that fills a new list while a state beside it is written. -/
structure FillH (w : World) (g n cs cz : Nat) (ps us : List Nat) (y : Hw) (wr : World) : Prop where
  row : Row w.heap.size g n ps wr
  len : ps.length = n
  ok : ps.take us.length = us
  bx : K5 29 wr cs y
  z : K5 29 wr cz ⟨0, 0, 0, 0, false⟩
  below : Below w.heap.size w wr
  cg : cs ≠ g
  zg : cz ≠ g
  zc : cz ≠ cs
  le : w.heap.size ≤ cs
section
variable {w wr w' : World} {g n cs cz : Nat} {ps us : List Nat} {y y' : Hw}
theorem FillH.far (h : FillH w g n cs cz ps us y wr) (hb : Below wr.heap.size wr w') : FillH w g n cs cz ps us y w' := ⟨h.row.below hb, h.len, h.ok, h.bx.below hb, h.z.below hb, below_then h.below hb, h.cg, h.zg, h.zc, h.le⟩
theorem FillH.set (h : FillH w g n cs cz ps us y wr) (x : Nat) (hx : x < 18446744073709551616) (hl : us.length < n) : FillH w g n cs cz (ps.set us.length x) (us ++ [x]) y (wr.setCell ⟨g, us.length, none⟩ (.int .u64 (x : Int))) := by
  refine ⟨h.row.set _ _ hx, by rw [List.length_set]; exact h.len, ?_, h.bx.far h.cg _, h.z.far h.zg _, h.below.setCell h.row.lt.1 _, h.cg, h.zg, h.zc, h.le⟩
  rw [List.length_append, List.length_singleton, take_next _ _ x (by rw [List.length_set, h.len]; exact hl) (by simp [h.len, hl])]
  rw [List.take_set_of_le (Nat.le_refl _), h.ok]
theorem FillH.cell (h : FillH w g n cs cz ps us y wr) (hl : us.length < n) : wr.cell? ⟨g, us.length, none⟩ = some (.int .u64 ((ps.getD us.length 0 : Nat) : Int)) ∧ wr.frozen? ⟨g, us.length, none⟩ = false :=
  h.row.cell _ (by rw [h.len]; exact hl)
theorem FillH.put (h : FillH w g n cs cz ps us y wr) (y' : Hw) : FillH w g n cs cz ps us y' (put5 wr cs y') :=
  ⟨h.row.kept (grown_put5 wr cs _) h.cg.symm, h.len, h.ok, K5.put h.bx _, h.z.far5 h.zc _, below_put5 h.below h.le _, h.cg, h.zg, h.zc, h.le⟩
theorem FillH.full (h : FillH w g n cs cz ps us y wr) (hl : us.length = n) : Pol wr (some ⟨g, 0, none⟩) n us := by
  have e : ps = us := by rw [← h.ok, hl, ← h.len, List.take_length]
  rw [← e]; exact h.row.pol
end
set_option maxHeartbeats 8000000 in
theorem pwordsHN (y : Hw) (many : Int) (hm : many < 0 ∨ 256 < many) (w : World) : Calls Try.prog 9 #[y.val, .int .i64 many] w (NoH 1 w) := by
  have U := K5.new 29 w y
  have z1 : (w.alloc (.cells #[.int .u64 y.h, .int .u64 y.l, .int .u32 y.k, .int .u32 y.m, .bool y.s] 29)).heap.size = w.heap.size + 1 := Array.size_push _
  have L := below_allocs w (.cells #[.int .u64 y.h, .int .u64 y.l, .int .u32 y.k, .int .u32 y.m, .bool y.s] 29)
  have H1 := Lib.hid (And.intro U (And.intro z1 L))
  clear U z1 L
  go_enter Try.func9, Try.ntmps9
  go_upto_region 1 with fail
  generalize w.alloc _ = V1 at H1 ⊢
  have UZ := K5.new 29 V1 ⟨0, 0, 0, 0, false⟩
  rw [H1.out.2.1] at UZ
  have LB := below_allocs V1 (.cells #[.int .u64 0, .int .u64 0, .int .u32 0, .int .u32 0, .bool false] 29)
  have HK := Lib.hid (And.intro (H1.out.1.below LB) UZ)
  have HW := Lib.hid (below_then H1.out.2.2 LB)
  clear UZ LB H1
  generalize V1.alloc _ = V4 at HK HW ⊢
  have hc : w.heap.size ≤ w.heap.size + 1 := Nat.le_succ _
  have n1 : w.heap.size ≠ w.heap.size + 1 := by omega
  generalize w.heap.size + 1 = cz at HK hc n1 ⊢
  have n3 := n1.symm
  obtain ⟨cs, hcs⟩ : ∃ cs, cs = w.heap.size := ⟨_, rfl⟩
  rw [← hcs] at HK n1 n3 ⊢
  have hs := Lib.hid (Nat.le_of_eq hcs.symm)
  clear hcs
  by_cases h0 : many < 0
  · clear hm
    have Z := HK.out.2
    have HR := Lib.hid (K5.put Z (⟨0, 0, 0, 0, false⟩ : Hw))
    have HB := Lib.hid (below_put5 HW.out hc (⟨0, 0, 0, 0, false⟩ : Hw))
    obtain ⟨y0, y1, y2, y3, y4⟩ := Z.cells
    obtain ⟨f0, f1, f2, f3, f4⟩ := Z.free
    unfold put5 at HR HB
    clear HK HW Z
    go_wp2_with fail
    generalize World.setCell (World.setCell (World.setCell (World.setCell (World.setCell V4 _ _) _ _) _ _) _ _) _ _ = V9 at HR HB ⊢
    obtain ⟨r0, r1, r2, r3, r4⟩ := HR.out.cells
    try simp only [Exit.inBlock, Exit.then, Exit.noGoto]
    refine bodyPost_ret (by simp [results, Try.results9, go_sem, r0, r1, r2, r3, r4]; try rfl) rfl ?_
    exact ⟨rfl, HB.out⟩
  · have h1 : many > 256 := by omega
    clear hm
    have Z := HK.out.2
    have HR := Lib.hid (K5.put Z (⟨0, 0, 0, 0, false⟩ : Hw))
    have HB := Lib.hid (below_put5 HW.out hc (⟨0, 0, 0, 0, false⟩ : Hw))
    obtain ⟨y0, y1, y2, y3, y4⟩ := Z.cells
    obtain ⟨f0, f1, f2, f3, f4⟩ := Z.free
    unfold put5 at HR HB
    clear HK HW Z
    go_wp2_with fail
    generalize World.setCell (World.setCell (World.setCell (World.setCell (World.setCell V4 _ _) _ _) _ _) _ _) _ _ = V9 at HR HB ⊢
    obtain ⟨r0, r1, r2, r3, r4⟩ := HR.out.cells
    try simp only [Exit.inBlock, Exit.then, Exit.noGoto]
    refine bodyPost_ret (by simp [results, Try.results9, go_sem, r0, r1, r2, r3, r4]; try rfl) rfl ?_
    exact ⟨rfl, HB.out⟩
set_option maxHeartbeats 8000000 in
theorem pwordsHY (y : Hw) (n : Nat) (hn : n ≤ 256) (st : Nat → Hw → Prop) (row : Nat → List Nat)
    (st0 : Hid (st 0 y)) (row0 : Hid (row 0 = [])) (rlen : Hid (∀ j, (row j).length = j))
    (NX : Hid (∀ (j : Nat) (p : Hw), st j p → ∃ X : Nat, X < 18446744073709551616 ∧ TU 14 #[p.val] (X : Int) ∧ ∃ p' : Hw, st (j + 1) p' ∧ TH 15 #[p.val] p' ∧ row (j + 1) = row j ++ [X])) (w : World) :
    Calls Try.prog 9 #[y.val, .int .i64 (n : Int)] w (fun e w' => ∃ (A : Option Addr) (cap : Nat) (z : Hw), e = .returned (.tuple #[.slice A (row n).length cap, .agg #[.int .u64 z.h, .int .u64 z.l, .int .u32 z.k, .int .u32 z.m, .bool z.s], .int .i64 0]) ∧ st n z ∧ Pol w' A cap (row n) ∧ Below w.heap.size w w') := by
  have hmk := run_make_row' (P := Try.prog) 31 22 (.int .u64 0) 8 Try.underlying31 infoW rfl .i64 .i64 n (by omega) (by omega)
  have HMK := Lib.hid hmk
  clear hmk
  have h0 : ¬ (n : Int) < 0 := by omega
  have h1 : ¬ (n : Int) > 256 := by omega
  have U := K5.new 29 w y
  have z1 : (w.alloc (.cells #[.int .u64 y.h, .int .u64 y.l, .int .u32 y.k, .int .u32 y.m, .bool y.s] 29)).heap.size = w.heap.size + 1 := Array.size_push _
  have L := below_allocs w (.cells #[.int .u64 y.h, .int .u64 y.l, .int .u32 y.k, .int .u32 y.m, .bool y.s] 29)
  have H1 := Lib.hid (And.intro U (And.intro z1 L))
  clear U z1 L
  go_enter Try.func9, Try.ntmps9
  go_upto_region 1 with fail
  generalize w.alloc _ = V1 at H1 ⊢
  have UZ := K5.new 29 V1 ⟨0, 0, 0, 0, false⟩
  rw [H1.out.2.1] at UZ
  have LB := below_allocs V1 (.cells #[.int .u64 0, .int .u64 0, .int .u32 0, .int .u32 0, .bool false] 29)
  have HK := Lib.hid (And.intro (H1.out.1.below LB) UZ)
  have HW := Lib.hid (below_then H1.out.2.2 LB)
  clear UZ LB H1
  generalize V1.alloc _ = V4 at HK HW ⊢
  have hc : w.heap.size ≤ w.heap.size + 1 := Nat.le_succ _
  have n1 : w.heap.size ≠ w.heap.size + 1 := by omega
  generalize w.heap.size + 1 = cz at HK hc n1 ⊢
  have n3 := n1.symm
  obtain ⟨cs, hcs⟩ : ∃ cs, cs = w.heap.size := ⟨_, rfl⟩
  rw [← hcs] at HK n1 n3 ⊢
  have hs := Lib.hid (Nat.le_of_eq hcs.symm)
  clear hcs
  have HK2 := Lib.hid (And.intro HK.out.1 (And.intro HK.out.2 HW.out))
  clear HK HW
  have hmk := HMK.out
  go_wp2_with fail
  clear hmk HMK h0 h1
  have LB := below_allocs V4 (.cells (madeCells #[.int .u64 0] n) 22)
  have F0 : Hid (FillH w V4.heap.size n cs cz (List.replicate n 0) [] y (V4.alloc (.cells (madeCells #[.int .u64 0] n) 22))) := Lib.hid ⟨row_newH V4 w.heap.size n HK2.out.2.2.size (by omega), List.length_replicate, rfl, HK2.out.1.below LB, HK2.out.2.1.below LB, below_then HK2.out.2.2 LB, Nat.ne_of_lt HK2.out.1.lt, Nat.ne_of_lt HK2.out.2.1.lt, n3, hs.out⟩
  have hcz := Lib.hid hc
  clear LB HK2 n1 n3 hc hs
  generalize List.replicate n 0 = p0 at F0
  generalize V4.alloc _ = W1 at F0 ⊢
  generalize V4.heap.size = g at F0 ⊢
  go_loopg [19] n (fun gh z wr => ∃ (k : Nat) (ps : List Nat) (p : Hw), k + gh = n ∧ z = .int .i64 (k : Int) ∧ Hid (st k p) ∧ Hid (FillH w g n cs cz ps (row k) p wr))
  case atStart => exact ⟨0, p0, y, by omega, rfl, Lib.hid st0.out, by rw [row0.out]; exact F0⟩
  case round =>
    obtain ⟨k, ps, p, hk, rfl, hs, F⟩ := hrel
    clear F0
    by_cases hlt : k < n
    · have kl : (k : Int) < (n : Int) := by omega
      have k0 : (0 : Int) ≤ (k : Int) := by omega
      have hl := rlen.out k
      obtain ⟨X, hX, HWd, p', hs', CS', er⟩ := NX.out k p hs.out
      have HWd := Lib.hid HWd
      have CS' := Lib.hid CS'
      have HS' := Lib.hid hs'
      have ER := Lib.hid er
      clear hs' er hs
      generalize row k = us at F hl ER
      have BX := F.out.bx
      obtain ⟨x0, x1, x2, x3, x4⟩ := BX.cells
      clear BX
      go_wp2_with fail
      refine (HWd.out _).mono ?_
      rintro e w2 ⟨rfl, hb⟩
      have F2 := Lib.hid (F.out.far hb)
      clear hb F x0 x1 x2 x3 x4
      obtain ⟨c1, c2⟩ := F2.out.cell (by omega)
      have F3 := Lib.hid (F2.out.set X hX (by omega))
      rw [hl] at c1 c2 F3
      generalize ps.getD k 0 = old at c1
      generalize ps.set k X = ps' at F3
      clear F2
      go_upto_region 8 with fail
      clear c1 c2
      generalize World.setCell w2 _ _ = w3 at F3 ⊢
      have BX := F3.out.bx
      obtain ⟨x0, x1, x2, x3, x4⟩ := BX.cells
      clear BX
      go_wp2_with fail
      refine (CS'.out _).mono ?_
      rintro e w4 ⟨rfl, hb⟩
      have F4 := Lib.hid (F3.out.far hb)
      clear hb F3 x0 x1 x2 x3 x4
      have BX := F4.out.bx
      obtain ⟨x0, x1, x2, x3, x4⟩ := BX.cells
      obtain ⟨f0, f1, f2, f3, f4⟩ := BX.free
      clear BX
      go_wp2_with fail
      go_roundg (gk - 1)
      case measure => omega
      case rel => exact ⟨k + 1, ps', p', by omega, by go_num, HS', by rw [ER.out]; exact Lib.hid (F4.out.put p')⟩
    · obtain rfl : k = n := by omega
      have kl : ¬ (k : Int) < (k : Int) := by omega
      have L := rlen.out k
      have HS := Lib.hid hs.out
      have FD := Lib.hid (F.out.far (Below.refl _ _).drew)
      obtain ⟨x0, x1, x2, x3, x4⟩ := F.out.bx.cells
      obtain ⟨y0, y1, y2, y3, y4⟩ := F.out.z.cells
      obtain ⟨f0, f1, f2, f3, f4⟩ := F.out.z.free
      clear F NX hs st0 row0
      go_wp2_with fail
      go_cut [4, 6] (fun v x W => v = .slice (some ⟨g, 0, none⟩) k k ∧ x = .int .i64 0 ∧ K5 29 W cz p ∧ Pol W (some ⟨g, 0, none⟩) k (row k) ∧ Below w.heap.size w W)
      case first =>
        go_region
        all_goals
          go_wp2_with fail
          go_meet
          exact ⟨rfl, rfl, K5.put FD.out.z p, (FD.out.full L).grown (grown_put5 _ cz p) (fun ad e => by cases e; exact FD.out.zg.symm), below_put5 FD.out.below hcz.out p⟩
      obtain ⟨rfl, rfl, HR, HP, HB⟩ := hcut
      obtain ⟨r0, r1, r2, r3, r4⟩ := HR.cells
      go_wp2_with fail
      try simp only [Exit.inBlock, Exit.then, Exit.noGoto]
      refine bodyPost_ret (by simp [results, Try.results9, go_sem, r0, r1, r2, r3, r4]; try rfl) rfl ?_
      exact ⟨_, k, p, by rw [L], HS.out, HP, HB⟩
theorem xWordsHN (x : Hs) (many : Int) (W : World) (h : many < 0 ∨ 256 < many) : Calls Try.prog 9 #[x.val, .int .i64 many] W (NoH 1 W) := pwordsHN x.w many h W
theorem xWordsHY (x : Hs) (n : Nat) (W : World) (h : x.Ok) (hn : n ≤ 256) : Calls Try.prog 9 #[x.val, .int .i64 (n : Int)] W (AnsRH (rowH x n) (iterH x n).w W) := by
  refine (pwordsHY x.w n hn (fun j p => p = (iterH x j).w) (rowH x) (Lib.hid rfl) (Lib.hid rfl) (Lib.hid (rowH_len x)) (Lib.hid fun j p e => ?_) W).mono ?_
  · subst e
    exact ⟨wordH (iterH x j), wordH_lt (iterH_ok h j), xWordH _ (iterH_ok h j), _, rfl, xStepH _ (iterH_ok h j), rfl⟩
  · rintro e w' ⟨A, cap, z, rfl, rfl, P, hb⟩
    exact ⟨A, cap, rfl, P, hb⟩
end Go.Proofs.Ytdmoedjjbhkdmaa
