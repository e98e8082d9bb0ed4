/-
  What pcg's Word and Words answer, in a likely form.
-/
import Derived.Test.YthnmekieanndgaaPcgXa
import Derived.Test.YthnmekieanndgaaGfpJa
import Derived.BigQuiet
namespace Go.Proofs.Ythnmekieanndgaa
open Go.RowKit G
set_option linter.unusedVariables false
set_option maxRecDepth 100000

set_option maxHeartbeats 4000000 in
theorem xWordN (h l : Nat) (c d : Int) (hh : h < 18446744073709551616) (hl : l < 18446744073709551616) (w : World) :
    Calls Try.prog 9 #[.agg #[.int .u64 (h : Int), .int .u64 (l : Int), .int .u64 c, .int .u64 d]] w (fun e w' => e = .returned (.int .u64 ((wordN h l : Nat) : Int)) ∧ Below w.heap.size w w') := by
  have e1 := shl 32 h hh
  rw [show (2 : Int) ^ 32 = 4294967296 from rfl] at e1
  have x1 : h ^^^ h / 2 ^ 32 < 18446744073709551616 := Nat.xor_lt_two_pow (n := 64) hh (Nat.lt_of_le_of_lt (Nat.div_le_self _ _) hh)
  obtain ⟨g, hg⟩ : ∃ g, (h ^^^ h / 2 ^ 32) * fac % 18446744073709551616 = g := ⟨_, rfl⟩
  have g1 : g < 18446744073709551616 := by rw [← hg]; exact Nat.mod_lt _ (by decide)
  have e2 := shl 48 g g1
  rw [show (2 : Int) ^ 48 = 281474976710656 from rfl] at e2
  have e3 : IntKind.u64.wrap (((h ^^^ h / 2 ^ 32 : Nat) : Int) * 15750249268501108917) = (g : Int) := by rw [IntKind.wrap_u64, ← hg, Int.natCast_emod, Int.natCast_mul]; rfl
  obtain ⟨k, hk⟩ : ∃ k, g ^^^ g / 2 ^ 48 = k := ⟨_, rfl⟩
  rw [hk] at e2
  have hw : wordN h l = k * (l ||| 1) % 18446744073709551616 := by
    show ((h ^^^ h / 2 ^ 32) * fac % 18446744073709551616 ^^^ (h ^^^ h / 2 ^ 32) * fac % 18446744073709551616 / 2 ^ 48) * (l ||| 1) % 18446744073709551616 = _
    rw [hg, hk]
  have HW : IntKind.u64.wrap ((k : Int) * ((l ||| 1 : Nat) : Int)) = ((wordN h l : Nat) : Int) := by rw [hw, IntKind.wrap_u64, Int.natCast_emod, Int.natCast_mul]; rfl
  clear hw hk hg
  generalize h ^^^ h / 2 ^ 32 = x at e1 e3 x1
  have e0 : bits .or .u64 (l : Int) 1 = ((l ||| 1 : Nat) : Int) := u64_or_nat l 1 hl (by decide)
  generalize l ||| 1 = o at HW e0
  generalize wordN h l = W0 at HW ⊢
  have U := K4.new 26 w h l c d
  have LB := below_allocs w (.cells #[.int .u64 (h : Int), .int .u64 (l : Int), .int .u64 c, .int .u64 d] 26)
  go_enter Try.func9, Try.ntmps9
  go_wp2_with fail
  have HK := Lib.hid (And.intro U LB)
  clear U LB
  generalize w.alloc _ = V1 at HK ⊢
  obtain ⟨x1, x2, x3, x4⟩ := HK.out.1.cells
  go_region
  all_goals
    go_wp2
    go_ret
    first
      | exact ⟨rfl, HK.out.2⟩
      | exact ⟨rfl, HK.out.2.drew⟩
theorem xWordP (s : Ps) (W : World) (hs : s.Ok) : Calls Try.prog 9 #[s.val] W (fun e w' => e = .returned (.int .u64 ((wordP s : Nat) : Int)) ∧ Below W.heap.size W w') := by
  rw [← word_is]
  exact xWordN _ _ _ _ (hiW_lt hs.a) (loW_lt _) W
theorem heapNew (w : World) (o : Obj) : (w.alloc o).heap[w.heap.size]? = some o := by
  show (w.heap.push o)[w.heap.size]? = some o
  simp
theorem row_new (w : World) (base M : Nat) (hb : base ≤ w.heap.size) (hM : M ≤ 9223372036854775807) : Row base w.heap.size M (List.replicate M 0) (w.alloc (.cells (madeCells #[.int .u64 0] M) 22)) := by
  have F := Fill.start w M
  refine ⟨⟨by simp [words], .inr ⟨w.heap.size, M, madeCells #[.int .u64 0] M, by rw [List.length_replicate], hb, heapNew w _, by simp, hM, ?_, ?_⟩⟩, F.wds⟩
  · rw [size_madeCells, Nat.mul_one]
  · rw [toList_madeCells_one, List.length_replicate, Nat.mul_one, words, List.map_replicate, List.take_replicate, Nat.min_self]
    rfl
/-- What a loop keeps that fills a new list while a state beside it is written. -/
structure FillP (w : World) (g n cs cz : Nat) (ps us : List Nat) (p q r s : Int) (wr : World) : Prop where
  row : Row w.heap.size g n ps wr
  len : ps.length = n
  ok : ps.take us.length = us
  bx : K4 26 wr cs p q r s
  z : K4 26 wr cz 0 0 0 0
  below : Below w.heap.size w wr
  cg : cs ≠ g
  zg : cz ≠ g
  zc : cz ≠ cs
  le : w.heap.size ≤ cs
section
variable {w wr w' : World} {g n cs cz : Nat} {ps us : List Nat} {p q r s p' q' r' s' : Int}
theorem FillP.far (h : FillP w g n cs cz ps us p q r s wr) (hb : Below wr.heap.size wr w') : FillP w g n cs cz ps us p q r s w' := ⟨h.row.below hb, h.len, h.ok, h.bx.below hb, h.z.below hb, below_then h.below hb, h.cg, h.zg, h.zc, h.le⟩
theorem FillP.set (h : FillP w g n cs cz ps us p q r s wr) (x : Nat) (hx : x < 18446744073709551616) (hl : us.length < n) : FillP w g n cs cz (ps.set us.length x) (us ++ [x]) p q r s (wr.setCell ⟨g, us.length, none⟩ (.int .u64 (x : Int))) := by
  refine ⟨h.row.set _ _ hx, by rw [List.length_set]; exact h.len, ?_, h.bx.far h.cg _, h.z.far h.zg _, h.below.setCell h.row.lt.1 _, h.cg, h.zg, h.zc, h.le⟩
  rw [List.length_append, List.length_singleton, take_next _ _ x (by rw [List.length_set, h.len]; exact hl) (by simp [h.len, hl])]
  rw [List.take_set_of_le (Nat.le_refl _), h.ok]
theorem FillP.cell (h : FillP w g n cs cz ps us p q r s wr) (hl : us.length < n) : wr.cell? ⟨g, us.length, none⟩ = some (.int .u64 ((ps.getD us.length 0 : Nat) : Int)) ∧ wr.frozen? ⟨g, us.length, none⟩ = false :=
  h.row.cell _ (by rw [h.len]; exact hl)
theorem FillP.put (h : FillP w g n cs cz ps us p q r s wr) (p' q' r' s' : Int) : FillP w g n cs cz ps us p' q' r' s' ((((wr.setCell ⟨cs, 0, none⟩ (.int .u64 p')).setCell ⟨cs, 1, none⟩ (.int .u64 q')).setCell ⟨cs, 2, none⟩ (.int .u64 r')).setCell ⟨cs, 3, none⟩ (.int .u64 s')) :=
  ⟨h.row.kept (grown_put4 wr cs _ _ _ _) h.cg.symm, h.len, h.ok, K4.put h.bx, h.z.far4 h.zc, below_putK4 h.below h.le, h.cg, h.zg, h.zc, h.le⟩
theorem FillP.full (h : FillP w g n cs cz ps us p q r s wr) (hl : us.length = n) : Pol wr (some ⟨g, 0, none⟩) n us := by
  have e : ps = us := by rw [← h.ok, hl, ← h.len, List.take_length]
  rw [← e]; exact h.row.pol
end
set_option maxHeartbeats 8000000 in
theorem pwordsN (s0 s1 i0 i1 many : Int) (R : Hid (TB 14 #[.agg #[.int .u64 s0, .int .u64 s1, .int .u64 i0, .int .u64 i1]] false)) (w : World) : Calls Try.prog 15 #[.agg #[.int .u64 s0, .int .u64 s1, .int .u64 i0, .int .u64 i1], .int .i64 many] w (NoP 3 w) := by
  have U := K4.new 26 w s0 s1 i0 i1
  have z1 : (w.alloc (.cells #[.int .u64 s0, .int .u64 s1, .int .u64 i0, .int .u64 i1] 26)).heap.size = w.heap.size + 1 := Array.size_push _
  have L := below_allocs w (.cells #[.int .u64 s0, .int .u64 s1, .int .u64 i0, .int .u64 i1] 26)
  have H1 := Lib.hid (And.intro U (And.intro z1 L))
  clear U z1 L
  go_enter Try.func15, Try.ntmps15
  go_upto_region 1 with fail
  generalize w.alloc _ = V1 at H1 ⊢
  have UZ := K4.new 26 V1 0 0 0 0
  rw [H1.out.2.1] at UZ
  have LB := below_allocs V1 (.cells #[.int .u64 0, .int .u64 0, .int .u64 0, .int .u64 0] 26)
  have HK := Lib.hid (And.intro (H1.out.1.below LB) UZ)
  have HW := Lib.hid (below_then H1.out.2.2 LB)
  clear UZ LB H1
  generalize V1.alloc _ = V4 at HK HW ⊢
  have hc : w.heap.size ≤ w.heap.size + 1 := Nat.le_succ _
  have n1 : w.heap.size ≠ w.heap.size + 1 := by omega
  generalize w.heap.size + 1 = cz at HK hc n1 ⊢
  have n3 := n1.symm
  obtain ⟨cs, hcs⟩ : ∃ cs, cs = w.heap.size := ⟨_, rfl⟩
  rw [← hcs] at HK n1 n3 ⊢
  clear hcs
  obtain ⟨x1, x2, x3, x4⟩ := HK.out.1.cells
  go_wp2_with fail
  clear x1 x2 x3 x4
  refine (R.out _).mono ?_
  rintro e V5 ⟨rfl, hb⟩
  have Z := HK.out.2.below hb
  have HR := Lib.hid (K4.put (p' := 0) (q' := 0) (r' := 0) (s' := 0) Z)
  have HB : Hid (Below w.heap.size w ((((V5.setCell ⟨cz, 0, none⟩ (.int .u64 0)).setCell ⟨cz, 1, none⟩ (.int .u64 0)).setCell ⟨cz, 2, none⟩ (.int .u64 0)).setCell ⟨cz, 3, none⟩ (.int .u64 0))) := Lib.hid (below_putK4 (below_then HW.out hb) hc)
  obtain ⟨y1, y2, y3, y4⟩ := Z.cells
  obtain ⟨f1, f2, f3, f4⟩ := Z.free
  clear HK HW hb R Z
  go_wp2_with fail
  generalize World.setCell (World.setCell (World.setCell (World.setCell V5 _ _) _ _) _ _) _ _ = V9 at HR HB ⊢
  replace HR := HR.out
  replace HB := HB.out
  obtain ⟨r1, r2, r3, r4⟩ := HR.cells
  go_wp2_with fail
  try simp only [Exit.inBlock, Exit.then, Exit.noGoto]
  refine bodyPost_ret (by simp [results, Try.results15, go_sem, r1, r2, r3, r4]; try rfl) rfl ?_
  exact ⟨rfl, HB⟩
set_option maxHeartbeats 8000000 in
theorem pwordsA (s0 s1 i0 i1 many : Int) (hm : many < 0 ∨ 256 < many) (R : Hid (TB 14 #[.agg #[.int .u64 s0, .int .u64 s1, .int .u64 i0, .int .u64 i1]] true)) (w : World) : Calls Try.prog 15 #[.agg #[.int .u64 s0, .int .u64 s1, .int .u64 i0, .int .u64 i1], .int .i64 many] w (NoP 1 w) := by
  have U := K4.new 26 w s0 s1 i0 i1
  have z1 : (w.alloc (.cells #[.int .u64 s0, .int .u64 s1, .int .u64 i0, .int .u64 i1] 26)).heap.size = w.heap.size + 1 := Array.size_push _
  have L := below_allocs w (.cells #[.int .u64 s0, .int .u64 s1, .int .u64 i0, .int .u64 i1] 26)
  have H1 := Lib.hid (And.intro U (And.intro z1 L))
  clear U z1 L
  go_enter Try.func15, Try.ntmps15
  go_upto_region 1 with fail
  generalize w.alloc _ = V1 at H1 ⊢
  have UZ := K4.new 26 V1 0 0 0 0
  rw [H1.out.2.1] at UZ
  have LB := below_allocs V1 (.cells #[.int .u64 0, .int .u64 0, .int .u64 0, .int .u64 0] 26)
  have HK := Lib.hid (And.intro (H1.out.1.below LB) UZ)
  have HW := Lib.hid (below_then H1.out.2.2 LB)
  clear UZ LB H1
  generalize V1.alloc _ = V4 at HK HW ⊢
  have hc : w.heap.size ≤ w.heap.size + 1 := Nat.le_succ _
  have n1 : w.heap.size ≠ w.heap.size + 1 := by omega
  generalize w.heap.size + 1 = cz at HK hc n1 ⊢
  have n3 := n1.symm
  obtain ⟨cs, hcs⟩ : ∃ cs, cs = w.heap.size := ⟨_, rfl⟩
  rw [← hcs] at HK n1 n3 ⊢
  clear hcs
  obtain ⟨x1, x2, x3, x4⟩ := HK.out.1.cells
  go_wp2_with fail
  clear x1 x2 x3 x4
  refine (R.out _).mono ?_
  rintro e V5 ⟨rfl, hb⟩
  by_cases h0 : many < 0
  · clear hm
    have Z := HK.out.2.below hb
    have HR := Lib.hid (K4.put (p' := 0) (q' := 0) (r' := 0) (s' := 0) Z)
    have HB : Hid (Below w.heap.size w ((((V5.setCell ⟨cz, 0, none⟩ (.int .u64 0)).setCell ⟨cz, 1, none⟩ (.int .u64 0)).setCell ⟨cz, 2, none⟩ (.int .u64 0)).setCell ⟨cz, 3, none⟩ (.int .u64 0))) := Lib.hid (below_putK4 (below_then HW.out hb) hc)
    obtain ⟨y1, y2, y3, y4⟩ := Z.cells
    obtain ⟨f1, f2, f3, f4⟩ := Z.free
    clear HK HW hb R Z
    go_wp2_with fail
    generalize World.setCell (World.setCell (World.setCell (World.setCell V5 _ _) _ _) _ _) _ _ = V9 at HR HB ⊢
    replace HR := HR.out
    replace HB := HB.out
    obtain ⟨r1, r2, r3, r4⟩ := HR.cells
    go_wp2_with fail
    try simp only [Exit.inBlock, Exit.then, Exit.noGoto]
    refine bodyPost_ret (by simp [results, Try.results15, go_sem, r1, r2, r3, r4]; try rfl) rfl ?_
    exact ⟨rfl, HB⟩
  · have h1 : many > 256 := by omega
    clear hm
    have Z := HK.out.2.below hb
    have HR := Lib.hid (K4.put (p' := 0) (q' := 0) (r' := 0) (s' := 0) Z)
    have HB : Hid (Below w.heap.size w ((((V5.setCell ⟨cz, 0, none⟩ (.int .u64 0)).setCell ⟨cz, 1, none⟩ (.int .u64 0)).setCell ⟨cz, 2, none⟩ (.int .u64 0)).setCell ⟨cz, 3, none⟩ (.int .u64 0))) := Lib.hid (below_putK4 (below_then HW.out hb) hc)
    obtain ⟨y1, y2, y3, y4⟩ := Z.cells
    obtain ⟨f1, f2, f3, f4⟩ := Z.free
    clear HK HW hb R Z
    go_wp2_with fail
    generalize World.setCell (World.setCell (World.setCell (World.setCell V5 _ _) _ _) _ _) _ _ = V9 at HR HB ⊢
    replace HR := HR.out
    replace HB := HB.out
    obtain ⟨r1, r2, r3, r4⟩ := HR.cells
    go_wp2_with fail
    try simp only [Exit.inBlock, Exit.then, Exit.noGoto]
    refine bodyPost_ret (by simp [results, Try.results15, go_sem, r1, r2, r3, r4]; try rfl) rfl ?_
    exact ⟨rfl, HB⟩
set_option maxHeartbeats 8000000 in
theorem pwordsY (s0 s1 i0 i1 : Int) (n : Nat) (hn : n ≤ 256) (st : Nat → Int → Int → Prop) (row : Nat → List Nat) (R : Hid (TB 14 #[.agg #[.int .u64 s0, .int .u64 s1, .int .u64 i0, .int .u64 i1]] true))
    (st0 : Hid (st 0 s0 s1)) (row0 : Hid (row 0 = [])) (rlen : Hid (∀ j, (row j).length = j))
    (NX : Hid (∀ (j : Nat) (p q : Int), st j p q → ∃ X : Nat, X < 18446744073709551616 ∧ TU 9 #[.agg #[.int .u64 p, .int .u64 q, .int .u64 i0, .int .u64 i1]] (X : Int) ∧ ∃ p' q' : Int, st (j + 1) p' q' ∧ TM 12 #[.agg #[.int .u64 p, .int .u64 q, .int .u64 i0, .int .u64 i1]] p' q' i0 i1 ∧ row (j + 1) = row j ++ [X])) (w : World) :
    Calls Try.prog 15 #[.agg #[.int .u64 s0, .int .u64 s1, .int .u64 i0, .int .u64 i1], .int .i64 (n : Int)] w (fun e w' => ∃ (A : Option Addr) (cap : Nat) (y0 y1 : Int), e = .returned (.tuple #[.slice A (row n).length cap, .agg #[.int .u64 y0, .int .u64 y1, .int .u64 i0, .int .u64 i1], .int .i64 0]) ∧ st n y0 y1 ∧ Pol w' A cap (row n) ∧ Below w.heap.size w w') := by
  have hmk := run_make_row' (P := Try.prog) 38 22 (.int .u64 0) 8 Try.underlying38 infoW rfl .i64 .i64 n (by omega) (by omega)
  have HMK := Lib.hid hmk
  clear hmk
  have h0 : ¬ (n : Int) < 0 := by omega
  have h1 : ¬ (n : Int) > 256 := by omega
  have U := K4.new 26 w s0 s1 i0 i1
  have z1 : (w.alloc (.cells #[.int .u64 s0, .int .u64 s1, .int .u64 i0, .int .u64 i1] 26)).heap.size = w.heap.size + 1 := Array.size_push _
  have L := below_allocs w (.cells #[.int .u64 s0, .int .u64 s1, .int .u64 i0, .int .u64 i1] 26)
  have H1 := Lib.hid (And.intro U (And.intro z1 L))
  clear U z1 L
  go_enter Try.func15, Try.ntmps15
  go_upto_region 1 with fail
  generalize w.alloc _ = V1 at H1 ⊢
  have UZ := K4.new 26 V1 0 0 0 0
  rw [H1.out.2.1] at UZ
  have LB := below_allocs V1 (.cells #[.int .u64 0, .int .u64 0, .int .u64 0, .int .u64 0] 26)
  have HK := Lib.hid (And.intro (H1.out.1.below LB) UZ)
  have HW := Lib.hid (below_then H1.out.2.2 LB)
  clear UZ LB H1
  generalize V1.alloc _ = V4 at HK HW ⊢
  have hc : w.heap.size ≤ w.heap.size + 1 := Nat.le_succ _
  have n1 : w.heap.size ≠ w.heap.size + 1 := by omega
  generalize w.heap.size + 1 = cz at HK hc n1 ⊢
  have n3 := n1.symm
  obtain ⟨cs, hcs⟩ : ∃ cs, cs = w.heap.size := ⟨_, rfl⟩
  rw [← hcs] at HK n1 n3 ⊢
  have hs := Lib.hid (Nat.le_of_eq hcs.symm)
  clear hcs
  obtain ⟨x1, x2, x3, x4⟩ := HK.out.1.cells
  go_wp2_with fail
  clear x1 x2 x3 x4
  refine (R.out _).mono ?_
  rintro e V5 ⟨rfl, hb⟩
  have HK2 := Lib.hid (And.intro (HK.out.1.below hb) (And.intro (HK.out.2.below hb) (below_then HW.out hb)))
  clear HK HW hb R
  have hmk := HMK.out
  go_wp2_with fail
  clear hmk HMK h0 h1
  have LB := below_allocs V5 (.cells (madeCells #[.int .u64 0] n) 22)
  have F0 : Hid (FillP w V5.heap.size n cs cz (List.replicate n 0) [] s0 s1 i0 i1 (V5.alloc (.cells (madeCells #[.int .u64 0] n) 22))) := Lib.hid ⟨row_new V5 w.heap.size n HK2.out.2.2.size (by omega), List.length_replicate, rfl, HK2.out.1.below LB, HK2.out.2.1.below LB, below_then HK2.out.2.2 LB, Nat.ne_of_lt HK2.out.1.lt, Nat.ne_of_lt HK2.out.2.1.lt, n3, hs.out⟩
  have hcz := Lib.hid hc
  clear LB HK2 n1 n3 hc hs
  generalize List.replicate n 0 = p0 at F0
  generalize V5.alloc _ = W1 at F0 ⊢
  generalize V5.heap.size = g at F0 ⊢
  go_loopg [23] n (fun gh z wr => ∃ (k : Nat) (ps : List Nat) (p q : Int), k + gh = n ∧ z = .int .i64 (k : Int) ∧ Hid (st k p q) ∧ Hid (FillP w g n cs cz ps (row k) p q i0 i1 wr))
  case atStart => exact ⟨0, p0, s0, s1, by omega, rfl, Lib.hid st0.out, by rw [row0.out]; exact F0⟩
  case round =>
    obtain ⟨k, ps, p, q, hk, rfl, hs, F⟩ := hrel
    clear F0
    by_cases hlt : k < n
    · have kl : (k : Int) < (n : Int) := by omega
      have k0 : (0 : Int) ≤ (k : Int) := by omega
      have hl := rlen.out k
      obtain ⟨X, hX, HWd, p', q', hs', CS', er⟩ := NX.out k p q hs.out
      have HWd := Lib.hid HWd
      have CS' := Lib.hid CS'
      have HS' := Lib.hid hs'
      have ER := Lib.hid er
      clear hs' er hs
      generalize row k = us at F hl ER
      have BX := F.out.bx
      obtain ⟨x0, x1, x2, x3⟩ := BX.cells
      clear BX
      go_wp2_with fail
      refine (HWd.out _).mono ?_
      rintro e w2 ⟨rfl, hb⟩
      have F2 := Lib.hid (F.out.far hb)
      clear hb F x0 x1 x2 x3
      obtain ⟨c1, c2⟩ := F2.out.cell (by omega)
      have F3 := Lib.hid (F2.out.set X hX (by omega))
      rw [hl] at c1 c2 F3
      generalize ps.getD k 0 = old at c1
      generalize ps.set k X = ps' at F3
      clear F2
      go_upto_region 11 with fail
      clear c1 c2
      generalize World.setCell w2 _ _ = w3 at F3 ⊢
      have BX := F3.out.bx
      obtain ⟨x0, x1, x2, x3⟩ := BX.cells
      clear BX
      go_wp2_with fail
      refine (CS'.out _).mono ?_
      rintro e w4 ⟨rfl, hb⟩
      have F4 := Lib.hid (F3.out.far hb)
      clear hb F3 x0 x1 x2 x3
      have BX := F4.out.bx
      obtain ⟨x0, x1, x2, x3⟩ := BX.cells
      obtain ⟨f0, f1, f2, f3⟩ := BX.free
      clear BX
      go_wp2_with fail
      go_roundg (gk - 1)
      case measure => omega
      case rel => exact ⟨k + 1, ps', p', q', by omega, by go_num, HS', by rw [ER.out]; exact Lib.hid (F4.out.put p' q' i0 i1)⟩
    · obtain rfl : k = n := by omega
      have kl : ¬ (k : Int) < (k : Int) := by omega
      have L := rlen.out k
      have HS := Lib.hid hs.out
      have FD := Lib.hid (F.out.far (Below.refl _ _).drew)
      obtain ⟨x1, x2, x3, x4⟩ := F.out.bx.cells
      obtain ⟨y1, y2, y3, y4⟩ := F.out.z.cells
      obtain ⟨f1, f2, f3, f4⟩ := F.out.z.free
      clear F NX hs st0 row0
      go_wp2_with fail
      go_cut [4, 6] (fun v x W => v = .slice (some ⟨g, 0, none⟩) k k ∧ x = .int .i64 0 ∧ K4 26 W cz p q i0 i1 ∧ Pol W (some ⟨g, 0, none⟩) k (row k) ∧ Below w.heap.size w W)
      case first =>
        go_region
        all_goals
          go_wp2_with fail
          go_meet
          exact ⟨rfl, rfl, K4.put FD.out.z, (FD.out.full L).grown (grown_put4 _ cz _ _ _ _) (fun ad e => by cases e; exact FD.out.zg.symm), below_putK4 FD.out.below hcz.out⟩
      obtain ⟨rfl, rfl, HR, HP, HB⟩ := hcut
      obtain ⟨r1, r2, r3, r4⟩ := HR.cells
      go_wp2_with fail
      try simp only [Exit.inBlock, Exit.then, Exit.noGoto]
      refine bodyPost_ret (by simp [results, Try.results15, go_sem, r1, r2, r3, r4]; try rfl) rfl ?_
      exact ⟨_, k, p, q, by rw [L], HS.out, HP, HB⟩
theorem xWordsN (s : Ps) (many : Int) (W : World) (hs : s.Ok) (o : s.I % 2 = 0) : Calls Try.prog 15 #[s.val, .int .i64 many] W (NoP 3 W) :=
  pwordsN _ _ _ _ many (Lib.hid fun V => by
    have := xRightP s V hs
    rwa [decide_eq_false (by omega)] at this) W
theorem xWordsA (s : Ps) (many : Int) (W : World) (hs : s.Ok) (o : s.I % 2 = 1) (h : many < 0 ∨ 256 < many) : Calls Try.prog 15 #[s.val, .int .i64 many] W (NoP 1 W) :=
  pwordsA _ _ _ _ many h (Lib.hid fun V => by
    have := xRightP s V hs
    rwa [decide_eq_true o] at this) W
theorem xStepQ (s : Ps) (h : s.Ok) (j : Nat) (p q : Int) (k : Sw (iterP s j) p q) : TM 12 #[.agg #[.int .u64 p, .int .u64 q, .int .u64 ((hiW s.I : Nat) : Int), .int .u64 ((loW s.I : Nat) : Int)]] ((hiW (iterP s (j + 1)).S : Nat) : Int) ((loW (iterP s (j + 1)).S : Nat) : Int) ((hiW s.I : Nat) : Int) ((loW s.I : Nat) : Int) := fun W => by
  obtain ⟨rfl, rfl⟩ := k
  have := xStepP (iterP s j) W (iterP_ok h j)
  have e : stepP (iterP s j) = iterP s (j + 1) := rfl
  rw [e] at this
  unfold AnsP Ps.val at this
  rw [iterP_I, iterP_I] at this
  exact this
theorem xWordQ (s : Ps) (h : s.Ok) (j : Nat) (p q : Int) (k : Sw (iterP s j) p q) (c d : Int) : TU 9 #[.agg #[.int .u64 p, .int .u64 q, .int .u64 c, .int .u64 d]] ((wordP (iterP s j) : Nat) : Int) := fun W => by
  obtain ⟨rfl, rfl⟩ := k
  rw [← word_is]
  exact xWordN _ _ c d (hiW_lt (iterP_ok h j).a) (loW_lt _) W
theorem xWordsY (s : Ps) (n : Nat) (W : World) (hs : s.Ok) (o : s.I % 2 = 1) (hn : n ≤ 256) : Calls Try.prog 15 #[s.val, .int .i64 (n : Int)] W (AnsRP (rowP s n) (iterP s n) W) := by
  refine (pwordsY _ _ _ _ n hn (fun j p q => Sw (iterP s j) p q) (rowP s) (Lib.hid fun V => by
    have := xRightP s V hs
    rwa [decide_eq_true o] at this) (Lib.hid (Sw.of s)) (Lib.hid rfl) (Lib.hid (rowP_len s)) (Lib.hid fun j p q k => ⟨wordP (iterP s j), wordP_lt _, xWordQ s hs j p q k _ _, _, _, Sw.of (iterP s (j + 1)), xStepQ s hs j p q k, row_next s j⟩) W).mono ?_
  rintro e w' ⟨A, cap, y0, y1, rfl, ⟨rfl, rfl⟩, P, hb⟩
  refine ⟨A, cap, ?_, P, hb⟩
  unfold Ps.val
  rw [iterP_I]
end Go.Proofs.Ythnmekieanndgaa
