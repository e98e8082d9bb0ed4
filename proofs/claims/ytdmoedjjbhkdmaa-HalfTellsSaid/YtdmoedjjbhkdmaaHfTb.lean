/-
  What the reference's Far of layer 12 answers. Made by wip/gen/hffar.py.
-/
import Derived.Test.YtdmoedjjbhkdmaaHfS
import Derived.Test.YtdmoedjjbhkdmaaHfTa
namespace Go.Proofs.Ytdmoedjjbhkdmaa
open Go.RowKit G
set_option linter.unusedVariables false
set_option maxRecDepth 100000

theorem own_one (w : World) (x : Value) : (w.alloc (.cells #[x] 3)).ownsRow w.heap.size 3 1 (.slice (some ⟨w.heap.size, 0, none⟩) 1 1) 1 [x] :=
  ⟨rfl, .inr ⟨w.heap.size, 1, #[x], rfl, Nat.le_refl _, show (w.heap.push _)[w.heap.size]? = some _ by simp, Nat.le_refl _, by decide, rfl, rfl⟩⟩
theorem ints_take {w : World} {b off : Nat} {xs : List Int} (h : Wd.Ints w b off xs) (k : Nat) : Wd.Ints w b off (xs.take k) := by
  intro i hi
  have hi2 : i < k ∧ i < xs.length := by
    rw [List.length_take] at hi
    omega
  rw [h i hi2.2]
  simp [hi2.1]
set_option maxHeartbeats 8000000 in
theorem yfarFalse (w : World) (h l k m p q zh zl : Int) (b : Bool) (xs ys rs : List Int) (r : Int) (LX : Hid (∀ W : World, Calls Try.prog 32 #[.agg #[.int .u64 h, .int .u64 l]] W (Wd.RowAt xs W))) (LY : Hid (∀ W : World, Calls Try.prog 32 #[.agg #[.int .u64 p, .int .u64 q]] W (Wd.RowAt ys W)))
    (lx : Hid (xs.length = 128)) (ly : Hid (ys.length = 128)) (SM : Hid (∀ (ga ca gb cb : Nat) (W : World), ga < W.heap.size → gb < W.heap.size → Wd.Ints W ga 0 (0 :: xs) → Wd.Ints W gb 0 (ys ++ [0]) → Calls Try.prog 33 #[.slice (some ⟨ga, 0, none⟩) 129 ca, .slice (some ⟨gb, 0, none⟩) 129 cb] W (Wd.RowAt rs W)))
    (lr : Hid (rs.length = 130)) (r0 : Hid (rs.getD 0 0 = r)) (rb : decide (r = 1) = b) (OF : Hid (∀ (g c : Nat) (W : World), g < W.heap.size → Wd.Ints W g 1 ((rs.drop 1).take 128) → Calls Try.prog 34 #[.slice (some ⟨g, 1, none⟩) 128 c] W (fun e w' => e = .returned (.agg #[.int .u64 zh, .int .u64 zl]) ∧ Below W.heap.size W w'))) :
    Calls Try.prog 17 #[.agg #[.int .u64 h, .int .u64 l, .int .u32 k, .int .u32 m, .bool false], .agg #[.int .u64 p, .int .u64 q]] w (fun e w' => e = .returned (.agg #[.int .u64 zh, .int .u64 zl, .int .u32 k, .int .u32 m, .bool b]) ∧ Below w.heap.size w w') := by
  obtain ⟨i0, hi, hz0, hz1, hz2⟩ := info_parts Wd.infoInt
  have HI := Lib.hid hi
  have HZ0 := Lib.hid hz0
  have HZ1 := Lib.hid hz1
  have HZ2 := Lib.hid hz2
  clear hi hz0 hz1 hz2
  have U := K5.new 37 w ⟨h, l, k, m, false⟩
  have z1 : (w.alloc (.cells #[.int .u64 h, .int .u64 l, .int .u32 k, .int .u32 m, .bool false] 37)).heap.size = w.heap.size + 1 := Array.size_push _
  have L := below_allocs w (.cells #[.int .u64 h, .int .u64 l, .int .u32 k, .int .u32 m, .bool false] 37)
  have H1 := Lib.hid (And.intro U (And.intro z1 L))
  clear U z1 L
  go_enter Try.func17, Try.ntmps17
  go_upto_region 1 with fail
  generalize w.alloc _ = V1 at H1 ⊢
  have UX := CU.new V1 p q 35
  have z2 : (V1.alloc (.cells #[.int .u64 p, .int .u64 q] 35)).heap.size = w.heap.size + 1 + 1 := (Array.size_push _).trans (by rw [H1.out.2.1])
  rw [H1.out.2.1] at UX
  have LB := below_allocs V1 (.cells #[.int .u64 p, .int .u64 q] 35)
  have H2 := Lib.hid (And.intro (H1.out.1.below LB) (And.intro UX (And.intro z2 (below_then H1.out.2.2 LB))))
  clear UX z2 LB H1
  generalize V1.alloc _ = V2 at H2 ⊢
  have UZ := K5.new 37 V2 ⟨0, 0, 0, 0, false⟩
  rw [H2.out.2.2.1] at UZ
  have LB := below_allocs V2 (.cells #[.int .u64 0, .int .u64 0, .int .u32 0, .int .u32 0, .bool false] 37)
  have HK := Lib.hid (And.intro (H2.out.1.below LB) (And.intro UZ (H2.out.2.1.below LB)))
  have HW := Lib.hid (below_then H2.out.2.2.2 LB)
  clear UZ LB H2
  generalize V2.alloc _ = V4 at HK HW ⊢
  have hc : w.heap.size ≤ w.heap.size + 1 + 1 := Nat.le_trans (Nat.le_succ _) (Nat.le_succ _)
  have n1 : w.heap.size ≠ w.heap.size + 1 + 1 := by omega
  generalize w.heap.size + 1 + 1 = cz at HK hc n1 ⊢
  generalize w.heap.size + 1 = cn at HK ⊢
  have n3 := n1.symm
  obtain ⟨cs, hcs⟩ : ∃ cs, cs = w.heap.size := ⟨_, rfl⟩
  rw [← hcs] at HK n1 n3
  rw [← hcs]
  clear hcs
  obtain ⟨x0, x1, x2, x3, x4⟩ := HK.out.1.cells
  go_upto_region 4 with fail
  have OW := own_one V4 (.int .i64 0)
  have LB := below_allocs V4 (.cells #[.int .i64 0] 3)
  clear x0 x1 x2 x3 x4
  obtain ⟨x0, x1, x2, x3, x4⟩ := (HK.out.1.below LB).cells
  go_wp2_with fail
  clear x0 x1 x2 x3 x4
  generalize V4.alloc _ = V5 at OW LB ⊢
  refine (LX.out _).mono ?_
  rintro e W1 ⟨g0, c0, rfl, l1, l2, l3, own, hb⟩
  have e1 := lx.out
  rw [e1] at own l3 ⊢
  clear e1
  have OW1 := Lib.hid (Wd.owns_below OW hb)
  have OWN := Lib.hid own
  have hX := below_then LB hb
  have sx := hX.size
  clear OW LB own hb LX
  have d1 : 0 < 128 := by omega
  have d2 : 1 + 128 ≤ maxLen := by unfold maxLen; omega
  have d3 : (1 + 128) * 8 ≤ 140737488355328 := by omega
  have dl : (xs.map (Value.int .i64)).length = 128 * 1 := by rw [List.length_map, lx.out]
  go_upto_region 5 with (at_builtin; refine wpList_append_lies _ rfl _ _ 68 rfl V4.heap.size 3 i0 (.int .i64 0) 1 8 Try.underlying68 HI.out HZ0.out HZ1.out HZ2.out rfl (by decide) _ _ _ rfl OW1.out ⟨g0, 0, none⟩ 128 c0 (xs.map (Value.int .i64)) rfl dl (OWN.out.cells rfl) (Wd.one_cells xs) d1 d2 d3 sx W1.heap.size rfl ?_; intro ga ca W2 hown2 hgrow hat hlt2; have OWA := Lib.hid hown2; have GR := Lib.hid hgrow; have hla := hlt2; clear hown2 hgrow hat hlt2)
  have hY := Lib.hid (hX.grown GR.out sx (fun j hj => (OW1.out.lt j hj).1))
  have IA : Hid (Wd.Ints W2 ga 0 (0 :: xs)) := Lib.hid (by
    have q : W2.ownsRow V4.heap.size 3 1 (.slice (some ⟨ga, 0, none⟩) (1 + 128) ca) (1 + 128) (((0 : Int) :: xs).map (Value.int .i64)) := OWA.out
    exact Wd.ints_of_owns q)
  clear OW1 OWN GR OWA sx hX l1 l2 l3
  have HK2 := Lib.hid (And.intro (HK.out.1.below hY.out) (And.intro (HK.out.2.1.below hY.out) (HK.out.2.2.below hY.out)))
  have HW2 := Lib.hid (below_then HW.out hY.out)
  clear HK HW hY
  have OW := World.ownsRow_made (base := W2.heap.size) (e := 3) (size := 1) W2 #[] 0 (Nat.le_refl _) (by decide) rfl
  have LB := below_allocs W2 (.cells #[] 3)
  have hga : ga < W2.heap.size := hla
  obtain ⟨v0, v1⟩ := (HK2.out.2.2.below LB).c
  go_wp2_with fail
  clear v0 v1
  generalize W2.alloc _ = V6 at OW LB ⊢
  refine (LY.out _).mono ?_
  rintro e W3 ⟨g1, c1, rfl, m1, m2, m3, own, hb⟩
  have e1 := ly.out
  rw [e1] at own m3 ⊢
  clear e1
  have OW3 := Lib.hid (Wd.owns_below OW hb)
  have OWN := Lib.hid own
  have hX := below_then LB hb
  have sx := hX.size
  clear OW LB own hb LY
  have d4 : 0 + 128 ≤ maxLen := by unfold maxLen; omega
  have d5 : (0 + 128) * 8 ≤ 140737488355328 := by omega
  have d6 : 128 + 1 ≤ maxLen := by unfold maxLen; omega
  have d7 : (128 + 1) * 8 ≤ 140737488355328 := by omega
  have dm : (ys.map (Value.int .i64)).length = 128 * 1 := by rw [List.length_map, ly.out]
  go_wp2_with (first
    | (at_builtin; refine wpList_append_lies _ rfl _ _ 68 rfl W2.heap.size 3 i0 (.int .i64 0) 1 8 Try.underlying68 HI.out HZ0.out HZ1.out HZ2.out rfl (by decide) _ _ _ rfl OW3.out ⟨g1, 0, none⟩ 128 c1 (ys.map (Value.int .i64)) rfl dm (OWN.out.cells rfl) (Wd.one_cells ys) d1 d4 d5 sx W3.heap.size rfl ?_; intro gg cg W4 hown2 hgrow hat hlt2; have OW4 : Hid (W4.ownsRow W2.heap.size 3 1 (.slice (some ⟨gg, 0, none⟩) 128 cg) 128 (ys.map (Value.int .i64))) := Lib.hid hown2; have GR := Lib.hid hgrow; clear hown2 hgrow hat hlt2; have hY := Lib.hid (hX.grown GR.out sx (fun j hj => (OW3.out.lt j hj).1)); have sy := hY.out.size; have sy1 := Nat.le_succ_of_le sy)
    | (at_builtin; refine wpList_append_lies _ rfl _ _ 68 rfl W2.heap.size 3 i0 (.int .i64 0) 1 8 Try.underlying68 HI.out HZ0.out HZ1.out HZ2.out rfl (by decide) _ _ _ rfl (OW4.out.alloc _) ⟨W4.heap.size, 0, none⟩ 1 1 [.int .i64 0] rfl rfl (Wd.new1 W4 _ _) (by simp [Value.oneCell']) (by omega) d6 d7 (by simp; omega) (W4.heap.size + 1) (by simp) ?_; intro gb cb W5 hown2 hgrow hat hlt2; have OW5 := Lib.hid hown2; have GS := Lib.hid hgrow; have hgb := hlt2; clear hown2 hgrow hat hlt2))
  have hZ := Lib.hid ((below_alloc hY.out (.cells #[.int .i64 0] 3)).grown GS.out (Nat.le_trans sy (Nat.le_of_lt (by simp))) (fun j hj => (OW4.out.lt j hj).1))
  have IB : Hid (Wd.Ints W5 gb 0 (ys ++ [0])) := Lib.hid (by
    have q : W5.ownsRow W2.heap.size 3 1 (.slice (some ⟨gb, 0, none⟩) (128 + 1) cb) (128 + 1) ((ys ++ [0]).map (Value.int .i64)) := by
      rw [List.map_append]
      exact OW5.out
    exact Wd.ints_of_owns q)
  have IA5 := Lib.hid (IA.out.below hga hZ.out)
  have ha5 : ga < W5.heap.size := Nat.lt_of_lt_of_le hga hZ.out.size
  have HK5 := Lib.hid (And.intro (HK2.out.1.below hZ.out) (HK2.out.2.1.below hZ.out))
  have HW5 := Lib.hid (below_then HW2.out hZ.out)
  clear HK2 HW2 hZ hY GR GS OW3 OW4 OW5 OWN IA hX sx sy sy1 m1 m2 m3 hga
  refine (SM.out ga ca gb cb W5 ha5 hgb IA5.out IB.out).mono ?_
  rintro e W6 ⟨gr, cr, rfl, l1, l2, l3, own, hb⟩
  have e1 := lr.out
  rw [e1] at own l3 ⊢
  clear e1
  have IR : Hid (Wd.Ints W6 gr 0 rs) := Lib.hid (Wd.ints_of_owns own)
  have HK := Lib.hid (And.intro (HK5.out.1.below hb) (HK5.out.2.below hb))
  have HW := Lib.hid (below_then HW5.out hb)
  have gs : cs ≠ gr := Nat.ne_of_lt (Nat.lt_of_lt_of_le HK5.out.1.lt l1)
  have gz : cz ≠ gr := Nat.ne_of_lt (Nat.lt_of_lt_of_le HK5.out.2.lt l1)
  have gz' := gz.symm
  have IO : Hid (∀ W, Below W6.heap.size W6 W → gr < W.heap.size ∧ Wd.Ints W gr 1 ((rs.drop 1).take 128) ∧ W.cell? ⟨gr, 0, none⟩ = some (.int .i64 r)) := Lib.hid fun W hW => by
    have q := IR.out.below l2 hW
    refine ⟨Nat.lt_of_lt_of_le l2 hW.size, ints_take (Wd.ints_drop q 1) 128, ?_⟩
    have := q 0 (by rw [lr.out]; decide)
    rw [r0.out] at this
    exact this
  clear own hb SM HK5 HW5 IA5 IB IR ha5 hgb
  have l4 : 129 ≤ cr := by omega
  have l5 : (129 : Int) ≤ (cr : Int) := by omega
  have l6 : ¬ cr = 1 := by omega
  have rb' : (r == 1) = b := by rw [← rb]; rfl
  go_wp2_with fail
  go_cut [] (fun wr => K5 37 wr cz ⟨zh, zl, k, m, b⟩ ∧ Below w.heap.size w wr)
  case first =>
    have hX : Below W6.heap.size W6 W6 := Below.refl _ _
    obtain ⟨f00, f01, f02, f03, f04⟩ := (HK.out.1.below hX).cells; have l0 := (HK.out.1.below hX).lt; obtain ⟨g0, g1, g2, g3, g4⟩ := (HK.out.2.below hX).cells; obtain ⟨j0, j1, j2, j3, j4⟩ := (HK.out.2.below hX).free; have lz := (HK.out.2.below hX).lt; obtain ⟨q0, q1, q2⟩ := IO.out _ hX
    clear q1
    go_region_held3 (fun w' => w'.cell? ⟨cs, 2, none⟩ = some (.int .u32 k) ∧ w'.cell? ⟨cs, 3, none⟩ = some (.int .u32 m) ∧ w'.cell? ⟨gr, 0, none⟩ = some (.int .i64 r)) (go_keep) (first
      | (go_at_call 34; (with_reducible refine (OF.out _ _ _ (IO.out _ (show Below W6.heap.size W6 _ by first | exact hX | exact hX.drew)).1 (IO.out _ (show Below W6.heap.size W6 _ by first | exact hX | exact hX.drew)).2.1).mono ?_); rintro e x0 ⟨rfl, hb⟩; replace hX := below_then (show Below W6.heap.size W6 _ by first | exact hX | exact hX.drew) hb; clear hb; clear f00 f01 f02 f03 f04 l0 g0 g1 g2 g3 g4 j0 j1 j2 j3 j4 lz q0 q2; obtain ⟨f00, f01, f02, f03, f04⟩ := (HK.out.1.below hX).cells; have l0 := (HK.out.1.below hX).lt; obtain ⟨g0, g1, g2, g3, g4⟩ := (HK.out.2.below hX).cells; obtain ⟨j0, j1, j2, j3, j4⟩ := (HK.out.2.below hX).free; have lz := (HK.out.2.below hX).lt; obtain ⟨q0, q1, q2⟩ := IO.out _ hX; clear q1))
    all_goals
      go_wp2_with fail
      go_meet
      exact ⟨K5.put (HK.out.2.below hX) ⟨zh, zl, k, m, b⟩, below_put5 (below_then HW.out hX) hc ⟨zh, zl, k, m, b⟩⟩
  obtain ⟨HR, HB⟩ := hcut
  obtain ⟨r0', r1, r2, r3, r4⟩ := HR.cells
  go_wp2_with fail
  try simp only [Exit.inBlock, Exit.then, Exit.noGoto]
  refine bodyPost_ret (by simp [results, Try.results17, go_sem, r0', r1, r2, r3, r4]; try rfl) rfl ?_
  exact ⟨rfl, HB⟩
set_option maxHeartbeats 8000000 in
theorem yfarTrue (w : World) (h l k m p q zh zl : Int) (b : Bool) (xs ys rs : List Int) (r : Int) (LX : Hid (∀ W : World, Calls Try.prog 32 #[.agg #[.int .u64 h, .int .u64 l]] W (Wd.RowAt xs W))) (LY : Hid (∀ W : World, Calls Try.prog 32 #[.agg #[.int .u64 p, .int .u64 q]] W (Wd.RowAt ys W)))
    (lx : Hid (xs.length = 128)) (ly : Hid (ys.length = 128)) (SM : Hid (∀ (ga ca gb cb : Nat) (W : World), ga < W.heap.size → gb < W.heap.size → Wd.Ints W ga 0 (1 :: xs) → Wd.Ints W gb 0 (ys ++ [0]) → Calls Try.prog 33 #[.slice (some ⟨ga, 0, none⟩) 129 ca, .slice (some ⟨gb, 0, none⟩) 129 cb] W (Wd.RowAt rs W)))
    (lr : Hid (rs.length = 130)) (r0 : Hid (rs.getD 0 0 = r)) (rb : decide (r = 1) = b) (OF : Hid (∀ (g c : Nat) (W : World), g < W.heap.size → Wd.Ints W g 1 ((rs.drop 1).take 128) → Calls Try.prog 34 #[.slice (some ⟨g, 1, none⟩) 128 c] W (fun e w' => e = .returned (.agg #[.int .u64 zh, .int .u64 zl]) ∧ Below W.heap.size W w'))) :
    Calls Try.prog 17 #[.agg #[.int .u64 h, .int .u64 l, .int .u32 k, .int .u32 m, .bool true], .agg #[.int .u64 p, .int .u64 q]] w (fun e w' => e = .returned (.agg #[.int .u64 zh, .int .u64 zl, .int .u32 k, .int .u32 m, .bool b]) ∧ Below w.heap.size w w') := by
  obtain ⟨i0, hi, hz0, hz1, hz2⟩ := info_parts Wd.infoInt
  have HI := Lib.hid hi
  have HZ0 := Lib.hid hz0
  have HZ1 := Lib.hid hz1
  have HZ2 := Lib.hid hz2
  clear hi hz0 hz1 hz2
  have U := K5.new 37 w ⟨h, l, k, m, true⟩
  have z1 : (w.alloc (.cells #[.int .u64 h, .int .u64 l, .int .u32 k, .int .u32 m, .bool true] 37)).heap.size = w.heap.size + 1 := Array.size_push _
  have L := below_allocs w (.cells #[.int .u64 h, .int .u64 l, .int .u32 k, .int .u32 m, .bool true] 37)
  have H1 := Lib.hid (And.intro U (And.intro z1 L))
  clear U z1 L
  go_enter Try.func17, Try.ntmps17
  go_upto_region 1 with fail
  generalize w.alloc _ = V1 at H1 ⊢
  have UX := CU.new V1 p q 35
  have z2 : (V1.alloc (.cells #[.int .u64 p, .int .u64 q] 35)).heap.size = w.heap.size + 1 + 1 := (Array.size_push _).trans (by rw [H1.out.2.1])
  rw [H1.out.2.1] at UX
  have LB := below_allocs V1 (.cells #[.int .u64 p, .int .u64 q] 35)
  have H2 := Lib.hid (And.intro (H1.out.1.below LB) (And.intro UX (And.intro z2 (below_then H1.out.2.2 LB))))
  clear UX z2 LB H1
  generalize V1.alloc _ = V2 at H2 ⊢
  have UZ := K5.new 37 V2 ⟨0, 0, 0, 0, false⟩
  rw [H2.out.2.2.1] at UZ
  have LB := below_allocs V2 (.cells #[.int .u64 0, .int .u64 0, .int .u32 0, .int .u32 0, .bool false] 37)
  have HK := Lib.hid (And.intro (H2.out.1.below LB) (And.intro UZ (H2.out.2.1.below LB)))
  have HW := Lib.hid (below_then H2.out.2.2.2 LB)
  clear UZ LB H2
  generalize V2.alloc _ = V4 at HK HW ⊢
  have hc : w.heap.size ≤ w.heap.size + 1 + 1 := Nat.le_trans (Nat.le_succ _) (Nat.le_succ _)
  have n1 : w.heap.size ≠ w.heap.size + 1 + 1 := by omega
  generalize w.heap.size + 1 + 1 = cz at HK hc n1 ⊢
  generalize w.heap.size + 1 = cn at HK ⊢
  have n3 := n1.symm
  obtain ⟨cs, hcs⟩ : ∃ cs, cs = w.heap.size := ⟨_, rfl⟩
  rw [← hcs] at HK n1 n3
  rw [← hcs]
  clear hcs
  obtain ⟨x0, x1, x2, x3, x4⟩ := HK.out.1.cells
  go_upto_region 4 with fail
  have OW := own_one V4 (.int .i64 1)
  have LB := below_allocs V4 (.cells #[.int .i64 1] 3)
  clear x0 x1 x2 x3 x4
  obtain ⟨x0, x1, x2, x3, x4⟩ := (HK.out.1.below LB).cells
  go_wp2_with fail
  clear x0 x1 x2 x3 x4
  generalize V4.alloc _ = V5 at OW LB ⊢
  refine (LX.out _).mono ?_
  rintro e W1 ⟨g0, c0, rfl, l1, l2, l3, own, hb⟩
  have e1 := lx.out
  rw [e1] at own l3 ⊢
  clear e1
  have OW1 := Lib.hid (Wd.owns_below OW hb)
  have OWN := Lib.hid own
  have hX := below_then LB hb
  have sx := hX.size
  clear OW LB own hb LX
  have d1 : 0 < 128 := by omega
  have d2 : 1 + 128 ≤ maxLen := by unfold maxLen; omega
  have d3 : (1 + 128) * 8 ≤ 140737488355328 := by omega
  have dl : (xs.map (Value.int .i64)).length = 128 * 1 := by rw [List.length_map, lx.out]
  go_upto_region 5 with (at_builtin; refine wpList_append_lies _ rfl _ _ 68 rfl V4.heap.size 3 i0 (.int .i64 0) 1 8 Try.underlying68 HI.out HZ0.out HZ1.out HZ2.out rfl (by decide) _ _ _ rfl OW1.out ⟨g0, 0, none⟩ 128 c0 (xs.map (Value.int .i64)) rfl dl (OWN.out.cells rfl) (Wd.one_cells xs) d1 d2 d3 sx W1.heap.size rfl ?_; intro ga ca W2 hown2 hgrow hat hlt2; have OWA := Lib.hid hown2; have GR := Lib.hid hgrow; have hla := hlt2; clear hown2 hgrow hat hlt2)
  have hY := Lib.hid (hX.grown GR.out sx (fun j hj => (OW1.out.lt j hj).1))
  have IA : Hid (Wd.Ints W2 ga 0 (1 :: xs)) := Lib.hid (by
    have q : W2.ownsRow V4.heap.size 3 1 (.slice (some ⟨ga, 0, none⟩) (1 + 128) ca) (1 + 128) (((1 : Int) :: xs).map (Value.int .i64)) := OWA.out
    exact Wd.ints_of_owns q)
  clear OW1 OWN GR OWA sx hX l1 l2 l3
  have HK2 := Lib.hid (And.intro (HK.out.1.below hY.out) (And.intro (HK.out.2.1.below hY.out) (HK.out.2.2.below hY.out)))
  have HW2 := Lib.hid (below_then HW.out hY.out)
  clear HK HW hY
  have OW := World.ownsRow_made (base := W2.heap.size) (e := 3) (size := 1) W2 #[] 0 (Nat.le_refl _) (by decide) rfl
  have LB := below_allocs W2 (.cells #[] 3)
  have hga : ga < W2.heap.size := hla
  obtain ⟨v0, v1⟩ := (HK2.out.2.2.below LB).c
  go_wp2_with fail
  clear v0 v1
  generalize W2.alloc _ = V6 at OW LB ⊢
  refine (LY.out _).mono ?_
  rintro e W3 ⟨g1, c1, rfl, m1, m2, m3, own, hb⟩
  have e1 := ly.out
  rw [e1] at own m3 ⊢
  clear e1
  have OW3 := Lib.hid (Wd.owns_below OW hb)
  have OWN := Lib.hid own
  have hX := below_then LB hb
  have sx := hX.size
  clear OW LB own hb LY
  have d4 : 0 + 128 ≤ maxLen := by unfold maxLen; omega
  have d5 : (0 + 128) * 8 ≤ 140737488355328 := by omega
  have d6 : 128 + 1 ≤ maxLen := by unfold maxLen; omega
  have d7 : (128 + 1) * 8 ≤ 140737488355328 := by omega
  have dm : (ys.map (Value.int .i64)).length = 128 * 1 := by rw [List.length_map, ly.out]
  go_wp2_with (first
    | (at_builtin; refine wpList_append_lies _ rfl _ _ 68 rfl W2.heap.size 3 i0 (.int .i64 0) 1 8 Try.underlying68 HI.out HZ0.out HZ1.out HZ2.out rfl (by decide) _ _ _ rfl OW3.out ⟨g1, 0, none⟩ 128 c1 (ys.map (Value.int .i64)) rfl dm (OWN.out.cells rfl) (Wd.one_cells ys) d1 d4 d5 sx W3.heap.size rfl ?_; intro gg cg W4 hown2 hgrow hat hlt2; have OW4 : Hid (W4.ownsRow W2.heap.size 3 1 (.slice (some ⟨gg, 0, none⟩) 128 cg) 128 (ys.map (Value.int .i64))) := Lib.hid hown2; have GR := Lib.hid hgrow; clear hown2 hgrow hat hlt2; have hY := Lib.hid (hX.grown GR.out sx (fun j hj => (OW3.out.lt j hj).1)); have sy := hY.out.size; have sy1 := Nat.le_succ_of_le sy)
    | (at_builtin; refine wpList_append_lies _ rfl _ _ 68 rfl W2.heap.size 3 i0 (.int .i64 0) 1 8 Try.underlying68 HI.out HZ0.out HZ1.out HZ2.out rfl (by decide) _ _ _ rfl (OW4.out.alloc _) ⟨W4.heap.size, 0, none⟩ 1 1 [.int .i64 0] rfl rfl (Wd.new1 W4 _ _) (by simp [Value.oneCell']) (by omega) d6 d7 (by simp; omega) (W4.heap.size + 1) (by simp) ?_; intro gb cb W5 hown2 hgrow hat hlt2; have OW5 := Lib.hid hown2; have GS := Lib.hid hgrow; have hgb := hlt2; clear hown2 hgrow hat hlt2))
  have hZ := Lib.hid ((below_alloc hY.out (.cells #[.int .i64 0] 3)).grown GS.out (Nat.le_trans sy (Nat.le_of_lt (by simp))) (fun j hj => (OW4.out.lt j hj).1))
  have IB : Hid (Wd.Ints W5 gb 0 (ys ++ [0])) := Lib.hid (by
    have q : W5.ownsRow W2.heap.size 3 1 (.slice (some ⟨gb, 0, none⟩) (128 + 1) cb) (128 + 1) ((ys ++ [0]).map (Value.int .i64)) := by
      rw [List.map_append]
      exact OW5.out
    exact Wd.ints_of_owns q)
  have IA5 := Lib.hid (IA.out.below hga hZ.out)
  have ha5 : ga < W5.heap.size := Nat.lt_of_lt_of_le hga hZ.out.size
  have HK5 := Lib.hid (And.intro (HK2.out.1.below hZ.out) (HK2.out.2.1.below hZ.out))
  have HW5 := Lib.hid (below_then HW2.out hZ.out)
  clear HK2 HW2 hZ hY GR GS OW3 OW4 OW5 OWN IA hX sx sy sy1 m1 m2 m3 hga
  refine (SM.out ga ca gb cb W5 ha5 hgb IA5.out IB.out).mono ?_
  rintro e W6 ⟨gr, cr, rfl, l1, l2, l3, own, hb⟩
  have e1 := lr.out
  rw [e1] at own l3 ⊢
  clear e1
  have IR : Hid (Wd.Ints W6 gr 0 rs) := Lib.hid (Wd.ints_of_owns own)
  have HK := Lib.hid (And.intro (HK5.out.1.below hb) (HK5.out.2.below hb))
  have HW := Lib.hid (below_then HW5.out hb)
  have gs : cs ≠ gr := Nat.ne_of_lt (Nat.lt_of_lt_of_le HK5.out.1.lt l1)
  have gz : cz ≠ gr := Nat.ne_of_lt (Nat.lt_of_lt_of_le HK5.out.2.lt l1)
  have gz' := gz.symm
  have IO : Hid (∀ W, Below W6.heap.size W6 W → gr < W.heap.size ∧ Wd.Ints W gr 1 ((rs.drop 1).take 128) ∧ W.cell? ⟨gr, 0, none⟩ = some (.int .i64 r)) := Lib.hid fun W hW => by
    have q := IR.out.below l2 hW
    refine ⟨Nat.lt_of_lt_of_le l2 hW.size, ints_take (Wd.ints_drop q 1) 128, ?_⟩
    have := q 0 (by rw [lr.out]; decide)
    rw [r0.out] at this
    exact this
  clear own hb SM HK5 HW5 IA5 IB IR ha5 hgb
  have l4 : 129 ≤ cr := by omega
  have l5 : (129 : Int) ≤ (cr : Int) := by omega
  have l6 : ¬ cr = 1 := by omega
  have rb' : (r == 1) = b := by rw [← rb]; rfl
  go_wp2_with fail
  go_cut [] (fun wr => K5 37 wr cz ⟨zh, zl, k, m, b⟩ ∧ Below w.heap.size w wr)
  case first =>
    have hX : Below W6.heap.size W6 W6 := Below.refl _ _
    obtain ⟨f00, f01, f02, f03, f04⟩ := (HK.out.1.below hX).cells; have l0 := (HK.out.1.below hX).lt; obtain ⟨g0, g1, g2, g3, g4⟩ := (HK.out.2.below hX).cells; obtain ⟨j0, j1, j2, j3, j4⟩ := (HK.out.2.below hX).free; have lz := (HK.out.2.below hX).lt; obtain ⟨q0, q1, q2⟩ := IO.out _ hX
    clear q1
    go_region_held3 (fun w' => w'.cell? ⟨cs, 2, none⟩ = some (.int .u32 k) ∧ w'.cell? ⟨cs, 3, none⟩ = some (.int .u32 m) ∧ w'.cell? ⟨gr, 0, none⟩ = some (.int .i64 r)) (go_keep) (first
      | (go_at_call 34; (with_reducible refine (OF.out _ _ _ (IO.out _ (show Below W6.heap.size W6 _ by first | exact hX | exact hX.drew)).1 (IO.out _ (show Below W6.heap.size W6 _ by first | exact hX | exact hX.drew)).2.1).mono ?_); rintro e x0 ⟨rfl, hb⟩; replace hX := below_then (show Below W6.heap.size W6 _ by first | exact hX | exact hX.drew) hb; clear hb; clear f00 f01 f02 f03 f04 l0 g0 g1 g2 g3 g4 j0 j1 j2 j3 j4 lz q0 q2; obtain ⟨f00, f01, f02, f03, f04⟩ := (HK.out.1.below hX).cells; have l0 := (HK.out.1.below hX).lt; obtain ⟨g0, g1, g2, g3, g4⟩ := (HK.out.2.below hX).cells; obtain ⟨j0, j1, j2, j3, j4⟩ := (HK.out.2.below hX).free; have lz := (HK.out.2.below hX).lt; obtain ⟨q0, q1, q2⟩ := IO.out _ hX; clear q1))
    all_goals
      go_wp2_with fail
      go_meet
      exact ⟨K5.put (HK.out.2.below hX) ⟨zh, zl, k, m, b⟩, below_put5 (below_then HW.out hX) hc ⟨zh, zl, k, m, b⟩⟩
  obtain ⟨HR, HB⟩ := hcut
  obtain ⟨r0', r1, r2, r3, r4⟩ := HR.cells
  go_wp2_with fail
  try simp only [Exit.inBlock, Exit.then, Exit.noGoto]
  refine bodyPost_ret (by simp [results, Try.results17, go_sem, r0', r1, r2, r3, r4]; try rfl) rfl ?_
  exact ⟨rfl, HB⟩
/-- The list of a sum, as a number. -/
theorem far_list (x : Hs) (n : Nat) (h : x.Ok) (hn : n < 340282366920938463463374607431768211456) (o : Int) (ho : o = ((one x.s : Nat) : Int)) :
    ∃ rs : List Int, rs = Wd.sumAll (o :: Wd.bits128 (x.C : Int)) (Wd.bits128 (n : Int) ++ [0]) 129 ∧ Wd.AreBits (o :: Wd.bits128 (x.C : Int)) ∧ Wd.AreBits (Wd.bits128 (n : Int) ++ [0]) ∧ (o :: Wd.bits128 (x.C : Int)).length = 129 ∧ (Wd.bits128 (n : Int) ++ [0]).length = 129 ∧
      rs.length = 130 ∧ Wd.AreBits rs ∧ Wd.leB rs = ((tick x + n : Nat) : Int) := by
  have b1 : Wd.AreBits (o :: Wd.bits128 (x.C : Int)) := fun y hy => by
    rcases List.mem_cons.1 hy with e | e
    · have := one_lt x.s
      subst e
      omega
    · exact Wd.bits128_bits _ y e
  have b2 : Wd.AreBits (Wd.bits128 (n : Int) ++ [0]) := fun y hy => by
    rcases List.mem_append.1 hy with e | e
    · exact Wd.bits128_bits _ y e
    · rw [List.mem_singleton] at e
      subst e
      exact ⟨by decide, by decide⟩
  have l1 : (o :: Wd.bits128 (x.C : Int)).length = 129 := by rw [List.length_cons, Wd.bits128_length]
  have l2 : (Wd.bits128 (n : Int) ++ [0]).length = 129 := by rw [List.length_append, Wd.bits128_length]; rfl
  refine ⟨_, rfl, b1, b2, l1, l2, Wd.sumAll_len _ _ 129, Wd.sumAll_bits b1 b2 129, ?_⟩
  rw [Wd.sumAll_val b1 b2 129 l1 l2, Wd.leB_append, Wd.leB_one]
  show o + 2 * Wd.leB (Wd.bits128 (x.C : Int)) + (Wd.leB (Wd.bits128 (n : Int)) + 2 ^ (Wd.bits128 (n : Int)).length * 0) = _
  rw [Wd.bits128_val _ (rng_natH h.c), Wd.bits128_val _ (rng_natH hn), ho]
  unfold tick
  generalize 2 ^ (Wd.bits128 (n : Int)).length = P
  omega
theorem yListH {n : Nat} (hn : n < 340282366920938463463374607431768211456) (W : World) : Calls Try.prog 32 #[U n] W (Wd.RowAt (Wd.bits128 (n : Int)) W) := by
  have q := Wd.rListN (n : Int) _ rfl (rng_natH hn) W
  simp only [hi_natH, lo_natH] at q
  exact q
theorem e2p128 : (2 : Int) ^ 128 = 340282366920938463463374607431768211456 := by decide +kernel
theorem yFarH (x : Hs) (n : Nat) (h : x.Ok) (hn : n < 340282366920938463463374607431768211456) : TH 17 #[x.val, U n] (jumpH x n).w := fun W => by
  obtain ⟨o, ho⟩ : ∃ o : Int, o = ((one x.s : Nat) : Int) := ⟨_, rfl⟩
  obtain ⟨rs, hrs, b1, b2, l1, l2, lr, br, vr⟩ := far_list x n h hn o ho
  have r0 : rs.getD 0 0 = (((tick x + n) % 2 : Nat) : Int) := by
    rw [Wd.getD_leB rs br _ vr 0 (by omega), Int.pow_zero, Int.ediv_one, Int.natCast_emod]
    rfl
  have hz : Wd.md (Wd.leB ((rs.drop 1).take 128)) = (((jumpH x n).C : Nat) : Int) := by
    rw [(Wd.leB_split _ (br.drop 1) 128).1, (Wd.leB_split rs br 1).2, vr, e2p128, show (2 : Int) ^ 1 = 2 from rfl]
    show Wd.md _ = (((tick x + n) % 680564733841876926926749214863536422912 / 2 : Nat) : Int)
    unfold Wd.md
    generalize tick x + n = t
    omega
  have SM : Hid (∀ (ga ca gb cb : Nat) (W : World), ga < W.heap.size → gb < W.heap.size → Wd.Ints W ga 0 (o :: Wd.bits128 (x.C : Int)) → Wd.Ints W gb 0 (Wd.bits128 (n : Int) ++ [0]) → Calls Try.prog 33 #[.slice (some ⟨ga, 0, none⟩) 129 ca, .slice (some ⟨gb, 0, none⟩) 129 cb] W (Wd.RowAt rs W)) := Lib.hid fun ga ca gb cb W ha hb ia ib => by
    rw [hrs]
    exact (Wd.rSumL ga ca gb cb 129 _ _ b1 b2 l1 l2 (by decide) W ha hb ia ib).mono fun _ _ q => Wd.row_at q (by rw [Wd.sumAll_len]; decide)
  have OF : Hid (∀ (g c : Nat) (W : World), g < W.heap.size → Wd.Ints W g 1 ((rs.drop 1).take 128) → Calls Try.prog 34 #[.slice (some ⟨g, 1, none⟩) 128 c] W (fun e w' => e = .returned (.agg #[.int .u64 ((hiW (jumpH x n).C : Nat) : Int), .int .u64 ((loW (jumpH x n).C : Nat) : Int)]) ∧ Below W.heap.size W w')) := Lib.hid fun g c W hg hi => by
    have q := Wd.rOfAs g 1 c _ ((br.drop 1).take 128) 128 ⟨by rw [List.length_take, List.length_drop, lr]; rfl, by decide⟩ W hg hi
    rw [hz] at q
    unfold Wd.N1 at q
    simp only [hi_natH, lo_natH] at q
    exact q
  have rb : decide ((((tick x + n) % 2 : Nat) : Int) = 1) = (jumpH x n).s := by
    show _ = decide ((tick x + n) % 680564733841876926926749214863536422912 % 2 = 1)
    generalize tick x + n = t
    apply decide_eq_decide.2
    omega
  have LX := Lib.hid (yListH h.c)
  have LY := Lib.hid (yListH hn)
  have lx := Lib.hid (Wd.bits128_length (x.C : Int))
  have ly := Lib.hid (Wd.bits128_length (n : Int))
  show Calls _ _ _ _ (fun e w' => e = .returned (.agg #[.int .u64 ((hiW (jumpH x n).C : Nat) : Int), .int .u64 ((loW (jumpH x n).C : Nat) : Int), .int .u32 (x.K.k : Int), .int .u32 (x.K.m : Int), .bool (jumpH x n).s]) ∧ Below W.heap.size W w')
  cases e : x.s
  · rw [val_s e]
    rw [e] at ho
    obtain rfl : o = 0 := ho
    exact yfarFalse W _ _ _ _ _ _ _ _ _ _ _ rs _ LX LY lx ly SM (Lib.hid lr) (Lib.hid r0) rb OF
  · rw [val_s e]
    rw [e] at ho
    obtain rfl : o = 1 := ho
    exact yfarTrue W _ _ _ _ _ _ _ _ _ _ _ rs _ LX LY lx ly SM (Lib.hid lr) (Lib.hid r0) rb OF
end Go.Proofs.Ytdmoedjjbhkdmaa
