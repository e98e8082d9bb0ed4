/-
  The statement's own walk: a state's word, the next one, so many words, and jumps of few steps are as the document says. Made by wip/gen/pcgtells.py.
-/
import Derived.Test.YthnmekieanndgaaPcgT
namespace Go.Proofs.Ythnmekieanndgaa
open Go.RowKit G
set_option linter.unusedVariables false
set_option maxRecDepth 100000

/-- The ways of the statement: a state that may not be; words that may not be asked for; words. -/
inductive TWay (s0 s1 i0 i1 many : Int) (m : Nat) (st : Nat → Int → Int → Prop) (row : Nat → List Nat) : Prop where
  | even (CR : Hid (TB 14 #[.agg #[.int .u64 s0, .int .u64 s1, .int .u64 i0, .int .u64 i1]] false)) (par : i1 % 2 = 0)
      (CW : Hid (∀ W, Calls Try.prog 15 #[.agg #[.int .u64 s0, .int .u64 s1, .int .u64 i0, .int .u64 i1], .int .i64 many] W (NoP 3 W))) (CJ : Hid (TP 16 #[.agg #[.int .u64 s0, .int .u64 s1, .int .u64 i0, .int .u64 i1], .agg #[.int .u64 0, .int .u64 (m : Int)]] 0 0 0 0 3))
  | arg (CR : Hid (TB 14 #[.agg #[.int .u64 s0, .int .u64 s1, .int .u64 i0, .int .u64 i1]] true)) (par : i1 % 2 = 1) (hm : many < 0 ∨ 256 < many)
      (CW : Hid (∀ W, Calls Try.prog 15 #[.agg #[.int .u64 s0, .int .u64 s1, .int .u64 i0, .int .u64 i1], .int .i64 many] W (NoP 1 W))) (j0 j1 : Int) (CJ : Hid (TP 16 #[.agg #[.int .u64 s0, .int .u64 s1, .int .u64 i0, .int .u64 i1], .agg #[.int .u64 0, .int .u64 (m : Int)]] j0 j1 i0 i1 0))
      (RJ : Hid (TM 18 #[.agg #[.int .u64 s0, .int .u64 s1, .int .u64 i0, .int .u64 i1], .int .i64 (m : Int)] j0 j1 i0 i1))
  | some (CR : Hid (TB 14 #[.agg #[.int .u64 s0, .int .u64 s1, .int .u64 i0, .int .u64 i1]] true)) (par : i1 % 2 = 1) (k : Nat) (hk : k ≤ 256) (hm : many = (k : Int))
      (CW : Hid (∀ W, Calls Try.prog 15 #[.agg #[.int .u64 s0, .int .u64 s1, .int .u64 i0, .int .u64 i1], .int .i64 many] W (fun e w' => ∃ (A : Option Addr) (cap : Nat) (y0 y1 : Int), e = .returned (.tuple #[.slice A (row k).length cap, .agg #[.int .u64 y0, .int .u64 y1, .int .u64 i0, .int .u64 i1], .int .i64 0]) ∧ st k y0 y1 ∧ Pol w' A cap (row k) ∧ Below W.heap.size W w')))
      (j0 j1 : Int) (CJ : Hid (TP 16 #[.agg #[.int .u64 s0, .int .u64 s1, .int .u64 i0, .int .u64 i1], .agg #[.int .u64 0, .int .u64 (m : Int)]] j0 j1 i0 i1 0))
      (RJ : Hid (TM 18 #[.agg #[.int .u64 s0, .int .u64 s1, .int .u64 i0, .int .u64 i1], .int .i64 (m : Int)] j0 j1 i0 i1))
set_option maxHeartbeats 16000000 in
theorem ptellsMain (aw : Hid (∀ W, Calls Try.prog 8 #[] W (Bl true W))) (s0 s1 i0 i1 v t0 t1 many : Int) (n m : Nat) (hn : n < 65536) (hm : Hid (n % 300 = m)) (hi1 : 0 ≤ i1) (st : Nat → Int → Int → Prop) (row : Nat → List Nat) (w : World)
    (CU1 : Hid (TU 9 #[.agg #[.int .u64 s0, .int .u64 s1, .int .u64 i0, .int .u64 i1]] v)) (YU1 : Hid (TU 10 #[.agg #[.int .u64 s0, .int .u64 s1, .int .u64 i0, .int .u64 i1]] v))
    (CS : Hid (TM 12 #[.agg #[.int .u64 s0, .int .u64 s1, .int .u64 i0, .int .u64 i1]] t0 t1 i0 i1)) (YS : Hid (TM 13 #[.agg #[.int .u64 s0, .int .u64 s1, .int .u64 i0, .int .u64 i1]] t0 t1 i0 i1))
    (OW : Hid (∀ a b c d : Int, TM 11 #[.agg #[.int .u64 a, .int .u64 b, .int .u64 c, .int .u64 d]] a b c d)) (OF : Hid (TN 17 #[.int .u64 (m : Int)] 0 (m : Int)))
    (st0 : Hid (st 0 s0 s1)) (row0 : Hid (row 0 = [])) (rlen : Hid (∀ j, (row j).length = j)) (un : Hid (∀ (j : Nat) (p q p' q' : Int), st j p q → st j p' q' → p = p' ∧ q = q'))
    (NX : Hid (∀ (j : Nat) (p q : Int), st j p q → ∃ X : Nat, X < 18446744073709551616 ∧ TU 10 #[.agg #[.int .u64 p, .int .u64 q, .int .u64 i0, .int .u64 i1]] (X : Int) ∧ ∃ p' q' : Int, st (j + 1) p' q' ∧ TM 13 #[.agg #[.int .u64 p, .int .u64 q, .int .u64 i0, .int .u64 i1]] p' q' i0 i1 ∧ row (j + 1) = row j ++ [X]))
    (way : Hid (TWay s0 s1 i0 i1 many m st row)) :
    Calls Try.prog 3 #[.agg #[.int .u64 s0, .int .u64 s1, .int .u64 i0, .int .u64 i1], .int .i64 many, .int .u16 (n : Int)] w (Bl true w) := by
  have hB : Below w.heap.size w w := Below.refl _ _
  have er : (n : Int) % 300 = (m : Int) := by have := hm.out; omega
  have er2 : (n : Int).tmod 300 = (m : Int) := by rw [Int.tmod_eq_emod_of_nonneg (by omega)]; exact er
  have ml : m < 300 := by have := hm.out; omega
  have er3 : IntKind.u64.wrap (m : Int) = (m : Int) := by rw [IntKind.wrap_u64]; omega
  have er4 : IntKind.i64.wrap (m : Int) = (m : Int) := by rw [IntKind.wrap_i64]; omega
  go_enter Try.func3, Try.ntmps3
  go_wp2_with fail
  have US := K4.new 26 w s0 s1 i0 i1
  replace hB := below_allocs w (.cells #[.int .u64 s0, .int .u64 s1, .int .u64 i0, .int .u64 i1] 26)
  generalize w.alloc _ = V at US hB ⊢
  obtain ⟨cs, hcs⟩ : ∃ cs, cs = w.heap.size := ⟨_, rfl⟩
  have US : K4 26 V cs s0 s1 i0 i1 := by rw [hcs]; exact US
  rw [← hcs]
  clear hcs
  refine (aw.out _).mono ?_
  rintro e W0 ⟨rfl, hb⟩
  replace US := US.below hb
  replace hB := below_then hB hb
  clear hb aw hm
  go_wp2_with fail
  have HS := Lib.hid US
  go_cut [40] (CutG W0 false)
  case first =>
    have PAR : (i1 % 2 = 1 ∧ TB 14 #[.agg #[.int .u64 s0, .int .u64 s1, .int .u64 i0, .int .u64 i1]] true) ∨ (i1 % 2 = 0 ∧ TB 14 #[.agg #[.int .u64 s0, .int .u64 s1, .int .u64 i0, .int .u64 i1]] false) := by
      rcases way.out with ⟨CR, par, _, _⟩ | ⟨CR, par, _, _, _, _, _, _⟩ | ⟨CR, par, _, _, _, _, _, _, _, _⟩
      · exact .inr ⟨par, CR.out⟩
      · exact .inl ⟨par, CR.out⟩
      · exact .inl ⟨par, CR.out⟩
    clear way NX un rlen row0 st0 US hB er er2 er3 er4 OF
    rcases PAR with ⟨par, CR⟩ | ⟨par, CR⟩
    all_goals
      have par2 := par
      rw [← Int.tmod_eq_emod_of_nonneg hi1] at par2
      replace CR := Lib.hid CR
      refine wp_region_class (fun w' => Below W0.heap.size W0 w') (by kernel_rfl) (by kernel_rfl) (Below.refl _ _).drew ?_
      iterate 25
        (refine WQ.yes ?_ (by rfl) (fun w' hC => ?_) ?_
         rotate_left
         · (obtain ⟨x1, x2, x3, x4⟩ := (HS.out.below hC).cells
            go_simp
            first
              | done
              | with_reducible rfl
              | exact ⟨rfl, rfl⟩
              | (go_at_call 9; (with_reducible exact quietU (CU1.out _) hC))
              | (go_at_call 10; (with_reducible exact quietU (YU1.out _) hC))
              | (go_at_call 11; (with_reducible exact quietA4 (OW.out _ _ _ _ _) hC))
              | (go_at_call 12; (with_reducible exact quietA4 (CS.out _) hC))
              | (go_at_call 13; (with_reducible exact quietA4 (YS.out _) hC))
              | (go_at_call 14; (with_reducible exact quietB (CR.out _) hC)))
         (try simp only [Act.put, List.setIfInBounds_toArray, List.set_cons_zero, List.set_cons_succ]))
      refine WQ.nil ?_
      intro wz hX
      go_wp2
      go_meet
      exact CutG.of hX
  obtain ⟨rfl, hb⟩ := hcut
  replace US := US.below hb
  replace hB := below_then hB hb
  clear hb HS CU1 YU1 CS YS
  obtain ⟨V1, h1⟩ : ∃ x : World, x = wc := ⟨_, rfl⟩
  subst h1
  rcases way.out with ⟨CR, par, CW, CJ⟩ | ⟨CR, par, hm, CW, j0, j1, CJ, RJ⟩ | ⟨CR, par, k, hk, rfl, CW, j0, j1, CJ, RJ⟩
  · clear way NX un rlen row0 st0
    obtain ⟨x0, x1, x2, x3⟩ := US.cells
    go_wp2_with fail
    clear x0 x1 x2 x3
    refine (CW.out _).mono ?_
    rintro e e1 ⟨rfl, hb⟩
    replace US := US.below hb
    replace hB := below_then hB hb
    clear hb
    go_upto_region 6 with fail
    have UY := K4.new 26 e1 0 0 0 0
    have LB := below_allocs e1 (.cells #[.int .u64 0, .int .u64 0, .int .u64 0, .int .u64 0] 26)
    replace US := US.below LB
    replace hB := below_then hB LB
    clear LB
    generalize e1.alloc _ = V5 at US UY hB  ⊢
    generalize e1.heap.size = cy at UY ⊢
    have HU := Lib.hid US
    have HBB := Lib.hid hB
    go_cut [10, 11] (CutPE V5 0 0 0 0 3)
    case first =>
      clear hB
      have hX : Below V5.heap.size V5 V5 := Below.refl _ _
      obtain ⟨f1, f2, f3, f4⟩ := HU.out.cells
      have l0 : cs < V5.heap.size := HU.out.lt
      go_region_held3 (fun w' => w'.cell? ⟨cs, 0, none⟩ = some (.int .u64 s0) ∧ w'.cell? ⟨cs, 1, none⟩ = some (.int .u64 s1) ∧ w'.cell? ⟨cs, 2, none⟩ = some (.int .u64 i0) ∧ w'.cell? ⟨cs, 3, none⟩ = some (.int .u64 i1)) (go_keep) (first
          | (go_at_call 17; (with_reducible refine (OF.out _).mono ?_); rintro e xo ⟨rfl, hb⟩; (first | (have z_V5 : Z4 xo V5.heap.size := z4_early (w := World.drew V5) hb; obtain ⟨aoV50, aoV51, aoV52, aoV53⟩ := Z4.cells z_V5; obtain ⟨aoV54, aoV55, aoV56, aoV57⟩ := Z4.free z_V5; have aoV5l := Z4.lt z_V5) | skip); (first | (replace z_V5 := Z4.below z_V5 hb; obtain ⟨boV50, boV51, boV52, boV53⟩ := Z4.cells z_V5; obtain ⟨boV54, boV55, boV56, boV57⟩ := Z4.free z_V5; have boV5l := Z4.lt z_V5) | skip); replace hX := below_then (show Below V5.heap.size V5 _ by first | exact hX | exact hX.drew | exact hX.alloc hX.size _ | exact hX.drew.alloc hX.drew.size _) hb; clear hb; have s_xo : V5.heap.size ≤ xo.heap.size := hX.size; have do0 := Nat.ne_of_lt l0; have do0s := Nat.ne_of_gt l0; clear l0; clear f1 f2 f3 f4; obtain ⟨f1, f2, f3, f4⟩ := (HU.out.below hX).cells; have l0 := (HU.out.below hX).lt; have eo0 := Nat.ne_of_lt l0; have eo0s := Nat.ne_of_gt l0)
          | (go_at_call 16; (with_reducible refine (CJ.out _).mono ?_); rintro e xj ⟨rfl, hb⟩; (first | (have z_V5 : Z4 xj V5.heap.size := z4_early (w := World.drew V5) hb; obtain ⟨ajV50, ajV51, ajV52, ajV53⟩ := Z4.cells z_V5; obtain ⟨ajV54, ajV55, ajV56, ajV57⟩ := Z4.free z_V5; have ajV5l := Z4.lt z_V5) | (have z_xo : Z4 xj xo.heap.size := z4_early (w := xo) hb; obtain ⟨ajxo0, ajxo1, ajxo2, ajxo3⟩ := Z4.cells z_xo; obtain ⟨ajxo4, ajxo5, ajxo6, ajxo7⟩ := Z4.free z_xo; have ajxol := Z4.lt z_xo) | skip); (first | (replace z_V5 := Z4.below z_V5 hb; obtain ⟨bjV50, bjV51, bjV52, bjV53⟩ := Z4.cells z_V5; obtain ⟨bjV54, bjV55, bjV56, bjV57⟩ := Z4.free z_V5; have bjV5l := Z4.lt z_V5) | skip); (first | (replace z_xo := Z4.below z_xo hb; obtain ⟨bjxo0, bjxo1, bjxo2, bjxo3⟩ := Z4.cells z_xo; obtain ⟨bjxo4, bjxo5, bjxo6, bjxo7⟩ := Z4.free z_xo; have bjxol := Z4.lt z_xo) | skip); replace hX := below_then (show Below V5.heap.size V5 _ by first | exact hX | exact hX.drew | exact hX.alloc hX.size _ | exact hX.drew.alloc hX.drew.size _) hb; clear hb; have s_xj : V5.heap.size ≤ xj.heap.size := hX.size; have dj0 := Nat.ne_of_lt l0; have dj0s := Nat.ne_of_gt l0; clear l0; clear f1 f2 f3 f4; obtain ⟨f1, f2, f3, f4⟩ := (HU.out.below hX).cells; have l0 := (HU.out.below hX).lt; have ej0 := Nat.ne_of_lt l0; have ej0s := Nat.ne_of_gt l0))
      all_goals
        go_wp2_with fail
        go_meet
        first
            | with_reducible exact CutPE.of hX
            | with_reducible exact CutPE.early hX (Nat.le_refl _) z_V5
            | with_reducible exact CutPE.early hX s_xo z_xo
            | with_reducible exact CutPE.early hX s_xj z_xj
    obtain ⟨bj, rfl, rfl, UJ, hb⟩ := hcut
    replace US := HU.out.below hb
    replace hB := below_then HBB.out hb
    replace UY := UY.below hb
    clear hb HU HBB CJ OF
    obtain ⟨V6, h6⟩ : ∃ x : World, x = wc := ⟨_, rfl⟩
    subst h6
    obtain ⟨x0, x1, x2, x3⟩ := US.cells
    go_wp2_with fail
    clear x0 x1 x2 x3
    refine (CR.out _).mono ?_
    rintro e e2 ⟨rfl, hb⟩
    replace US := US.below hb
    replace UY := UY.below hb
    replace UJ := UJ.below hb
    replace hB := below_then hB hb
    clear hb
    obtain ⟨y0, y1, y2, y3⟩ := UY.cells
    obtain ⟨z0, z1, z2, z3⟩ := UJ.cells
    go_wp2
    go_ret
    exact ⟨rfl, hB⟩
  · clear way NX un rlen row0 st0
    obtain ⟨x0, x1, x2, x3⟩ := US.cells
    go_wp2_with fail
    clear x0 x1 x2 x3
    refine (CW.out _).mono ?_
    rintro e e1 ⟨rfl, hb⟩
    replace US := US.below hb
    replace hB := below_then hB hb
    clear hb
    go_upto_region 6 with fail
    have UY := K4.new 26 e1 0 0 0 0
    have LB := below_allocs e1 (.cells #[.int .u64 0, .int .u64 0, .int .u64 0, .int .u64 0] 26)
    replace US := US.below LB
    replace hB := below_then hB LB
    clear LB
    generalize e1.alloc _ = V5 at US UY hB  ⊢
    generalize e1.heap.size = cy at UY ⊢
    have HU := Lib.hid US
    have HBB := Lib.hid hB
    go_cut [10, 11] (CutPE V5 j0 j1 i0 i1 0)
    case first =>
      clear hB
      have hX : Below V5.heap.size V5 V5 := Below.refl _ _
      obtain ⟨f1, f2, f3, f4⟩ := HU.out.cells
      have l0 : cs < V5.heap.size := HU.out.lt
      go_region_held3 (fun w' => w'.cell? ⟨cs, 0, none⟩ = some (.int .u64 s0) ∧ w'.cell? ⟨cs, 1, none⟩ = some (.int .u64 s1) ∧ w'.cell? ⟨cs, 2, none⟩ = some (.int .u64 i0) ∧ w'.cell? ⟨cs, 3, none⟩ = some (.int .u64 i1)) (go_keep) (first
          | (go_at_call 17; (with_reducible refine (OF.out _).mono ?_); rintro e xo ⟨rfl, hb⟩; (first | (have z_V5 : Z4 xo V5.heap.size := z4_early (w := World.drew V5) hb; obtain ⟨aoV50, aoV51, aoV52, aoV53⟩ := Z4.cells z_V5; obtain ⟨aoV54, aoV55, aoV56, aoV57⟩ := Z4.free z_V5; have aoV5l := Z4.lt z_V5) | skip); (first | (replace z_V5 := Z4.below z_V5 hb; obtain ⟨boV50, boV51, boV52, boV53⟩ := Z4.cells z_V5; obtain ⟨boV54, boV55, boV56, boV57⟩ := Z4.free z_V5; have boV5l := Z4.lt z_V5) | skip); replace hX := below_then (show Below V5.heap.size V5 _ by first | exact hX | exact hX.drew | exact hX.alloc hX.size _ | exact hX.drew.alloc hX.drew.size _) hb; clear hb; have s_xo : V5.heap.size ≤ xo.heap.size := hX.size; have do0 := Nat.ne_of_lt l0; have do0s := Nat.ne_of_gt l0; clear l0; clear f1 f2 f3 f4; obtain ⟨f1, f2, f3, f4⟩ := (HU.out.below hX).cells; have l0 := (HU.out.below hX).lt; have eo0 := Nat.ne_of_lt l0; have eo0s := Nat.ne_of_gt l0)
          | (go_at_call 16; (with_reducible refine (CJ.out _).mono ?_); rintro e xj ⟨rfl, hb⟩; (first | (have z_V5 : Z4 xj V5.heap.size := z4_early (w := World.drew V5) hb; obtain ⟨ajV50, ajV51, ajV52, ajV53⟩ := Z4.cells z_V5; obtain ⟨ajV54, ajV55, ajV56, ajV57⟩ := Z4.free z_V5; have ajV5l := Z4.lt z_V5) | (have z_xo : Z4 xj xo.heap.size := z4_early (w := xo) hb; obtain ⟨ajxo0, ajxo1, ajxo2, ajxo3⟩ := Z4.cells z_xo; obtain ⟨ajxo4, ajxo5, ajxo6, ajxo7⟩ := Z4.free z_xo; have ajxol := Z4.lt z_xo) | skip); (first | (replace z_V5 := Z4.below z_V5 hb; obtain ⟨bjV50, bjV51, bjV52, bjV53⟩ := Z4.cells z_V5; obtain ⟨bjV54, bjV55, bjV56, bjV57⟩ := Z4.free z_V5; have bjV5l := Z4.lt z_V5) | skip); (first | (replace z_xo := Z4.below z_xo hb; obtain ⟨bjxo0, bjxo1, bjxo2, bjxo3⟩ := Z4.cells z_xo; obtain ⟨bjxo4, bjxo5, bjxo6, bjxo7⟩ := Z4.free z_xo; have bjxol := Z4.lt z_xo) | skip); replace hX := below_then (show Below V5.heap.size V5 _ by first | exact hX | exact hX.drew | exact hX.alloc hX.size _ | exact hX.drew.alloc hX.drew.size _) hb; clear hb; have s_xj : V5.heap.size ≤ xj.heap.size := hX.size; have dj0 := Nat.ne_of_lt l0; have dj0s := Nat.ne_of_gt l0; clear l0; clear f1 f2 f3 f4; obtain ⟨f1, f2, f3, f4⟩ := (HU.out.below hX).cells; have l0 := (HU.out.below hX).lt; have ej0 := Nat.ne_of_lt l0; have ej0s := Nat.ne_of_gt l0))
      all_goals
        go_wp2_with fail
        go_meet
        first
            | with_reducible exact CutPE.of hX
            | with_reducible exact CutPE.early hX (Nat.le_refl _) z_V5
            | with_reducible exact CutPE.early hX s_xo z_xo
            | with_reducible exact CutPE.early hX s_xj z_xj
    obtain ⟨bj, rfl, rfl, UJ, hb⟩ := hcut
    replace US := HU.out.below hb
    replace hB := below_then HBB.out hb
    replace UY := UY.below hb
    clear hb HU HBB CJ OF
    obtain ⟨V6, h6⟩ : ∃ x : World, x = wc := ⟨_, rfl⟩
    subst h6
    obtain ⟨x0, x1, x2, x3⟩ := US.cells
    go_wp2_with fail
    clear x0 x1 x2 x3
    refine (CR.out _).mono ?_
    rintro e e2 ⟨rfl, hb⟩
    replace US := US.below hb
    replace UY := UY.below hb
    replace UJ := UJ.below hb
    replace hB := below_then hB hb
    clear hb
    go_wp2_with fail
    have H9 := Lib.hid (And.intro US UJ)
    obtain ⟨V9, h9⟩ : ∃ x : World, x = e2 := ⟨_, rfl⟩
    subst h9
    go_cut [83] (CutG V9 false)
    case first =>
      refine wp_region_class (fun w' => Below V9.heap.size V9 w') (by kernel_rfl) (by kernel_rfl) (Below.refl _ _).drew ?_
      iterate 14
        (refine WQ.yes ?_ (by rfl) (fun w' hC => ?_) ?_
         rotate_left
         · (obtain ⟨x1, x2, x3, x4⟩ := (H9.out.1.below hC).cells
            obtain ⟨u1, u2, u3, u4⟩ := (H9.out.2.below hC).cells
            go_simp
            first
              | done
              | with_reducible rfl
              | exact ⟨rfl, rfl⟩
              | (go_at_call 11; (with_reducible exact quietA4 (OW.out _ _ _ _ _) hC))
              | (go_at_call 18; (with_reducible exact quietA4 (RJ.out _) hC)))
         (try simp only [Act.put, List.setIfInBounds_toArray, List.set_cons_zero, List.set_cons_succ]))
      refine WQ.nil ?_
      intro wz hX
      go_wp2
      go_meet
      exact CutG.of hX
    obtain ⟨rfl, hb⟩ := hcut
    replace US := US.below hb
    replace UY := UY.below hb
    replace hB := below_then hB hb
    clear hb H9 RJ
    obtain ⟨y0, y1, y2, y3⟩ := UY.cells
    rcases hm with hm | hm
    · go_wp2
      go_ret
      exact ⟨rfl, hB⟩
    · have hm1 : ¬ many < 0 := by omega
      have hm2 : many > 256 := by omega
      go_wp2
      go_ret
      exact ⟨rfl, hB⟩
  · clear way
    obtain ⟨x0, x1, x2, x3⟩ := US.cells
    go_wp2_with fail
    clear x0 x1 x2 x3
    refine (CW.out _).mono ?_
    rintro e e1 ⟨A, cap, y0, y1, rfl, hy, P, hb⟩
    replace US := US.below hb
    replace hB := below_then hB hb
    clear hb
    go_upto_region 6 with fail
    have UY := K4.new 26 e1 y0 y1 i0 i1
    have LB := below_allocs e1 (.cells #[.int .u64 y0, .int .u64 y1, .int .u64 i0, .int .u64 i1] 26)
    replace US := US.below LB
    replace P := P.below LB
    replace hB := below_then hB LB
    clear LB
    generalize e1.alloc _ = V5 at US UY hB P ⊢
    generalize e1.heap.size = cy at UY ⊢
    have HU := Lib.hid US
    have HBB := Lib.hid hB
    go_cut [10, 11] (CutPE V5 j0 j1 i0 i1 0)
    case first =>
      clear hB
      have hX : Below V5.heap.size V5 V5 := Below.refl _ _
      obtain ⟨f1, f2, f3, f4⟩ := HU.out.cells
      have l0 : cs < V5.heap.size := HU.out.lt
      go_region_held3 (fun w' => w'.cell? ⟨cs, 0, none⟩ = some (.int .u64 s0) ∧ w'.cell? ⟨cs, 1, none⟩ = some (.int .u64 s1) ∧ w'.cell? ⟨cs, 2, none⟩ = some (.int .u64 i0) ∧ w'.cell? ⟨cs, 3, none⟩ = some (.int .u64 i1)) (go_keep) (first
          | (go_at_call 17; (with_reducible refine (OF.out _).mono ?_); rintro e xo ⟨rfl, hb⟩; (first | (have z_V5 : Z4 xo V5.heap.size := z4_early (w := World.drew V5) hb; obtain ⟨aoV50, aoV51, aoV52, aoV53⟩ := Z4.cells z_V5; obtain ⟨aoV54, aoV55, aoV56, aoV57⟩ := Z4.free z_V5; have aoV5l := Z4.lt z_V5) | skip); (first | (replace z_V5 := Z4.below z_V5 hb; obtain ⟨boV50, boV51, boV52, boV53⟩ := Z4.cells z_V5; obtain ⟨boV54, boV55, boV56, boV57⟩ := Z4.free z_V5; have boV5l := Z4.lt z_V5) | skip); replace hX := below_then (show Below V5.heap.size V5 _ by first | exact hX | exact hX.drew | exact hX.alloc hX.size _ | exact hX.drew.alloc hX.drew.size _) hb; clear hb; have s_xo : V5.heap.size ≤ xo.heap.size := hX.size; have do0 := Nat.ne_of_lt l0; have do0s := Nat.ne_of_gt l0; clear l0; clear f1 f2 f3 f4; obtain ⟨f1, f2, f3, f4⟩ := (HU.out.below hX).cells; have l0 := (HU.out.below hX).lt; have eo0 := Nat.ne_of_lt l0; have eo0s := Nat.ne_of_gt l0)
          | (go_at_call 16; (with_reducible refine (CJ.out _).mono ?_); rintro e xj ⟨rfl, hb⟩; (first | (have z_V5 : Z4 xj V5.heap.size := z4_early (w := World.drew V5) hb; obtain ⟨ajV50, ajV51, ajV52, ajV53⟩ := Z4.cells z_V5; obtain ⟨ajV54, ajV55, ajV56, ajV57⟩ := Z4.free z_V5; have ajV5l := Z4.lt z_V5) | (have z_xo : Z4 xj xo.heap.size := z4_early (w := xo) hb; obtain ⟨ajxo0, ajxo1, ajxo2, ajxo3⟩ := Z4.cells z_xo; obtain ⟨ajxo4, ajxo5, ajxo6, ajxo7⟩ := Z4.free z_xo; have ajxol := Z4.lt z_xo) | skip); (first | (replace z_V5 := Z4.below z_V5 hb; obtain ⟨bjV50, bjV51, bjV52, bjV53⟩ := Z4.cells z_V5; obtain ⟨bjV54, bjV55, bjV56, bjV57⟩ := Z4.free z_V5; have bjV5l := Z4.lt z_V5) | skip); (first | (replace z_xo := Z4.below z_xo hb; obtain ⟨bjxo0, bjxo1, bjxo2, bjxo3⟩ := Z4.cells z_xo; obtain ⟨bjxo4, bjxo5, bjxo6, bjxo7⟩ := Z4.free z_xo; have bjxol := Z4.lt z_xo) | skip); replace hX := below_then (show Below V5.heap.size V5 _ by first | exact hX | exact hX.drew | exact hX.alloc hX.size _ | exact hX.drew.alloc hX.drew.size _) hb; clear hb; have s_xj : V5.heap.size ≤ xj.heap.size := hX.size; have dj0 := Nat.ne_of_lt l0; have dj0s := Nat.ne_of_gt l0; clear l0; clear f1 f2 f3 f4; obtain ⟨f1, f2, f3, f4⟩ := (HU.out.below hX).cells; have l0 := (HU.out.below hX).lt; have ej0 := Nat.ne_of_lt l0; have ej0s := Nat.ne_of_gt l0))
      all_goals
        go_wp2_with fail
        go_meet
        first
            | with_reducible exact CutPE.of hX
            | with_reducible exact CutPE.early hX (Nat.le_refl _) z_V5
            | with_reducible exact CutPE.early hX s_xo z_xo
            | with_reducible exact CutPE.early hX s_xj z_xj
    obtain ⟨bj, rfl, rfl, UJ, hb⟩ := hcut
    replace US := HU.out.below hb
    replace hB := below_then HBB.out hb
    replace UY := UY.below hb
    replace P := P.below hb
    clear hb HU HBB CJ OF
    obtain ⟨V6, h6⟩ : ∃ x : World, x = wc := ⟨_, rfl⟩
    subst h6
    obtain ⟨x0, x1, x2, x3⟩ := US.cells
    go_wp2_with fail
    clear x0 x1 x2 x3
    refine (CR.out _).mono ?_
    rintro e e2 ⟨rfl, hb⟩
    replace US := US.below hb
    replace UY := UY.below hb
    replace UJ := UJ.below hb
    replace P := P.below hb
    replace hB := below_then hB hb
    clear hb
    go_wp2_with fail
    have H9 := Lib.hid (And.intro US UJ)
    obtain ⟨V9, h9⟩ : ∃ x : World, x = e2 := ⟨_, rfl⟩
    subst h9
    go_cut [83] (CutG V9 false)
    case first =>
      refine wp_region_class (fun w' => Below V9.heap.size V9 w') (by kernel_rfl) (by kernel_rfl) (Below.refl _ _).drew ?_
      iterate 14
        (refine WQ.yes ?_ (by rfl) (fun w' hC => ?_) ?_
         rotate_left
         · (obtain ⟨x1, x2, x3, x4⟩ := (H9.out.1.below hC).cells
            obtain ⟨u1, u2, u3, u4⟩ := (H9.out.2.below hC).cells
            go_simp
            first
              | done
              | with_reducible rfl
              | exact ⟨rfl, rfl⟩
              | (go_at_call 11; (with_reducible exact quietA4 (OW.out _ _ _ _ _) hC))
              | (go_at_call 18; (with_reducible exact quietA4 (RJ.out _) hC)))
         (try simp only [Act.put, List.setIfInBounds_toArray, List.set_cons_zero, List.set_cons_succ]))
      refine WQ.nil ?_
      intro wz hX
      go_wp2
      go_meet
      exact CutG.of hX
    obtain ⟨rfl, hb⟩ := hcut
    replace US := US.below hb
    replace UY := UY.below hb
    replace P := P.below hb
    replace hB := below_then hB hb
    clear hb H9 RJ
    have h0 : ¬ ((k : Int) < 0) := by omega
    have h1 : ¬ ((k : Int) > 256) := by omega
    obtain ⟨V, hV⟩ : ∃ V : World, V = wc := ⟨_, rfl⟩
    subst hV
    have HG := Lib.hid (GrowW.start V)
    have LB := below_allocs V (.cells #[] 22)
    have HP := Lib.hid (And.intro P (And.intro UY hB))
    have USb := US.below LB
    obtain ⟨x0, x1, x2, x3⟩ := USb.cells
    clear USb
    go_wp2_with fail
    clear x0 x1 x2 x3
    refine (OW.out _ _ _ _ _).mono ?_
    rintro e e3 ⟨rfl, hb⟩
    have HG2 := Lib.hid (And.intro (HG.out.far hb) (Nat.le_trans LB.size hb.size))
    clear HG LB hb UJ
    go_upto_region 14 with fail
    have L0 := Lib.hid (LP.of (HG2.out.1.far (below_allocs e3 (.cells #[.int .u64 s0, .int .u64 s1, .int .u64 i0, .int .u64 i1] 33))) (K4.new 33 e3 s0 s1 i0 i1) HG2.out.2)
    generalize e3.alloc _ = V4 at L0 ⊢
    generalize e3.heap.size = cb at L0 ⊢
    clear HG2 US P UY hB
    obtain ⟨i_0, hi, hz0, hz1, hz2⟩ := info_parts infoW
    have HI := Lib.hid hi
    have HZ0 := Lib.hid hz0
    have HZ1 := Lib.hid hz1
    have HZ2 := Lib.hid hz2
    clear hi hz0 hz1 hz2
    go_wp2_with fail
    go_loopg [12, 120] k (fun g v z wr => ∃ (j : Nat) (p q : Int), j + g = k ∧ z = .int .i64 (j : Int) ∧ Hid (st j p q) ∧ Hid (LP V v cb (row j) p q i0 i1 wr))
    case atStart => exact ⟨0, s0, s1, by omega, rfl, Lib.hid st0.out, by rw [row0.out]; exact L0⟩
    case round =>
      obtain ⟨j, p, q, hg, rfl, hs, L⟩ := hrel
      clear L0
      by_cases hlt : j < k
      · have pl : (j : Int) < (k : Int) := by omega
        obtain ⟨X, hX, HW, p', q', hs', CS', er⟩ := NX.out j p q hs.out
        have HW := Lib.hid HW
        have CS' := Lib.hid CS'
        have HS' := Lib.hid hs'
        have ER := Lib.hid er
        have LU := Lib.hid (rlen.out j)
        have kb : j ≤ 900000 := by omega
        clear hs' er hs
        generalize row j = us at L LU ER
        have BX := L.out.bx
        obtain ⟨x0, x1, x2, x3⟩ := BX.cells
        clear BX
        go_wp2_with fail
        clear x0 x1 x2 x3
        refine (HW.out _).mono ?_
        rintro e g1 ⟨rfl, hb⟩
        have L1 := Lib.hid (L.out.far hb)
        clear hb L
        have SZ1 := L1.out.below.size
        go_wp2_with (first
          | (at_builtin; refine wpList_append_own _ rfl _ _ 38 rfl V.heap.size 22 i_0 (.int .u64 0) 1 8 Try.underlying38 HI.out HZ0.out HZ1.out HZ2.out rfl (by decide) _ _ _ rfl (owns_below L1.out.ow (below_alloc (Below.refl _ _) _)) ⟨g1.heap.size, 0, none⟩ 1 1 [.int .u64 (X : Int)] rfl rfl (new1 g1 _ _) (by simp [Value.oneCell']) (by rw [LU.out]; unfold maxLen; omega) (by rw [LU.out]; omega) (by simp; omega) ?_; intro v5 g2 hown hgrow _; have L2 := Lib.hid ((L1.out.far (w' := g1.alloc _) (below_alloc (Below.refl _ _) (.cells #[.int .u64 (X : Int)] 22))).word X hX hown hgrow); clear hown hgrow L1 SZ1; obtain ⟨x0, x1, x2, x3⟩ := L2.out.bx.cells)
          | fail)
        refine (CS'.out _).mono ?_
        rintro e g4 ⟨rfl, hb⟩
        have L4 := Lib.hid (L2.out.far hb)
        clear hb L2
        clear x0 x1 x2 x3
        have BX := L4.out.bx
        obtain ⟨x0, x1, x2, x3⟩ := BX.cells
        obtain ⟨f0, f1, f2, f3⟩ := BX.free
        clear BX
        go_wp2_with fail
        go_roundg (gk - 1)
        case measure => omega
        case rel => exact ⟨j + 1, p', q', by omega, by go_num, HS', by rw [ER.out]; exact Lib.hid (L4.out.put p' q' i0 i1)⟩
      · obtain rfl : j = k := by omega
        have pl : ¬ ((j : Int) < (j : Int)) := by omega
        obtain ⟨ep, eq⟩ := un.out _ p q y0 y1 hs.out hy
        subst ep eq
        have LU := Lib.hid (rlen.out j)
        generalize row j = us at L LU HP
        obtain ⟨A2, c2, rfl, P2⟩ := Pol.of_owns L.out.wd L.out.ow
        have HE := Lib.hid (And.intro (HP.out.1.below L.out.below) (And.intro (HP.out.2.1.below L.out.below) (And.intro L.out.bx (And.intro P2 (below_then HP.out.2.2 L.out.below)))))
        clear L HP P2 hs
        have hle : us.length ≤ 50000 := by rw [LU.out]; omega
        obtain ⟨V7, h7⟩ : ∃ x : World, x = wr := ⟨_, rfl⟩
        subst h7
        rw [← LU.out] at *
        go_wp2_with fail
        refine wp_region_class (fun w' => Below V7.heap.size V7 w') (by kernel_rfl) (by kernel_rfl) (Below.refl _ _).drew ?_
        iterate 14
          (refine WQ.yes ?_ (by rfl) (fun w' hC => ?_) ?_
           rotate_left
           · (obtain ⟨x1, x2, x3, x4⟩ := (HE.out.2.1.below hC).cells
              obtain ⟨u1, u2, u3, u4⟩ := (HE.out.2.2.1.below hC).cells
              go_simp
              first
                | done
                | with_reducible rfl
                | exact ⟨rfl, rfl⟩
                | (go_at_call 11; (with_reducible exact quietA4 (OW.out _ _ _ _ _) hC))
                | (go_at_call 19; (exact quietB (gWords true (HE.out.1.below hC) (HE.out.2.2.2.1.below hC) rfl rfl (sameL_self _) hle) hC)))
           (try simp only [Act.put, List.setIfInBounds_toArray, List.set_cons_zero, List.set_cons_succ]))
        refine WQ.nil ?_
        intro wz hX
        go_wp2
        go_ret
        exact ⟨rfl, below_then HE.out.2.2.2.2 hX⟩
end Go.Proofs.Ythnmekieanndgaa
