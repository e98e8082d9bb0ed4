/-
  awake of layer 10's statements answers true, from what pcg's calls answer. Made by wip/gen/pcgawake.py.
-/
import Derived.Test.YthnmekieanndgaaPcgT
namespace Go.Proofs.Ythnmekieanndgaa
open Go.RowKit G
set_option linter.unusedVariables false
set_option maxRecDepth 100000

set_option maxHeartbeats 16000000 in
theorem awake10Main (w : World)
    (O1 : Hid (TN 17 #[.int .u64 1] 0 1))
    (O2 : Hid (TN 17 #[.int .u64 2] 0 2))
    (O4 : Hid (TN 17 #[.int .u64 4] 0 4))
    (OG : Hid (TN 17 #[.int .u64 15750249268501108918] 0 15750249268501108918))
    (OF : Hid (TN 17 #[.int .u64 15750249268501108917] 0 15750249268501108917))
    (CS : Hid (TM 12 #[.agg #[.int .u64 0, .int .u64 0, .int .u64 0, .int .u64 1]] 0 1 0 1))
    (W2 : Hid (∀ W, Calls Try.prog 15 #[.agg #[.int .u64 0, .int .u64 0, .int .u64 0, .int .u64 1], .int .i64 2] W (fun e w' => ∃ (A : Option Addr) (cap : Nat), e = .returned (.tuple #[.slice A 2 cap, .agg #[.int .u64 0, .int .u64 15750249268501108918, .int .u64 0, .int .u64 1], .int .i64 0]) ∧ Pol w' A cap [0, 0] ∧ Below W.heap.size W w')))
    (W0 : Hid (∀ W, Calls Try.prog 15 #[.agg #[.int .u64 0, .int .u64 0, .int .u64 0, .int .u64 0], .int .i64 999] W (NoP 3 W)))
    (W1 : Hid (∀ W, Calls Try.prog 15 #[.agg #[.int .u64 0, .int .u64 0, .int .u64 0, .int .u64 1], .int .i64 257] W (NoP 1 W)))
    (J : Hid (TP 16 #[.agg #[.int .u64 0, .int .u64 0, .int .u64 0, .int .u64 1], .agg #[.int .u64 0, .int .u64 2]] 0 15750249268501108918 0 1 0)) (JN : Hid (TP 16 #[.agg #[.int .u64 0, .int .u64 0, .int .u64 0, .int .u64 4], .agg #[.int .u64 0, .int .u64 2]] 0 0 0 0 3))
    (CB : Hid (TM 22 #[.agg #[.int .u64 0, .int .u64 1, .int .u64 0, .int .u64 1]] 0 0 0 1)) (CU : Hid (TU 9 #[.agg #[.int .u64 1, .int .u64 2, .int .u64 0, .int .u64 0]] 10357259658084255331))
    (CR : Hid (TB 14 #[.agg #[.int .u64 0, .int .u64 0, .int .u64 0, .int .u64 1]] true)) (CM : Hid (TM 24 #[.agg #[.int .u64 0, .int .u64 0, .int .u64 0, .int .u64 1]] 0 15750249268501108917 0 1)) :
    Calls Try.prog 8 #[] w (Bl true w) := by
  have hB : Below w.heap.size w w := Below.refl _ _
  go_enter Try.func8, Try.ntmps8
  go_wp2_with fail
  refine (O1.out _).mono ?_
  rintro e e0 ⟨rfl, hb⟩
  replace hB := below_then hB hb
  clear hb
  go_upto_region 2 with fail
  have US := K4.new 26 e0 0 0 0 1
  have LB := below_allocs e0 (.cells #[.int .u64 0, .int .u64 0, .int .u64 0, .int .u64 1] 26)
  replace hB := below_then hB LB
  clear LB
  generalize e0.alloc _ = V1 at US hB ⊢
  generalize e0.heap.size = cs at US ⊢
  obtain ⟨x1, x2, x3, x4⟩ := US.cells
  go_wp2_with fail
  clear x1 x2 x3 x4
  refine (CS.out _).mono ?_
  rintro e e1 ⟨rfl, hb⟩
  replace US := US.below hb
  replace hB := below_then hB hb
  clear hb
  go_upto_region 3 with fail
  have UN := K4.new 26 e1 0 1 0 1
  have LB := below_allocs e1 (.cells #[.int .u64 0, .int .u64 1, .int .u64 0, .int .u64 1] 26)
  replace US := US.below LB
  replace hB := below_then hB LB
  clear LB
  generalize e1.alloc _ = V2 at US UN hB ⊢
  generalize e1.heap.size = cn at UN ⊢
  obtain ⟨x1, x2, x3, x4⟩ := US.cells
  go_wp2_with fail
  clear x1 x2 x3 x4
  refine (W2.out _).mono ?_
  rintro e e2 ⟨A, cap, rfl, P, hb⟩
  replace US := US.below hb
  replace UN := UN.below hb
  replace hB := below_then hB hb
  clear hb
  obtain ⟨V3, h3⟩ : ∃ x : World, x = e2 := ⟨_, rfl⟩
  subst h3
  go_upto_region 4 with fail
  have UB := K4.new 26 V3 0 15750249268501108918 0 1
  have LB := below_allocs V3 (.cells #[.int .u64 0, .int .u64 15750249268501108918, .int .u64 0, .int .u64 1] 26)
  replace US := US.below LB
  replace UN := UN.below LB
  replace P := P.below LB
  replace hB := below_then hB LB
  clear LB
  generalize V3.alloc _ = V4 at US UN P UB hB ⊢
  generalize V3.heap.size = cb at UB ⊢
  go_wp2_with fail
  refine (W0.out _).mono ?_
  rintro e e3 ⟨rfl, hb⟩
  replace US := US.below hb
  replace UN := UN.below hb
  replace P := P.below hb
  replace UB := UB.below hb
  replace hB := below_then hB hb
  clear hb
  go_upto_region 5 with fail
  have LB := below_allocs e3 (.cells #[.int .u64 0, .int .u64 0, .int .u64 0, .int .u64 0] 26)
  replace US := US.below LB
  replace UN := UN.below LB
  replace P := P.below LB
  replace UB := UB.below LB
  replace hB := below_then hB LB
  clear LB
  generalize e3.alloc _ = V5 at US UN P UB hB ⊢
  obtain ⟨x1, x2, x3, x4⟩ := US.cells
  go_wp2_with fail
  clear x1 x2 x3 x4
  refine (W1.out _).mono ?_
  rintro e e4 ⟨rfl, hb⟩
  replace US := US.below hb
  replace UN := UN.below hb
  replace P := P.below hb
  replace UB := UB.below hb
  replace hB := below_then hB hb
  clear hb
  go_upto_region 6 with fail
  have LB := below_allocs e4 (.cells #[.int .u64 0, .int .u64 0, .int .u64 0, .int .u64 0] 26)
  replace US := US.below LB
  replace UN := UN.below LB
  replace P := P.below LB
  replace UB := UB.below LB
  replace hB := below_then hB LB
  clear LB
  generalize e4.alloc _ = V9 at US UN P UB hB ⊢
  have HU := Lib.hid US
  have HBB := Lib.hid hB
  go_cut [12, 13] (CutPE V9 0 15750249268501108918 0 1 0)
  case first =>
    clear hB
    have hX : Below V9.heap.size V9 V9 := Below.refl _ _
    obtain ⟨f1, f2, f3, f4⟩ := HU.out.cells
    have l0 : cs < V9.heap.size := HU.out.lt
    go_region_held3 (fun w' => w'.cell? ⟨cs, 0, none⟩ = some (.int .u64 0) ∧ w'.cell? ⟨cs, 1, none⟩ = some (.int .u64 0) ∧ w'.cell? ⟨cs, 2, none⟩ = some (.int .u64 0) ∧ w'.cell? ⟨cs, 3, none⟩ = some (.int .u64 1)) (go_keep) (first
        | (go_at_call 17; (with_reducible refine (O2.out _).mono ?_); rintro e xo ⟨rfl, hb⟩; (first | (have z_V9 : Z4 xo V9.heap.size := z4_early (w := World.drew V9) hb; obtain ⟨aoV90, aoV91, aoV92, aoV93⟩ := Z4.cells z_V9; obtain ⟨aoV94, aoV95, aoV96, aoV97⟩ := Z4.free z_V9; have aoV9l := Z4.lt z_V9) | skip); (first | (replace z_V9 := Z4.below z_V9 hb; obtain ⟨boV90, boV91, boV92, boV93⟩ := Z4.cells z_V9; obtain ⟨boV94, boV95, boV96, boV97⟩ := Z4.free z_V9; have boV9l := Z4.lt z_V9) | skip); replace hX := below_then (show Below V9.heap.size V9 _ by first | exact hX | exact hX.drew | exact hX.alloc hX.size _ | exact hX.drew.alloc hX.drew.size _) hb; clear hb; have s_xo : V9.heap.size ≤ xo.heap.size := hX.size; have do0 := Nat.ne_of_lt l0; have do0s := Nat.ne_of_gt l0; clear l0; clear f1 f2 f3 f4; obtain ⟨f1, f2, f3, f4⟩ := (HU.out.below hX).cells; have l0 := (HU.out.below hX).lt; have eo0 := Nat.ne_of_lt l0; have eo0s := Nat.ne_of_gt l0)
        | (go_at_call 16; (with_reducible refine (J.out _).mono ?_); rintro e xj ⟨rfl, hb⟩; (first | (have z_V9 : Z4 xj V9.heap.size := z4_early (w := World.drew V9) hb; obtain ⟨ajV90, ajV91, ajV92, ajV93⟩ := Z4.cells z_V9; obtain ⟨ajV94, ajV95, ajV96, ajV97⟩ := Z4.free z_V9; have ajV9l := Z4.lt z_V9) | (have z_xo : Z4 xj xo.heap.size := z4_early (w := xo) hb; obtain ⟨ajxo0, ajxo1, ajxo2, ajxo3⟩ := Z4.cells z_xo; obtain ⟨ajxo4, ajxo5, ajxo6, ajxo7⟩ := Z4.free z_xo; have ajxol := Z4.lt z_xo) | skip); (first | (replace z_V9 := Z4.below z_V9 hb; obtain ⟨bjV90, bjV91, bjV92, bjV93⟩ := Z4.cells z_V9; obtain ⟨bjV94, bjV95, bjV96, bjV97⟩ := Z4.free z_V9; have bjV9l := Z4.lt z_V9) | skip); (first | (replace z_xo := Z4.below z_xo hb; obtain ⟨bjxo0, bjxo1, bjxo2, bjxo3⟩ := Z4.cells z_xo; obtain ⟨bjxo4, bjxo5, bjxo6, bjxo7⟩ := Z4.free z_xo; have bjxol := Z4.lt z_xo) | skip); replace hX := below_then (show Below V9.heap.size V9 _ by first | exact hX | exact hX.drew | exact hX.alloc hX.size _ | exact hX.drew.alloc hX.drew.size _) hb; clear hb; have s_xj : V9.heap.size ≤ xj.heap.size := hX.size; have dj0 := Nat.ne_of_lt l0; have dj0s := Nat.ne_of_gt l0; clear l0; clear f1 f2 f3 f4; obtain ⟨f1, f2, f3, f4⟩ := (HU.out.below hX).cells; have l0 := (HU.out.below hX).lt; have ej0 := Nat.ne_of_lt l0; have ej0s := Nat.ne_of_gt l0))
    all_goals
      go_wp2_with fail
      go_meet
      first
          | with_reducible exact CutPE.of hX
          | with_reducible exact CutPE.early hX (Nat.le_refl _) z_V9
          | with_reducible exact CutPE.early hX s_xo z_xo
          | with_reducible exact CutPE.early hX s_xj z_xj
  obtain ⟨bj, rfl, rfl, UJ, hb⟩ := hcut
  replace US := HU.out.below hb
  replace hB := below_then HBB.out hb
  replace UN := UN.below hb
  replace UB := UB.below hb
  replace P := P.below hb
  clear hb HU HBB J
  obtain ⟨V10, h10⟩ : ∃ x : World, x = wc := ⟨_, rfl⟩
  subst h10
  go_wp2_with fail
  refine (O4.out _).mono ?_
  rintro e e5 ⟨rfl, hb⟩
  replace US := US.below hb
  replace UN := UN.below hb
  replace P := P.below hb
  replace UB := UB.below hb
  replace UJ := UJ.below hb
  replace hB := below_then hB hb
  clear hb
  go_wp2_with fail
  refine (O2.out _).mono ?_
  rintro e e6 ⟨rfl, hb⟩
  replace US := US.below hb
  replace UN := UN.below hb
  replace P := P.below hb
  replace UB := UB.below hb
  replace UJ := UJ.below hb
  replace hB := below_then hB hb
  clear hb
  go_wp2_with fail
  refine (JN.out _).mono ?_
  rintro e e7 ⟨rfl, hb⟩
  replace US := US.below hb
  replace UN := UN.below hb
  replace P := P.below hb
  replace UB := UB.below hb
  replace UJ := UJ.below hb
  replace hB := below_then hB hb
  clear hb
  go_upto_region 8 with fail
  have LB := below_allocs e7 (.cells #[.int .u64 0, .int .u64 0, .int .u64 0, .int .u64 0] 26)
  replace US := US.below LB
  replace UN := UN.below LB
  replace P := P.below LB
  replace UB := UB.below LB
  replace UJ := UJ.below LB
  replace hB := below_then hB LB
  clear LB
  generalize e7.alloc _ = e9 at US UN P UB UJ hB ⊢
  have H1 := Lib.hid US
  have H2 := Lib.hid UN
  have H3 := Lib.hid UB
  have H4 := Lib.hid UJ
  have H5 := Lib.hid P
  have LL : Hid (([0, 0] : List Nat).length = 2) := Lib.hid rfl
  have LS : Hid (sameL [0, 0] [0, 0] = true) := Lib.hid (by decide)
  have HB := Lib.hid hB
  clear US UN UB UJ P hB W2 W1 W0 CS JN
  try dsimp only [List.append]
  go_cut [0] (CutG e9 true)
  case first =>
    have fX : Below e9.heap.size e9 e9 := Below.refl _ _
    obtain ⟨k10, k11, k12, k13⟩ := (H1.out.below fX).cells; have su1 := (H1.out.below fX).lt; obtain ⟨k20, k21, k22, k23⟩ := (H2.out.below fX).cells; have su2 := (H2.out.below fX).lt; obtain ⟨k30, k31, k32, k33⟩ := (H3.out.below fX).cells; have su3 := (H3.out.below fX).lt; obtain ⟨k40, k41, k42, k43⟩ := (H4.out.below fX).cells; have su4 := (H4.out.below fX).lt
    go_region_held3 (fun w' => (w'.cell? ⟨cs, 0, none⟩ = some (.int .u64 0) ∧ w'.cell? ⟨cs, 1, none⟩ = some (.int .u64 0) ∧ w'.cell? ⟨cs, 2, none⟩ = some (.int .u64 0) ∧ w'.cell? ⟨cs, 3, none⟩ = some (.int .u64 1)) ∧ (w'.cell? ⟨cn, 0, none⟩ = some (.int .u64 0) ∧ w'.cell? ⟨cn, 1, none⟩ = some (.int .u64 1) ∧ w'.cell? ⟨cn, 2, none⟩ = some (.int .u64 0) ∧ w'.cell? ⟨cn, 3, none⟩ = some (.int .u64 1)) ∧ (w'.cell? ⟨cb, 0, none⟩ = some (.int .u64 0) ∧ w'.cell? ⟨cb, 1, none⟩ = some (.int .u64 15750249268501108918) ∧ w'.cell? ⟨cb, 2, none⟩ = some (.int .u64 0) ∧ w'.cell? ⟨cb, 3, none⟩ = some (.int .u64 1)) ∧ (w'.cell? ⟨bj, 0, none⟩ = some (.int .u64 0) ∧ w'.cell? ⟨bj, 1, none⟩ = some (.int .u64 15750249268501108918) ∧ w'.cell? ⟨bj, 2, none⟩ = some (.int .u64 0) ∧ w'.cell? ⟨bj, 3, none⟩ = some (.int .u64 1))) (go_keep) (first
      | (go_at_call 17; (first | (with_reducible refine (O1.out _).mono ?_) | (with_reducible refine (O2.out _).mono ?_) | (with_reducible refine (O4.out _).mono ?_) | (with_reducible refine (OG.out _).mono ?_) | (with_reducible refine (OF.out _).mono ?_)); rintro e x1 ⟨rfl, hb⟩; clear k10 k11 k12 k13 su1 k20 k21 k22 k23 su2 k30 k31 k32 k33 su3 k40 k41 k42 k43 su4; replace fX := below_then (by first | exact fX | exact fX.drew | exact fX.alloc fX.size _ | exact fX.drew.alloc fX.drew.size _) hb; clear hb; obtain ⟨k10, k11, k12, k13⟩ := (H1.out.below fX).cells; have su1 := (H1.out.below fX).lt; obtain ⟨k20, k21, k22, k23⟩ := (H2.out.below fX).cells; have su2 := (H2.out.below fX).lt; obtain ⟨k30, k31, k32, k33⟩ := (H3.out.below fX).cells; have su3 := (H3.out.below fX).lt; obtain ⟨k40, k41, k42, k43⟩ := (H4.out.below fX).cells; have su4 := (H4.out.below fX).lt; skip)
      | (go_at_call 19; (first | (with_reducible refine (gWords true (H5.out.below (by first | exact fX | exact fX.drew | exact fX.alloc fX.size _ | exact fX.drew.alloc fX.drew.size _)) (pol2 _ 0 0 0 0 rfl rfl (by decide) (by decide)) LL.out LL.out LS.out (by decide)).mono ?_)); rintro e x1 ⟨rfl, hb⟩; clear k10 k11 k12 k13 su1 k20 k21 k22 k23 su2 k30 k31 k32 k33 su3 k40 k41 k42 k43 su4; replace fX := below_then (by first | exact fX | exact fX.drew | exact fX.alloc fX.size _ | exact fX.drew.alloc fX.drew.size _) hb; clear hb; obtain ⟨k10, k11, k12, k13⟩ := (H1.out.below fX).cells; have su1 := (H1.out.below fX).lt; obtain ⟨k20, k21, k22, k23⟩ := (H2.out.below fX).cells; have su2 := (H2.out.below fX).lt; obtain ⟨k30, k31, k32, k33⟩ := (H3.out.below fX).cells; have su3 := (H3.out.below fX).lt; obtain ⟨k40, k41, k42, k43⟩ := (H4.out.below fX).cells; have su4 := (H4.out.below fX).lt; skip)
      | (go_at_call 22; (first | (with_reducible refine (CB.out _).mono ?_)); rintro e x1 ⟨rfl, hb⟩; clear k10 k11 k12 k13 su1 k20 k21 k22 k23 su2 k30 k31 k32 k33 su3 k40 k41 k42 k43 su4; replace fX := below_then (by first | exact fX | exact fX.drew | exact fX.alloc fX.size _ | exact fX.drew.alloc fX.drew.size _) hb; clear hb; obtain ⟨k10, k11, k12, k13⟩ := (H1.out.below fX).cells; have su1 := (H1.out.below fX).lt; obtain ⟨k20, k21, k22, k23⟩ := (H2.out.below fX).cells; have su2 := (H2.out.below fX).lt; obtain ⟨k30, k31, k32, k33⟩ := (H3.out.below fX).cells; have su3 := (H3.out.below fX).lt; obtain ⟨k40, k41, k42, k43⟩ := (H4.out.below fX).cells; have su4 := (H4.out.below fX).lt; skip)
      | (go_at_call 9; (first | (with_reducible refine (CU.out _).mono ?_)); rintro e x1 ⟨rfl, hb⟩; clear k10 k11 k12 k13 su1 k20 k21 k22 k23 su2 k30 k31 k32 k33 su3 k40 k41 k42 k43 su4; replace fX := below_then (by first | exact fX | exact fX.drew | exact fX.alloc fX.size _ | exact fX.drew.alloc fX.drew.size _) hb; clear hb; obtain ⟨k10, k11, k12, k13⟩ := (H1.out.below fX).cells; have su1 := (H1.out.below fX).lt; obtain ⟨k20, k21, k22, k23⟩ := (H2.out.below fX).cells; have su2 := (H2.out.below fX).lt; obtain ⟨k30, k31, k32, k33⟩ := (H3.out.below fX).cells; have su3 := (H3.out.below fX).lt; obtain ⟨k40, k41, k42, k43⟩ := (H4.out.below fX).cells; have su4 := (H4.out.below fX).lt; skip)
      | (go_at_call 14; (first | (with_reducible refine (CR.out _).mono ?_)); rintro e x1 ⟨rfl, hb⟩; clear k10 k11 k12 k13 su1 k20 k21 k22 k23 su2 k30 k31 k32 k33 su3 k40 k41 k42 k43 su4; replace fX := below_then (by first | exact fX | exact fX.drew | exact fX.alloc fX.size _ | exact fX.drew.alloc fX.drew.size _) hb; clear hb; obtain ⟨k10, k11, k12, k13⟩ := (H1.out.below fX).cells; have su1 := (H1.out.below fX).lt; obtain ⟨k20, k21, k22, k23⟩ := (H2.out.below fX).cells; have su2 := (H2.out.below fX).lt; obtain ⟨k30, k31, k32, k33⟩ := (H3.out.below fX).cells; have su3 := (H3.out.below fX).lt; obtain ⟨k40, k41, k42, k43⟩ := (H4.out.below fX).cells; have su4 := (H4.out.below fX).lt; skip)
      | (go_at_call 24; (first | (with_reducible refine (CM.out _).mono ?_)); rintro e x1 ⟨rfl, hb⟩; clear k10 k11 k12 k13 su1 k20 k21 k22 k23 su2 k30 k31 k32 k33 su3 k40 k41 k42 k43 su4; replace fX := below_then (by first | exact fX | exact fX.drew | exact fX.alloc fX.size _ | exact fX.drew.alloc fX.drew.size _) hb; clear hb; obtain ⟨k10, k11, k12, k13⟩ := (H1.out.below fX).cells; have su1 := (H1.out.below fX).lt; obtain ⟨k20, k21, k22, k23⟩ := (H2.out.below fX).cells; have su2 := (H2.out.below fX).lt; obtain ⟨k30, k31, k32, k33⟩ := (H3.out.below fX).cells; have su3 := (H3.out.below fX).lt; obtain ⟨k40, k41, k42, k43⟩ := (H4.out.below fX).cells; have su4 := (H4.out.below fX).lt; skip))
    all_goals
      go_wp2_with fail
      go_meet
      exact CutG.of fX
  obtain ⟨rfl, hb⟩ := hcut
  have hB := below_then HB.out hb
  go_wp2
  go_ret
  exact ⟨rfl, hB⟩
def s0P : Ps := ⟨0, 1⟩
def n0P : Ps := ⟨1, 1⟩
theorem s0_ok : s0P.Ok := ⟨by decide, by decide⟩
theorem n0_ok : n0P.Ok := ⟨by decide, by decide⟩
theorem step0 : stepP s0P = n0P := Ps.same (by decide +kernel) rfl
theorem iter0 : iterP s0P 2 = ⟨15750249268501108918, 1⟩ := Ps.same (by decide +kernel) rfl
theorem row0P : rowP s0P 2 = [0, 0] := by decide +kernel
theorem word0 : wordP ⟨18446744073709551618, 0⟩ = 10357259658084255331 := by decide +kernel
theorem awake10 (X : PX) (w : World) : Calls Try.prog 8 #[] w (Bl true w) := by
  have o : s0P.I % 2 = 1 := rfl
  have jp : jumpP s0P 2 = ⟨15750249268501108918, 1⟩ := by rw [← iterP_jump s0_ok, iter0]
  have CS := fun W => X.step s0P W s0_ok
  rw [step0] at CS
  have CB := fun W => X.back n0P W n0_ok
  rw [← step0, back_step s0_ok, step0] at CB
  have J := fun W => X.jumpY s0P 0 2 2 W s0_ok o ⟨by decide, by decide, by decide, by decide, rfl⟩
  rw [jp] at J
  have CU := fun W => X.word ⟨18446744073709551618, 0⟩ W ⟨by decide, by decide⟩
  rw [word0] at CU
  have W2 := fun W => X.wordsY s0P 2 W s0_ok o (by decide)
  rw [row0P, iter0] at W2
  exact awake10Main w (Lib.hid fun W => cOf 1 1 rfl (by decide) W) (Lib.hid fun W => cOf 2 2 rfl (by decide) W) (Lib.hid fun W => cOf 4 4 rfl (by decide) W) (Lib.hid fun W => cOf 15750249268501108918 15750249268501108918 rfl (by decide) W) (Lib.hid fun W => cOf 15750249268501108917 15750249268501108917 rfl (by decide) W)
    (Lib.hid CS) (Lib.hid W2) (Lib.hid fun W => X.wordsN Ps.zero 999 W ⟨by decide, by decide⟩ rfl) (Lib.hid fun W => X.wordsA s0P 257 W s0_ok o (by decide)) (Lib.hid J)
    (Lib.hid fun W => X.jumpN ⟨0, 4⟩ 0 2 2 W ⟨by decide, by decide⟩ rfl ⟨by decide, by decide, by decide, by decide, rfl⟩) (Lib.hid CB) (Lib.hid CU) (Lib.hid fun W => X.right s0P W s0_ok) (Lib.hid fun W => X.map s0P W s0_ok)
end Go.Proofs.Ythnmekieanndgaa
