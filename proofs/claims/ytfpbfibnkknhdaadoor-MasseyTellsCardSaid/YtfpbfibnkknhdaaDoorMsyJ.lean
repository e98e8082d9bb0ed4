/-
  awake of layer 5's statements answers true. Made by wip/gen/msyawake.py.
-/
import Derived.Test.YtfpbfibnkknhdaaDoorMsyT
import Derived.Test.YtfpbfibnkknhdaaDoorMsyS
namespace Go.Proofs.YtfpbfibnkknhdaaDoor
open Go.RowKit G
set_option linter.unusedVariables false

theorem Tab.alloc {w : World} (h : Tab w) (o : Obj) : Tab (w.alloc o) := h.below (below_allocs w o)
theorem brsN (w : World) (l : List Bool) (h : l.length ≤ 9223372036854775807 := by decide) : Brs (w.alloc (.cells (l.map Value.bool).toArray 4)) (some ⟨w.heap.size, 0, none⟩) l.length l :=
  ⟨Nat.le_refl _, h, fun i hi => ⟨w.heap.size, 0, rfl, by
    rw [Nat.zero_add]
    have e := heap_alloc_new w (.cells (l.map Value.bool).toArray 4)
    simp only [World.cell?, e]
    simp [List.getD_eq_getElem?_getD, List.getElem?_eq_getElem hi]⟩⟩
theorem brA : br [false, true, true, false, true, true] = 7 := by decide +kernel
theorem brB : br [false, false, true] = 8 := by decide +kernel
theorem brC : br [false] = 1 := by decide +kernel
theorem brD : br [] = 1 := by decide +kernel
theorem gsA : (gs 7 [true, true] 2).length = 4 ∧ sameB (gs 7 [true, true] 2) [true, true, false, true] = true := by decide +kernel
theorem w7 : (wordsOf 7).length ≤ 50000 := Nat.le_trans (wl 1 (by decide)) (by decide)
theorem w1_ : (wordsOf 1).length ≤ 50000 := Nat.le_trans (wl 1 (by decide)) (by decide)
theorem rl_zero (s : Nat → Bool) (m : Nat) : false = true ↔ Rl s m 0 := ⟨fun e => (by cases e), fun h => (h.1 rfl).elim⟩
theorem rlA : true = true ↔ Rl (rw_ [false, true, true, false, true, true]) 6 7 := ⟨fun _ => by have := (br_least [false, true, true, false, true, true] 6 rfl).1; rwa [brA] at this, fun _ => rfl⟩
theorem rlB : false = true ↔ Rl (rw_ [false, true, true, false, true, true]) 6 3 := ⟨fun e => (by cases e), fun h => by
  have := h.2 0 (by decide)
  have e : od (rw_ [false, true, true, false, true, true]) 3 0 = true := by decide +kernel
  rw [e] at this; cases this⟩
theorem hmk2049 (w : World) : (Instr.makeSlice 24 (.int .i64 2049) (.int .i64 2049)).run Tryd.prog w = .ok (.slice (some ⟨w.heap.size, 0, none⟩) 2049 2049) (w.alloc (.cells (madeCells #[.bool false] 2049) 4)) :=
  run_make_row' (P := Tryd.prog) 24 4 (.bool false) 1 Tryd.underlying24 infoB rfl .i64 .i64 2049 (by decide) (by decide) w

set_option maxRecDepth 100000 in
set_option maxHeartbeats 8000000 in
theorem awake5 (w : World) (TT : Tab w) : Calls Tryd.prog 7 #[] w (Bl true w) := by
  have hmk := hmk2049
  go_enter Tryd.func7, Tryd.ntmps7
  have hB : Below w.heap.size w w := Below.refl _ _
  go_wp2_with fail
  have Bl : Brs (World.alloc w (.cells #[.bool false, .bool true, .bool true, .bool false, .bool true, .bool true] 4)) (some ⟨World.heap w |>.size, 0, none⟩) 6 [false, true, true, false, true, true] := brsN w [false, true, true, false, true, true]
  replace TT := TT.alloc (.cells #[.bool false, .bool true, .bool true, .bool false, .bool true, .bool true] 4)
  replace hB := below_alloc hB (.cells #[.bool false, .bool true, .bool true, .bool false, .bool true, .bool true] 4)
  generalize hV0 : (World.alloc w (.cells #[.bool false, .bool true, .bool true, .bool false, .bool true, .bool true] 4)) = V0 at TT Bl hB ⊢
  clear hV0
  go_wp2_with fail
  refine (gLeastYes 7 Bl TT rfl (by decide) brA (by decide)).mono ?_
  rintro e w1 ⟨A1, c1, rfl, Pp, hb⟩
  replace TT := TT.below hb
  replace Bl := Bl.below hb
  replace hB := below_then hB hb
  clear hb
  go_wp2_with fail
  have B1 : Brs (World.alloc w1 (.cells #[.bool false, .bool false, .bool true] 4)) (some ⟨World.heap w1 |>.size, 0, none⟩) 3 [false, false, true] := brsN w1 [false, false, true]
  replace TT := TT.alloc (.cells #[.bool false, .bool false, .bool true] 4)
  replace Bl := Bl.alloc (.cells #[.bool false, .bool false, .bool true] 4)
  replace Pp := Pp.alloc (.cells #[.bool false, .bool false, .bool true] 4)
  replace hB := below_alloc hB (.cells #[.bool false, .bool false, .bool true] 4)
  generalize hV1 : (World.alloc w1 (.cells #[.bool false, .bool false, .bool true] 4)) = V1 at TT Bl Pp B1 hB ⊢
  clear hV1
  go_wp2_with fail
  refine (gLeastNo B1 TT rfl (by decide) (by rw [brB]; decide)).mono ?_
  rintro e w2 ⟨rfl, hb⟩
  replace TT := TT.below hb
  replace Bl := Bl.below hb
  replace Pp := Pp.below hb
  replace B1 := B1.below hb
  replace hB := below_then hB hb
  clear hb
  clear B1
  go_wp2_with fail
  have B2 : Brs (World.alloc w2 (.cells #[.bool true, .bool true] 4)) (some ⟨World.heap w2 |>.size, 0, none⟩) 2 [true, true] := brsN w2 [true, true]
  replace TT := TT.alloc (.cells #[.bool true, .bool true] 4)
  replace Bl := Bl.alloc (.cells #[.bool true, .bool true] 4)
  replace Pp := Pp.alloc (.cells #[.bool true, .bool true] 4)
  replace hB := below_alloc hB (.cells #[.bool true, .bool true] 4)
  generalize hV2 : (World.alloc w2 (.cells #[.bool true, .bool true] 4)) = V2 at TT Bl Pp B2 hB ⊢
  clear hV2
  go_wp2_with fail
  refine (gGoes 7 2 4 Pp B2 TT rfl (leN_wordsOf 7) rfl w7 (by decide) (by decide) (by decide) (by decide) rfl).mono ?_
  rintro e w3 ⟨A3, c3, rfl, Bg, hb⟩
  replace TT := TT.below hb
  replace Bl := Bl.below hb
  replace Pp := Pp.below hb
  replace B2 := B2.below hb
  replace hB := below_then hB hb
  clear hb
  clear B2
  go_wp2_with fail
  have P1 := pol1 w3 1 1 rfl (by decide)
  replace TT := TT.alloc (.cells #[.int .u64 1] 50)
  replace Bl := Bl.alloc (.cells #[.int .u64 1] 50)
  replace Pp := Pp.alloc (.cells #[.int .u64 1] 50)
  replace Bg := Bg.alloc (.cells #[.int .u64 1] 50)
  replace hB := below_alloc hB (.cells #[.int .u64 1] 50)
  generalize hV3 : (World.alloc w3 (.cells #[.int .u64 1] 50)) = V3 at TT Bl Pp Bg P1 hB ⊢
  clear hV3
  go_wp2_with fail
  refine (gGoesZero 0 P1 rfl (by decide) (by decide)).mono ?_
  rintro e w4 ⟨rfl, hb⟩
  replace TT := TT.below hb
  replace Bl := Bl.below hb
  replace Pp := Pp.below hb
  replace Bg := Bg.below hb
  replace P1 := P1.below hb
  replace hB := below_then hB hb
  clear hb
  clear P1
  go_wp2_with fail
  have P4 := pol1 w4 4 4 rfl (by decide)
  replace TT := TT.alloc (.cells #[.int .u64 4] 50)
  replace Bl := Bl.alloc (.cells #[.int .u64 4] 50)
  replace Pp := Pp.alloc (.cells #[.int .u64 4] 50)
  replace Bg := Bg.alloc (.cells #[.int .u64 4] 50)
  replace hB := below_alloc hB (.cells #[.int .u64 4] 50)
  have B3 : Brs (World.alloc (World.alloc w4 (.cells #[.int .u64 4] 50)) (.cells #[.bool true] 4)) (some ⟨World.heap (World.alloc w4 (.cells #[.int .u64 4] 50)) |>.size, 0, none⟩) 1 [true] := brsN (World.alloc w4 (.cells #[.int .u64 4] 50)) [true]
  replace TT := TT.alloc (.cells #[.bool true] 4)
  replace Bl := Bl.alloc (.cells #[.bool true] 4)
  replace Pp := Pp.alloc (.cells #[.bool true] 4)
  replace Bg := Bg.alloc (.cells #[.bool true] 4)
  replace P4 := P4.alloc (.cells #[.bool true] 4)
  replace hB := below_alloc hB (.cells #[.bool true] 4)
  simp only [World.size_alloc] at B3
  generalize hV4 : (World.alloc (World.alloc w4 (.cells #[.int .u64 4] 50)) (.cells #[.bool true] 4)) = V4 at TT Bl Pp Bg P4 B3 hB ⊢
  clear hV4
  go_wp2_with fail
  refine (gGoesArg 0 P4 rfl (by decide) (by decide) (.inl (by decide))).mono ?_
  rintro e w5 ⟨rfl, hb⟩
  replace TT := TT.below hb
  replace Bl := Bl.below hb
  replace Pp := Pp.below hb
  replace Bg := Bg.below hb
  replace P4 := P4.below hb
  replace B3 := B3.below hb
  replace hB := below_then hB hb
  clear hb
  clear P4
  clear B3
  go_wp2_with fail
  have B4 : Brs (World.alloc w5 (.cells #[.bool false] 4)) (some ⟨World.heap w5 |>.size, 0, none⟩) 1 [false] := brsN w5 [false]
  replace TT := TT.alloc (.cells #[.bool false] 4)
  replace Bl := Bl.alloc (.cells #[.bool false] 4)
  replace Pp := Pp.alloc (.cells #[.bool false] 4)
  replace Bg := Bg.alloc (.cells #[.bool false] 4)
  replace hB := below_alloc hB (.cells #[.bool false] 4)
  generalize hV5 : (World.alloc w5 (.cells #[.bool false] 4)) = V5 at TT Bl Pp Bg B4 hB ⊢
  clear hV5
  go_wp2_with fail
  refine (gLeastYes 1 B4 TT rfl (by decide) brC (by decide)).mono ?_
  rintro e w6 ⟨A6, c6, rfl, Pz, hb⟩
  replace TT := TT.below hb
  replace Bl := Bl.below hb
  replace Pp := Pp.below hb
  replace Bg := Bg.below hb
  replace B4 := B4.below hb
  replace hB := below_then hB hb
  clear hb
  clear B4
  go_wp2_with fail
  have Q1 := pol1 w6 7 7 rfl (by decide)
  replace TT := TT.alloc (.cells #[.int .u64 7] 50)
  replace Bl := Bl.alloc (.cells #[.int .u64 7] 50)
  replace Pp := Pp.alloc (.cells #[.int .u64 7] 50)
  replace Bg := Bg.alloc (.cells #[.int .u64 7] 50)
  replace Pz := Pz.alloc (.cells #[.int .u64 7] 50)
  replace hB := below_alloc hB (.cells #[.int .u64 7] 50)
  generalize hV6 : (World.alloc w6 (.cells #[.int .u64 7] 50)) = V6 at TT Bl Pp Bg Pz Q1 hB ⊢
  clear hV6
  go_wp2_with fail
  refine (gWords true Pp Q1 rfl rfl (by rw [words1 7 (by decide) (by decide)]; rfl) w7).mono ?_
  rintro e w7 ⟨rfl, hb⟩
  replace TT := TT.below hb
  replace Bl := Bl.below hb
  replace Pp := Pp.below hb
  replace Bg := Bg.below hb
  replace Pz := Pz.below hb
  replace Q1 := Q1.below hb
  replace hB := below_then hB hb
  clear hb
  clear Pp
  clear Q1
  go_wp2_with fail
  refine (gLength 2 Bl TT rfl (by decide) (by rw [brA]; decide)).mono ?_
  rintro e w8 ⟨rfl, hb⟩
  replace TT := TT.below hb
  replace Bl := Bl.below hb
  replace Bg := Bg.below hb
  replace Pz := Pz.below hb
  replace hB := below_then hB hb
  clear hb
  go_wp2_with fail
  replace TT := TT.alloc (.cells (madeCells #[.bool false] 2049) 4)
  replace Bl := Bl.alloc (.cells (madeCells #[.bool false] 2049) 4)
  replace Bg := Bg.alloc (.cells (madeCells #[.bool false] 2049) 4)
  replace Pz := Pz.alloc (.cells (madeCells #[.bool false] 2049) 4)
  replace hB := below_alloc hB (.cells (madeCells #[.bool false] 2049) 4)
  generalize hV7 : World.alloc _ _ = V7 at TT Bl Bg Pz hB ⊢
  clear hV7
  go_wp2_with fail
  refine (gLengthBig (by decide)).mono ?_
  rintro e w9 ⟨rfl, hb⟩
  replace TT := TT.below hb
  replace Bl := Bl.below hb
  replace Bg := Bg.below hb
  replace Pz := Pz.below hb
  replace hB := below_then hB hb
  clear hb
  go_wp2_with fail
  have B5 : Brs (World.alloc w9 (.cells #[.bool false, .bool false, .bool true] 4)) (some ⟨World.heap w9 |>.size, 0, none⟩) 3 [false, false, true] := brsN w9 [false, false, true]
  replace TT := TT.alloc (.cells #[.bool false, .bool false, .bool true] 4)
  replace Bl := Bl.alloc (.cells #[.bool false, .bool false, .bool true] 4)
  replace Bg := Bg.alloc (.cells #[.bool false, .bool false, .bool true] 4)
  replace Pz := Pz.alloc (.cells #[.bool false, .bool false, .bool true] 4)
  replace hB := below_alloc hB (.cells #[.bool false, .bool false, .bool true] 4)
  generalize hV8 : (World.alloc w9 (.cells #[.bool false, .bool false, .bool true] 4)) = V8 at TT Bl Bg Pz B5 hB ⊢
  clear hV8
  go_wp2_with fail
  refine (gLength 3 B5 TT rfl (by decide) (by rw [brB]; decide)).mono ?_
  rintro e w10 ⟨rfl, hb⟩
  replace TT := TT.below hb
  replace Bl := Bl.below hb
  replace Bg := Bg.below hb
  replace Pz := Pz.below hb
  replace B5 := B5.below hb
  replace hB := below_then hB hb
  clear hb
  clear B5
  go_wp2_with fail
  have B6 : Brs (World.alloc w10 (.cells #[.bool true, .bool true, .bool false, .bool true] 4)) (some ⟨World.heap w10 |>.size, 0, none⟩) 4 [true, true, false, true] := brsN w10 [true, true, false, true]
  replace TT := TT.alloc (.cells #[.bool true, .bool true, .bool false, .bool true] 4)
  replace Bl := Bl.alloc (.cells #[.bool true, .bool true, .bool false, .bool true] 4)
  replace Bg := Bg.alloc (.cells #[.bool true, .bool true, .bool false, .bool true] 4)
  replace Pz := Pz.alloc (.cells #[.bool true, .bool true, .bool false, .bool true] 4)
  replace hB := below_alloc hB (.cells #[.bool true, .bool true, .bool false, .bool true] 4)
  generalize hV9 : (World.alloc w10 (.cells #[.bool true, .bool true, .bool false, .bool true] 4)) = V9 at TT Bl Bg Pz B6 hB ⊢
  clear hV9
  go_wp2_with fail
  refine (gSameB true Bg B6 gsA.1 rfl gsA.2 (by decide)).mono ?_
  rintro e w11 ⟨rfl, hb⟩
  replace TT := TT.below hb
  replace Bl := Bl.below hb
  replace Bg := Bg.below hb
  replace Pz := Pz.below hb
  replace B6 := B6.below hb
  replace hB := below_then hB hb
  clear hb
  clear Bg
  clear B6
  go_wp2_with fail
  have Q2 := pol1 w11 1 1 rfl (by decide)
  replace TT := TT.alloc (.cells #[.int .u64 1] 50)
  replace Bl := Bl.alloc (.cells #[.int .u64 1] 50)
  replace Pz := Pz.alloc (.cells #[.int .u64 1] 50)
  replace hB := below_alloc hB (.cells #[.int .u64 1] 50)
  generalize hV10 : (World.alloc w11 (.cells #[.int .u64 1] 50)) = V10 at TT Bl Pz Q2 hB ⊢
  clear hV10
  go_wp2_with fail
  refine (gWords true Pz Q2 rfl rfl (by rw [words1 1 (by decide) (by decide)]; rfl) w1_).mono ?_
  rintro e w12 ⟨rfl, hb⟩
  replace TT := TT.below hb
  replace Bl := Bl.below hb
  replace Pz := Pz.below hb
  replace Q2 := Q2.below hb
  replace hB := below_then hB hb
  clear hb
  clear Pz
  clear Q2
  go_wp2_with fail
  have Q3 := pol1 w12 7 7 rfl (by decide)
  replace TT := TT.alloc (.cells #[.int .u64 7] 50)
  replace Bl := Bl.alloc (.cells #[.int .u64 7] 50)
  replace hB := below_alloc hB (.cells #[.int .u64 7] 50)
  generalize hV11 : (World.alloc w12 (.cells #[.int .u64 7] 50)) = V11 at TT Bl Q3 hB ⊢
  clear hV11
  go_wp2_with fail
  refine (gRule 7 true Q3 Bl TT rfl (by decide) rfl (by decide) (by decide) rlA).mono ?_
  rintro e w13 ⟨rfl, hb⟩
  replace TT := TT.below hb
  replace Bl := Bl.below hb
  replace Q3 := Q3.below hb
  replace hB := below_then hB hb
  clear hb
  clear Q3
  go_wp2_with fail
  have Q4 := pol1 w13 3 3 rfl (by decide)
  replace TT := TT.alloc (.cells #[.int .u64 3] 50)
  replace Bl := Bl.alloc (.cells #[.int .u64 3] 50)
  replace hB := below_alloc hB (.cells #[.int .u64 3] 50)
  generalize hV12 : (World.alloc w13 (.cells #[.int .u64 3] 50)) = V12 at TT Bl Q4 hB ⊢
  clear hV12
  go_wp2_with fail
  refine (gRule 3 false Q4 Bl TT rfl (by decide) rfl (by decide) (by decide) rlB).mono ?_
  rintro e w14 ⟨rfl, hb⟩
  replace TT := TT.below hb
  replace Bl := Bl.below hb
  replace Q4 := Q4.below hb
  replace hB := below_then hB hb
  clear hb
  clear Q4
  go_wp2_with fail
  refine (gRule 0 false (Pol.nil _ none 0 (by decide)) Bl TT rfl rfl rfl (by decide) (by decide) (rl_zero _ _)).mono ?_
  rintro e w15 ⟨rfl, hb⟩
  replace TT := TT.below hb
  replace Bl := Bl.below hb
  replace hB := below_then hB hb
  clear hb
  clear Bl
  go_wp2_with fail
  refine (gLength 0 (Brs.nil _ none 0 (by decide)) TT rfl (by decide) (by rw [brD]; decide)).mono ?_
  rintro e w16 ⟨rfl, hb⟩
  replace TT := TT.below hb
  replace hB := below_then hB hb
  clear hb
  go_wp2_with fail
  go_ret
  exact ⟨rfl, hB⟩
end Go.Proofs.YtfpbfibnkknhdaaDoor
