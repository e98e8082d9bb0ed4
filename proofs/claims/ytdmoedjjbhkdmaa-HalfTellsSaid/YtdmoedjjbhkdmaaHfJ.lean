/-
  awake of layer 12's statements answers true, from what half's calls answer. Made by wip/gen/hfawake.py.
-/
import Derived.Test.YtdmoedjjbhkdmaaHfStepsW
namespace Go.Proofs.Ytdmoedjjbhkdmaa
open Go.RowKit G
set_option linter.unusedVariables false
set_option maxRecDepth 100000

set_option maxHeartbeats 16000000 in
theorem awake12Main (w : World)
    (O1 : Hid (TN 20 #[.int .u64 1] 0 1))
    (O4 : Hid (TN 20 #[.int .u64 4] 0 4))
    (O2 : Hid (TN 20 #[.int .u64 2] 0 2))
    (O5 : Hid (TN 20 #[.int .u64 5] 0 5))
    (O3 : Hid (TN 20 #[.int .u64 3] 0 3))
    (W2 : Hid (∀ W, Calls Try.prog 9 #[.agg #[.int .u64 0, .int .u64 0, .int .u32 0, .int .u32 0, .bool false], .int .i64 2] W (fun e w' => ∃ (A : Option Addr) (cap : Nat), e = .returned (.tuple #[.slice A 2 cap, .agg #[.int .u64 0, .int .u64 1, .int .u32 0, .int .u32 0, .bool false], .int .i64 0]) ∧ Pol w' A cap [16242730742183356629, 11169168799798111308] ∧ Below W.heap.size W w')))
    (W1 : Hid (∀ W, Calls Try.prog 9 #[.agg #[.int .u64 0, .int .u64 0, .int .u32 0, .int .u32 0, .bool false], .int .i64 257] W (NoH 1 W)))
    (CS : Hid (TH 15 #[.agg #[.int .u64 18446744073709551615, .int .u64 18446744073709551615, .int .u32 0, .int .u32 0, .bool true]] ⟨0, 0, 0, 0, false⟩)) (CB : Hid (TH 22 #[.agg #[.int .u64 0, .int .u64 0, .int .u32 0, .int .u32 0, .bool false]] ⟨18446744073709551615, 18446744073709551615, 0, 0, true⟩))
    (JA : Hid (TH 16 #[.agg #[.int .u64 0, .int .u64 0, .int .u32 0, .int .u32 0, .bool true], .agg #[.int .u64 0, .int .u64 4]] ⟨0, 2, 0, 0, true⟩)) (JB : Hid (TH 16 #[.agg #[.int .u64 0, .int .u64 0, .int .u32 0, .int .u32 0, .bool true], .agg #[.int .u64 0, .int .u64 5]] ⟨0, 3, 0, 0, false⟩))
    (BL : Hid (T4 18 #[.agg #[.int .u64 12884901892, .int .u64 4294967298]] 2 1 4 3)) (NU : Hid (TN 23 #[.agg #[.int .u32 2, .int .u32 1, .int .u32 4, .int .u32 3]] 12884901892 4294967298)) :
    Calls Try.prog 8 #[] w (Bl true w) := by
  have hB : Below w.heap.size w w := Below.refl _ _
  go_enter Try.func8, Try.ntmps8
  go_wp2_with fail
  refine (W2.out _).mono ?_
  rintro e e1 ⟨A, cap, rfl, P, hb⟩
  replace hB := below_then hB hb
  clear hb
  go_upto_region 2 with fail
  have Us := K5.new 29 e1 ⟨0, 1, 0, 0, false⟩
  have LB := below_allocs e1 (.cells #[.int .u64 0, .int .u64 1, .int .u32 0, .int .u32 0, .bool false] 29)
  replace P := P.below LB
  replace hB := below_then hB LB
  clear LB
  generalize e1.alloc _ = Y1 at P Us hB ⊢
  generalize e1.heap.size = cs at Us ⊢
  go_wp2_with fail
  refine (W1.out _).mono ?_
  rintro e e2 ⟨rfl, hb⟩
  replace Us := Us.below hb
  replace P := P.below hb
  replace hB := below_then hB hb
  clear hb
  go_upto_region 3 with fail
  have LB := below_allocs e2 (.cells #[.int .u64 0, .int .u64 0, .int .u32 0, .int .u32 0, .bool false] 29)
  replace Us := Us.below LB
  replace P := P.below LB
  replace hB := below_then hB LB
  clear LB
  generalize e2.alloc _ = Y2 at Us P hB ⊢
  go_wp2_with fail
  have Ue := K5.new 29 Y2 ⟨18446744073709551615, 18446744073709551615, 0, 0, true⟩
  have LB := below_allocs Y2 (.cells #[.int .u64 18446744073709551615, .int .u64 18446744073709551615, .int .u32 0, .int .u32 0, .bool true] 29)
  replace Us := Us.below LB
  replace P := P.below LB
  replace hB := below_then hB LB
  clear LB
  generalize Y2.alloc _ = Y3 at Us P Ue hB ⊢
  generalize Y2.heap.size = ce at Ue ⊢
  have H1 := Lib.hid Us
  have H2 := Lib.hid Ue
  have HP := Lib.hid P
  have LL : Hid (([16242730742183356629, 11169168799798111308] : List Nat).length = 2) := Lib.hid rfl
  have LS : Hid (sameL [16242730742183356629, 11169168799798111308] [16242730742183356629, 11169168799798111308] = true) := Lib.hid (by decide)
  have PL : Hid (∀ W : World, Pol (W.alloc (.cells #[.int .u64 16242730742183356629, .int .u64 11169168799798111308] 22)) (some ⟨W.heap.size, 0, none⟩) 2 [16242730742183356629, 11169168799798111308]) := Lib.hid fun W => pol2 W 16242730742183356629 11169168799798111308 16242730742183356629 11169168799798111308 rfl rfl (by decide) (by decide)
  have PD : Hid (∀ W : World, Pol (W.alloc (.cells #[.int .u64 16242730742183356629, .int .u64 11169168799798111308] 22)).drew (some ⟨W.heap.size, 0, none⟩) 2 [16242730742183356629, 11169168799798111308]) := Lib.hid fun W => (PL.out W).below (Below.refl _ _).drew
  have HB := Lib.hid hB
  clear Us Ue P hB W2 W1
  have q1 := qK
  have q2 := qP
  have q3 := eqB
  try dsimp only [List.append]
  go_cut [0] (fun v W => v = .bool true ∧ Below Y3.heap.size Y3 W)
  case first =>
    have fX : Below Y3.heap.size Y3 Y3 := Below.refl _ _
    obtain ⟨k10, k11, k12, k13, k14⟩ := (H1.out.below fX).cells; have su1 := (H1.out.below fX).lt; obtain ⟨k20, k21, k22, k23, k24⟩ := (H2.out.below fX).cells; have su2 := (H2.out.below fX).lt
    go_region_held3 (fun w' => (w'.cell? ⟨cs, 0, none⟩ = some (.int .u64 0) ∧ w'.cell? ⟨cs, 1, none⟩ = some (.int .u64 1) ∧ w'.cell? ⟨cs, 2, none⟩ = some (.int .u32 0) ∧ w'.cell? ⟨cs, 3, none⟩ = some (.int .u32 0) ∧ w'.cell? ⟨cs, 4, none⟩ = some (.bool false)) ∧ (w'.cell? ⟨ce, 0, none⟩ = some (.int .u64 18446744073709551615) ∧ w'.cell? ⟨ce, 1, none⟩ = some (.int .u64 18446744073709551615) ∧ w'.cell? ⟨ce, 2, none⟩ = some (.int .u32 0) ∧ w'.cell? ⟨ce, 3, none⟩ = some (.int .u32 0) ∧ w'.cell? ⟨ce, 4, none⟩ = some (.bool true))) (go_keep) (first
      | (go_at_call 20; (first | (with_reducible refine (O1.out _).mono ?_) | (with_reducible refine (O4.out _).mono ?_) | (with_reducible refine (O2.out _).mono ?_) | (with_reducible refine (O5.out _).mono ?_) | (with_reducible refine (O3.out _).mono ?_)); rintro e x1 ⟨rfl, hb⟩; clear k10 k11 k12 k13 k14 su1 k20 k21 k22 k23 k24 su2; replace fX := below_then (by first | exact fX | exact fX.drew | exact fX.alloc fX.size _ | exact fX.drew.alloc fX.drew.size _ | exact (fX.alloc fX.size _).drew) hb; clear hb; obtain ⟨k10, k11, k12, k13, k14⟩ := (H1.out.below fX).cells; have su1 := (H1.out.below fX).lt; obtain ⟨k20, k21, k22, k23, k24⟩ := (H2.out.below fX).cells; have su2 := (H2.out.below fX).lt; skip)
      | (go_at_call 13; (first | (with_reducible refine (gWords true (HP.out.below (by first | exact fX | exact fX.drew | exact fX.alloc fX.size _ | exact fX.drew.alloc fX.drew.size _ | exact (fX.alloc fX.size _).drew)) (PL.out _) LL.out LL.out LS.out (by decide)).mono ?_) | (with_reducible refine (gWords true (HP.out.below (by first | exact fX | exact fX.drew | exact fX.alloc fX.size _ | exact fX.drew.alloc fX.drew.size _ | exact (fX.alloc fX.size _).drew)) (PD.out _) LL.out LL.out LS.out (by decide)).mono ?_)); rintro e x1 ⟨rfl, hb⟩; clear k10 k11 k12 k13 k14 su1 k20 k21 k22 k23 k24 su2; replace fX := below_then (by first | exact fX | exact fX.drew | exact fX.alloc fX.size _ | exact fX.drew.alloc fX.drew.size _ | exact (fX.alloc fX.size _).drew) hb; clear hb; obtain ⟨k10, k11, k12, k13, k14⟩ := (H1.out.below fX).cells; have su1 := (H1.out.below fX).lt; obtain ⟨k20, k21, k22, k23, k24⟩ := (H2.out.below fX).cells; have su2 := (H2.out.below fX).lt; skip)
      | (go_at_call 15; (first | (with_reducible refine (CS.out _).mono ?_)); rintro e x1 ⟨rfl, hb⟩; clear k10 k11 k12 k13 k14 su1 k20 k21 k22 k23 k24 su2; replace fX := below_then (by first | exact fX | exact fX.drew | exact fX.alloc fX.size _ | exact fX.drew.alloc fX.drew.size _ | exact (fX.alloc fX.size _).drew) hb; clear hb; obtain ⟨k10, k11, k12, k13, k14⟩ := (H1.out.below fX).cells; have su1 := (H1.out.below fX).lt; obtain ⟨k20, k21, k22, k23, k24⟩ := (H2.out.below fX).cells; have su2 := (H2.out.below fX).lt; skip)
      | (go_at_call 22; (first | (with_reducible refine (CB.out _).mono ?_)); rintro e x1 ⟨rfl, hb⟩; clear k10 k11 k12 k13 k14 su1 k20 k21 k22 k23 k24 su2; replace fX := below_then (by first | exact fX | exact fX.drew | exact fX.alloc fX.size _ | exact fX.drew.alloc fX.drew.size _ | exact (fX.alloc fX.size _).drew) hb; clear hb; obtain ⟨k10, k11, k12, k13, k14⟩ := (H1.out.below fX).cells; have su1 := (H1.out.below fX).lt; obtain ⟨k20, k21, k22, k23, k24⟩ := (H2.out.below fX).cells; have su2 := (H2.out.below fX).lt; skip)
      | (go_at_call 16; (first | (with_reducible refine (JA.out _).mono ?_) | (with_reducible refine (JB.out _).mono ?_)); rintro e x1 ⟨rfl, hb⟩; clear k10 k11 k12 k13 k14 su1 k20 k21 k22 k23 k24 su2; replace fX := below_then (by first | exact fX | exact fX.drew | exact fX.alloc fX.size _ | exact fX.drew.alloc fX.drew.size _ | exact (fX.alloc fX.size _).drew) hb; clear hb; obtain ⟨k10, k11, k12, k13, k14⟩ := (H1.out.below fX).cells; have su1 := (H1.out.below fX).lt; obtain ⟨k20, k21, k22, k23, k24⟩ := (H2.out.below fX).cells; have su2 := (H2.out.below fX).lt; skip)
      | (go_at_call 18; (first | (with_reducible refine (BL.out _).mono ?_)); rintro e x1 ⟨rfl, hb⟩; clear k10 k11 k12 k13 k14 su1 k20 k21 k22 k23 k24 su2; replace fX := below_then (by first | exact fX | exact fX.drew | exact fX.alloc fX.size _ | exact fX.drew.alloc fX.drew.size _ | exact (fX.alloc fX.size _).drew) hb; clear hb; obtain ⟨k10, k11, k12, k13, k14⟩ := (H1.out.below fX).cells; have su1 := (H1.out.below fX).lt; obtain ⟨k20, k21, k22, k23, k24⟩ := (H2.out.below fX).cells; have su2 := (H2.out.below fX).lt; skip)
      | (go_at_call 23; (first | (with_reducible refine (NU.out _).mono ?_)); rintro e x1 ⟨rfl, hb⟩; clear k10 k11 k12 k13 k14 su1 k20 k21 k22 k23 k24 su2; replace fX := below_then (by first | exact fX | exact fX.drew | exact fX.alloc fX.size _ | exact fX.drew.alloc fX.drew.size _ | exact (fX.alloc fX.size _).drew) hb; clear hb; obtain ⟨k10, k11, k12, k13, k14⟩ := (H1.out.below fX).cells; have su1 := (H1.out.below fX).lt; obtain ⟨k20, k21, k22, k23, k24⟩ := (H2.out.below fX).cells; have su2 := (H2.out.below fX).lt; skip))
    all_goals
      go_wp2_with fail
      go_meet
      exact ⟨rfl, fX⟩
  obtain ⟨rfl, hb⟩ := hcut
  have hB := below_then HB.out hb
  go_wp2
  go_ret
  exact ⟨rfl, hB⟩
theorem z_ok : Hs.zero.Ok := ⟨by decide, by decide, by decide⟩
theorem iter2H : iterH Hs.zero 2 = ⟨1, Ky.zero, false⟩ := Hs.same (by decide +kernel) rfl (by decide +kernel)
theorem row2H : rowH Hs.zero 2 = [16242730742183356629, 11169168799798111308] := by decide +kernel
theorem step_end : stepH ⟨340282366920938463463374607431768211455, Ky.zero, true⟩ = Hs.zero := Hs.same (by decide +kernel) rfl rfl
theorem back_zero : backH Hs.zero = ⟨340282366920938463463374607431768211455, Ky.zero, true⟩ := Hs.same (by decide +kernel) rfl rfl
theorem jump4 : jumpH ⟨0, Ky.zero, true⟩ 4 = ⟨2, Ky.zero, true⟩ := Hs.same (by decide +kernel) rfl (by decide +kernel)
theorem jump5 : jumpH ⟨0, Ky.zero, true⟩ 5 = ⟨3, Ky.zero, false⟩ := Hs.same (by decide +kernel) rfl (by decide +kernel)
theorem block4 : blockH 237684487616579989079765024770 = ⟨2, 1, 4, 3⟩ := Bk.same (by decide +kernel) (by decide +kernel) (by decide +kernel) (by decide +kernel)
theorem num4 : numH ⟨2, 1, 4, 3⟩ = 237684487616579989079765024770 := by decide +kernel
theorem awake12 (X : HF) (w : World) : Calls Try.prog 8 #[] w (Bl true w) := by
  have ze : Hs.Ok ⟨340282366920938463463374607431768211455, Ky.zero, true⟩ := ⟨by decide, by decide, by decide⟩
  have zt : Hs.Ok ⟨0, Ky.zero, true⟩ := ⟨by decide, by decide, by decide⟩
  have W2 := fun W => X.wordsY Hs.zero 2 W z_ok (by decide)
  rw [row2H, iter2H] at W2
  have CS := X.step _ ze
  rw [step_end] at CS
  have CB := X.back _ z_ok
  rw [back_zero] at CB
  have JA := X.jump _ 4 zt (by decide)
  rw [jump4] at JA
  have JB := X.jump _ 5 zt (by decide)
  rw [jump5] at JB
  have BL := X.block 237684487616579989079765024770 (by decide)
  rw [block4] at BL
  have NU := X.number ⟨2, 1, 4, 3⟩ ⟨by decide, by decide, by decide, by decide⟩
  rw [num4] at NU
  exact awake12Main w (Lib.hid (of_small (n := 1) (by decide))) (Lib.hid (of_small (n := 4) (by decide))) (Lib.hid (of_small (n := 2) (by decide))) (Lib.hid (of_small (n := 5) (by decide))) (Lib.hid (of_small (n := 3) (by decide))) (Lib.hid W2) (Lib.hid fun W => X.wordsN Hs.zero 257 W z_ok (by decide)) (Lib.hid CS) (Lib.hid CB) (Lib.hid JA) (Lib.hid JB) (Lib.hid BL) (Lib.hid NU)
end Go.Proofs.Ytdmoedjjbhkdmaa
