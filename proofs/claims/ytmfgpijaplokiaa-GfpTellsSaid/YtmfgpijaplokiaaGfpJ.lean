/-
  awake of layer 2's statements answers true. Made by wip/gen/gfpawake.py.
-/
import Derived.Test.YtmfgpijaplokiaaGfpI
namespace Go.Proofs.Ytmfgpijaplokiaa
open Go.RowKit G
set_option linter.unusedVariables false

theorem Pol.alloc {w : World} {A : Option Addr} {cap : Nat} {xs : List Nat} (h : Pol w A cap xs) (o : Obj) : Pol (w.alloc o) A cap xs := h.below (below_alloc (Below.refl _ _) o)
theorem clm33 : clm 3 3 = 5 := by
  have := sq_odd 1
  rw [clm_one] at this
  exact this
theorem awWords (w : World) : Calls Try.prog 11 #[.int .u64 9223372036854775808, .int .u64 6] w (fun e w' => e = .returned (.tuple #[.int .u64 3, .int .u64 0]) ∧ w = w') := by
  have h := cWords 9223372036854775808 6 (by decide) (by decide) w
  have e : clm 9223372036854775808 6 = 55340232221128654848 := by
    rw [clm_comm, show (9223372036854775808 : Nat) = 2 ^ 63 from rfl, clm_pow]
  rw [e] at h
  exact h
/-- An answer that is 0. -/
def Ans0 (w : World) (e : Ending) (w' : World) : Prop := ∃ (A : Option Addr) (cap : Nat), e = .returned (.slice A 0 cap) ∧ Below w.heap.size w w'
theorem ans0 {w : World} {e : Ending} {w' : World} (h : Ans 0 w e w') : Ans0 w e w' := by
  obtain ⟨A, c, he, _, hb⟩ := h
  rw [wordsOf_zero] at he
  exact ⟨A, c, he, hb⟩
theorem cXout0 (n : Int) (hn : n < 0 ∨ 2048 < n) (w : World) : Calls Try.prog 19 #[.int .i64 n] w (Ans0 w) := (cXout n hn w).mono fun _ _ h => ans0 h

set_option maxRecDepth 100000 in
set_option maxHeartbeats 4000000 in
theorem awake (w : World) : Calls Try.prog 7 #[] w (Bl true w) := by
  go_enter Try.func7, Try.ntmps7
  have hB : Below w.heap.size w w := Below.refl _ _
  go_wp2_with fail
  have Pa := pol2 w 3 0 3 0 rfl rfl (by decide) (by decide)
  replace hB := below_alloc hB (.cells #[.int .u64 3, .int .u64 0] 29)
  generalize hV0 : World.alloc _ _ = V0 at Pa hB ⊢
  clear hV0
  refine (awWords _).mono ?_
  rintro e w1 ⟨rfl, rfl⟩
  go_wp2_with fail
  refine (gOwn 3 Pa rfl rfl (by decide)).mono ?_
  rintro e w2 ⟨A2, c2, rfl, P1, hb⟩
  replace Pa := Pa.below hb
  replace hB := below_then hB hb
  clear hb
  go_wp2_with fail
  have Q1 := pol1 w2 3 3 rfl (by decide)
  replace Pa := Pa.alloc (.cells #[.int .u64 3] 29)
  replace P1 := P1.alloc (.cells #[.int .u64 3] 29)
  replace hB := below_alloc hB (.cells #[.int .u64 3] 29)
  generalize hV1 : World.alloc _ _ = V1 at Pa P1 Q1 hB ⊢
  clear hV1
  refine (gWords true P1 Q1 rfl rfl (by rw [words1 3 (by decide) (by decide)]; rfl) (Nat.le_trans (wl 1 (by decide)) (by decide))).mono ?_
  rintro e w3 ⟨rfl, hb⟩
  replace Pa := Pa.below hb
  replace P1 := P1.below hb
  replace Q1 := Q1.below hb
  replace hB := below_then hB hb
  clear hb
  clear P1
  clear Q1
  go_wp2_with fail
  refine (gDeg 1 Pa rfl (by decide) (by decide)).mono ?_
  rintro e w4 ⟨rfl, rfl⟩
  go_wp2_with fail
  refine (gDeg (-1) (Pol.nil _ none 0 (by decide)) rfl (by decide) (by decide)).mono ?_
  rintro e w5 ⟨rfl, rfl⟩
  go_wp2_with fail
  refine (gBit 1 1 Pa rfl (by decide) (by decide)).mono ?_
  rintro e w6 ⟨rfl, rfl⟩
  go_wp2_with fail
  refine (bitNeg _ _ _ (-1) (by decide) _).mono ?_
  rintro e w7 ⟨rfl, rfl⟩
  go_wp2_with fail
  refine (gBit 500 0 Pa rfl (by decide +kernel) (by decide)).mono ?_
  rintro e w8 ⟨rfl, rfl⟩
  go_wp2_with fail
  refine (cX 65 (by decide) _).mono ?_
  rintro e w9 ⟨A9, c9, rfl, P2, hb⟩
  replace Pa := Pa.below hb
  replace hB := below_then hB hb
  clear hb
  go_wp2_with fail
  have Q2 := pol2 w9 0 2 0 2 rfl rfl (by decide) (by decide)
  replace Pa := Pa.alloc (.cells #[.int .u64 0, .int .u64 2] 29)
  replace P2 := P2.alloc (.cells #[.int .u64 0, .int .u64 2] 29)
  replace hB := below_alloc hB (.cells #[.int .u64 0, .int .u64 2] 29)
  generalize hV2 : World.alloc _ _ = V2 at Pa P2 Q2 hB ⊢
  clear hV2
  refine (gWords true P2 Q2 rfl rfl (by rw [show (2 : Nat) ^ 65 = 0 + 18446744073709551616 * 2 from rfl, words2 0 2 (by decide) (by decide) (by decide)]; rfl) (Nat.le_trans (wl 2 (by decide)) (by decide))).mono ?_
  rintro e w10 ⟨rfl, hb⟩
  replace Pa := Pa.below hb
  replace P2 := P2.below hb
  replace Q2 := Q2.below hb
  replace hB := below_then hB hb
  clear hb
  clear P2
  clear Q2
  go_wp2_with fail
  refine (cXout0 2049 (by decide) _).mono ?_
  rintro e w11 ⟨A11, c11, rfl, hb⟩
  replace Pa := Pa.below hb
  replace hB := below_then hB hb
  clear hb
  go_wp2_with fail
  have Pb := pol2 w11 2 5 2 5 rfl rfl (by decide) (by decide)
  replace Pa := Pa.alloc (.cells #[.int .u64 2, .int .u64 5] 29)
  replace hB := below_alloc hB (.cells #[.int .u64 2, .int .u64 5] 29)
  generalize hV3 : World.alloc _ _ = V3 at Pa Pb hB ⊢
  clear hV3
  refine (gAdd (1 + 18446744073709551616 * 5) Pa Pb rfl rfl (by decide) (by decide) (by decide)).mono ?_
  rintro e w12 ⟨A12, c12, rfl, P3, hb⟩
  replace Pa := Pa.below hb
  replace Pb := Pb.below hb
  replace hB := below_then hB hb
  clear hb
  clear Pb
  go_wp2_with fail
  have Q3 := pol2 w12 1 5 1 5 rfl rfl (by decide) (by decide)
  replace Pa := Pa.alloc (.cells #[.int .u64 1, .int .u64 5] 29)
  replace P3 := P3.alloc (.cells #[.int .u64 1, .int .u64 5] 29)
  replace hB := below_alloc hB (.cells #[.int .u64 1, .int .u64 5] 29)
  generalize hV4 : World.alloc _ _ = V4 at Pa P3 Q3 hB ⊢
  clear hV4
  refine (gWords true P3 Q3 rfl rfl (by rw [words2 1 5 (by decide) (by decide) (by decide)]; rfl) (Nat.le_trans (wl 2 (by decide)) (by decide))).mono ?_
  rintro e w13 ⟨rfl, hb⟩
  replace Pa := Pa.below hb
  replace P3 := P3.below hb
  replace Q3 := Q3.below hb
  replace hB := below_then hB hb
  clear hb
  clear P3
  clear Q3
  go_wp2_with fail
  refine (gMul 5 Pa Pa rfl rfl clm33 (by decide) (by decide)).mono ?_
  rintro e w14 ⟨A14, c14, rfl, P4, hb⟩
  replace Pa := Pa.below hb
  replace hB := below_then hB hb
  clear hb
  go_wp2_with fail
  have Q4 := pol1 w14 5 5 rfl (by decide)
  replace Pa := Pa.alloc (.cells #[.int .u64 5] 29)
  replace P4 := P4.alloc (.cells #[.int .u64 5] 29)
  replace hB := below_alloc hB (.cells #[.int .u64 5] 29)
  generalize hV5 : World.alloc _ _ = V5 at Pa P4 Q4 hB ⊢
  clear hV5
  refine (gWords true P4 Q4 rfl rfl (by rw [words1 5 (by decide) (by decide)]; rfl) (Nat.le_trans (wl 1 (by decide)) (by decide))).mono ?_
  rintro e w15 ⟨rfl, hb⟩
  replace Pa := Pa.below hb
  replace P4 := P4.below hb
  replace Q4 := Q4.below hb
  replace hB := below_then hB hb
  clear hb
  clear P4
  clear Q4
  go_wp2_with fail
  have Pc := pol1 w15 3 3 rfl (by decide)
  replace Pa := Pa.alloc (.cells #[.int .u64 3] 29)
  replace hB := below_alloc hB (.cells #[.int .u64 3] 29)
  generalize hV6 : World.alloc _ _ = V6 at Pa Pc hB ⊢
  clear hV6
  refine (gSquare 5 Pc rfl clm33 (by decide)).mono ?_
  rintro e w16 ⟨A16, c16, rfl, P5, hb⟩
  replace Pa := Pa.below hb
  replace Pc := Pc.below hb
  replace hB := below_then hB hb
  clear hb
  clear Pc
  go_wp2_with fail
  have Q5 := pol1 w16 5 5 rfl (by decide)
  replace Pa := Pa.alloc (.cells #[.int .u64 5] 29)
  replace P5 := P5.alloc (.cells #[.int .u64 5] 29)
  replace hB := below_alloc hB (.cells #[.int .u64 5] 29)
  generalize hV7 : World.alloc _ _ = V7 at Pa P5 Q5 hB ⊢
  clear hV7
  refine (gWords true P5 Q5 rfl rfl (by rw [words1 5 (by decide) (by decide)]; rfl) (Nat.le_trans (wl 1 (by decide)) (by decide))).mono ?_
  rintro e w17 ⟨rfl, hb⟩
  replace Pa := Pa.below hb
  replace P5 := P5.below hb
  replace Q5 := Q5.below hb
  replace hB := below_then hB hb
  clear hb
  clear P5
  clear Q5
  go_wp2_with fail
  refine (gUp 63 (9223372036854775808 + 18446744073709551616 * 1) Pa rfl (by decide) (by decide) (by decide)).mono ?_
  rintro e w18 ⟨A18, c18, rfl, P6, hb⟩
  replace Pa := Pa.below hb
  replace hB := below_then hB hb
  clear hb
  go_wp2_with fail
  have Q6 := pol2 w18 9223372036854775808 1 9223372036854775808 1 rfl rfl (by decide) (by decide)
  replace Pa := Pa.alloc (.cells #[.int .u64 9223372036854775808, .int .u64 1] 29)
  replace P6 := P6.alloc (.cells #[.int .u64 9223372036854775808, .int .u64 1] 29)
  replace hB := below_alloc hB (.cells #[.int .u64 9223372036854775808, .int .u64 1] 29)
  generalize hV8 : World.alloc _ _ = V8 at Pa P6 Q6 hB ⊢
  clear hV8
  refine (gWords true P6 Q6 rfl rfl (by rw [words2 9223372036854775808 1 (by decide) (by decide) (by decide)]; rfl) (Nat.le_trans (wl 2 (by decide)) (by decide))).mono ?_
  rintro e w19 ⟨rfl, hb⟩
  replace Pa := Pa.below hb
  replace P6 := P6.below hb
  replace Q6 := Q6.below hb
  replace hB := below_then hB hb
  clear hb
  clear P6
  clear Q6
  go_wp2_with fail
  have Pd := pol1 w19 3 3 rfl (by decide)
  replace Pa := Pa.alloc (.cells #[.int .u64 3] 29)
  replace hB := below_alloc hB (.cells #[.int .u64 3] 29)
  generalize hV9 : World.alloc _ _ = V9 at Pa Pd hB ⊢
  clear hV9
  refine (gSame true Pa Pd rfl rfl (by decide) (by decide)).mono ?_
  rintro e w20 ⟨rfl, hb⟩
  replace Pa := Pa.below hb
  replace Pd := Pd.below hb
  replace hB := below_then hB hb
  clear hb
  clear Pd
  go_wp2_with fail
  refine (gSame false Pa (Pol.nil _ none 0 (by decide)) rfl rfl (by decide) (by decide)).mono ?_
  rintro e w21 ⟨rfl, hb⟩
  replace Pa := Pa.below hb
  replace hB := below_then hB hb
  clear hb
  go_wp2_with fail
  go_ret
  exact ⟨rfl, hB⟩
end Go.Proofs.Ytmfgpijaplokiaa
