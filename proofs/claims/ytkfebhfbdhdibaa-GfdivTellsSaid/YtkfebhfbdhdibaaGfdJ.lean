/-
  awake of layer 3's statements answers true. Made by wip/gen/gfdawake.py.
-/
import Derived.Test.YtkfebhfbdhdibaaGfdI
namespace Go.Proofs.Ytkfebhfbdhdibaa
open Go.RowKit G
set_option linter.unusedVariables false

/-- An answer that is 0, and an error's number. -/
def AnsE0 (w : World) (e : Ending) (w' : World) : Prop := ∃ (A : Option Addr) (cap : Nat), e = .returned (.tuple #[.slice A 0 cap, .int .i64 0]) ∧ Below w.heap.size w w'
theorem ansE0 {w : World} {e : Ending} {w' : World} (h : AnsE 0 0 w e w') : AnsE0 w e w' := by
  obtain ⟨A, c, he, _, hb⟩ := h
  rw [wordsOf_zero] at he
  exact ⟨A, c, he, hb⟩
theorem cDiv2 {A B : Option Addr} {L K ca cb : Nat} {xs ys : List Nat} {w : World} (q r : Nat) (P : Pol w A ca xs) (Q : Pol w B cb ys) (hL : xs.length = L) (hK : ys.length = K) (bL : L ≤ 50000) (bK : K ≤ 50000) (h0 : leN ys ≠ 0) (h : qt (leN xs) (leN ys) = q ∧ rt (leN xs) (leN ys) = r) :
    Calls Try.prog 10 #[.slice A L ca, .slice B K cb] w (Ans2 q r w) := by
  have := cDiv _ _ P Q hL hK rfl rfl bL bK h0
  rwa [h.1, h.2] at this
theorem rtq {a b : Nat} (q r : Nat) (hb : b ≠ 0) (h : clmF 8 q b = a ^^^ r) (b70 : b < 2 ^ 8) (hr : len r < len b) : qt a b = q ∧ rt a b = r :=
  qr_of hb (by rw [← clmF_eq 8 q b b70, h, xor_cancel]) hr
theorem dm11 : qt 11 3 = 6 ∧ rt 11 3 = 1 := rtq 6 1 (by decide) (by decide) (by decide) (by decide)
theorem mm : rt (clm 2 2) 7 = 3 := by rw [clm_by 2 (a := 2) (b := 2) (c := 4) (by decide) (by decide)]; exact (rtq 1 3 (by decide) (by decide) (by decide) (by decide)).2
theorem rt72 : qt 7 2 = 3 ∧ rt 7 2 = 1 := rtq 3 1 (by decide) (by decide) (by decide) (by decide)
theorem rt27 : rt 2 7 = 2 := rt_small (by decide)
theorem rt53 : rt 5 3 = 0 := (rtq 3 0 (by decide) (by decide) (by decide) (by decide)).2
theorem gc53 : gc 5 3 = 3 := by rw [gc_step (by decide), rt53, gc_zero]
theorem gc35 : gc 3 5 ≠ 1 := by rw [gc_comm, gc53]; decide
theorem gc00 : gc 0 0 = 0 := gc_zero 0
theorem gc27 : gc 2 7 = 1 := by rw [gc_comm, gc_step (by decide), rt72.2, gc_step (by decide), rt_one, gc_zero]
theorem iv27 : iv 2 7 = 3 := by
  unfold iv
  rw [rt27, ex_step (by decide), rt72.1, rt72.2, ex_step (by decide), rt_one, ex_zero, clm_one_left, Nat.zero_xor]
theorem mod0 : rt (leN [0, 1]) (leN [2]) = 0 := (rtq (2 ^ 63) 0 (by decide) (by decide +kernel) (by decide) (by decide)).2

set_option maxRecDepth 100000 in
set_option maxHeartbeats 4000000 in
theorem awake3 (w : World) : Calls Try.prog 7 #[] w (Bl true w) := by
  go_enter Try.func7, Try.ntmps7
  have hB : Below w.heap.size w w := Below.refl _ _
  go_wp2_with fail
  have Pa := pol1 w 11 11 rfl (by decide)
  replace hB := below_alloc hB (.cells #[.int .u64 11] 45)
  have Pb := pol1 (World.alloc w (.cells #[.int .u64 11] 45)) 3 3 rfl (by decide)
  replace Pa := Pa.alloc (.cells #[.int .u64 3] 45)
  replace hB := below_alloc hB (.cells #[.int .u64 3] 45)
  simp only [World.size_alloc] at Pb
  generalize hV0 : (World.alloc (World.alloc w (.cells #[.int .u64 11] 45)) (.cells #[.int .u64 3] 45)) = V0 at Pa Pb hB ⊢
  clear hV0
  refine (cDiv2 6 1 Pa Pb rfl rfl (by decide) (by decide) (by decide) dm11).mono ?_
  rintro e w1 ⟨A1, B1, c1, d1, rfl, Pq, Pr, hb⟩
  replace Pa := Pa.below hb
  replace Pb := Pb.below hb
  replace hB := below_then hB hb
  clear hb
  clear Pa
  clear Pb
  go_wp2_with fail
  have Pa := pol1 w1 11 11 rfl (by decide)
  replace Pq := Pq.alloc (.cells #[.int .u64 11] 45)
  replace Pr := Pr.alloc (.cells #[.int .u64 11] 45)
  replace hB := below_alloc hB (.cells #[.int .u64 11] 45)
  have Pb := pol1 (World.alloc w1 (.cells #[.int .u64 11] 45)) 0 0 rfl (by decide)
  replace Pq := Pq.alloc (.cells #[.int .u64 0] 45)
  replace Pr := Pr.alloc (.cells #[.int .u64 0] 45)
  replace Pa := Pa.alloc (.cells #[.int .u64 0] 45)
  replace hB := below_alloc hB (.cells #[.int .u64 0] 45)
  simp only [World.size_alloc] at Pb
  generalize hV1 : (World.alloc (World.alloc w1 (.cells #[.int .u64 11] 45)) (.cells #[.int .u64 0] 45)) = V1 at Pq Pr Pa Pb hB ⊢
  clear hV1
  refine (divZero _ _ _ _ _ _ _ (by decide) _ Pb rfl rfl).mono ?_
  rintro e w2 ⟨rfl, rfl⟩
  clear Pa
  clear Pb
  go_wp2_with fail
  have Pa := pol1 V1 2 2 rfl (by decide)
  replace Pq := Pq.alloc (.cells #[.int .u64 2] 45)
  replace Pr := Pr.alloc (.cells #[.int .u64 2] 45)
  replace hB := below_alloc hB (.cells #[.int .u64 2] 45)
  have Pb := pol1 (World.alloc V1 (.cells #[.int .u64 2] 45)) 2 2 rfl (by decide)
  replace Pq := Pq.alloc (.cells #[.int .u64 2] 45)
  replace Pr := Pr.alloc (.cells #[.int .u64 2] 45)
  replace Pa := Pa.alloc (.cells #[.int .u64 2] 45)
  replace hB := below_alloc hB (.cells #[.int .u64 2] 45)
  simp only [World.size_alloc] at Pb
  have Pc := pol1 (World.alloc (World.alloc V1 (.cells #[.int .u64 2] 45)) (.cells #[.int .u64 2] 45)) 7 7 rfl (by decide)
  replace Pq := Pq.alloc (.cells #[.int .u64 7] 45)
  replace Pr := Pr.alloc (.cells #[.int .u64 7] 45)
  replace Pa := Pa.alloc (.cells #[.int .u64 7] 45)
  replace Pb := Pb.alloc (.cells #[.int .u64 7] 45)
  replace hB := below_alloc hB (.cells #[.int .u64 7] 45)
  simp only [World.size_alloc] at Pc
  generalize hV2 : (World.alloc (World.alloc (World.alloc V1 (.cells #[.int .u64 2] 45)) (.cells #[.int .u64 2] 45)) (.cells #[.int .u64 7] 45)) = V2 at Pq Pr Pa Pb Pc hB ⊢
  clear hV2
  refine (gMulMod 3 Pa Pb Pc rfl rfl rfl mm (by decide) (by decide) (by decide) (by decide)).mono ?_
  rintro e w3 ⟨A3, c3, rfl, Pm, hb⟩
  replace Pq := Pq.below hb
  replace Pr := Pr.below hb
  replace Pa := Pa.below hb
  replace Pb := Pb.below hb
  replace Pc := Pc.below hb
  replace hB := below_then hB hb
  clear hb
  clear Pa
  clear Pb
  clear Pc
  go_wp2_with fail
  have Pa := pol1 w3 2 2 rfl (by decide)
  replace Pq := Pq.alloc (.cells #[.int .u64 2] 45)
  replace Pr := Pr.alloc (.cells #[.int .u64 2] 45)
  replace Pm := Pm.alloc (.cells #[.int .u64 2] 45)
  replace hB := below_alloc hB (.cells #[.int .u64 2] 45)
  have Pb := pol1 (World.alloc w3 (.cells #[.int .u64 2] 45)) 7 7 rfl (by decide)
  replace Pq := Pq.alloc (.cells #[.int .u64 7] 45)
  replace Pr := Pr.alloc (.cells #[.int .u64 7] 45)
  replace Pm := Pm.alloc (.cells #[.int .u64 7] 45)
  replace Pa := Pa.alloc (.cells #[.int .u64 7] 45)
  replace hB := below_alloc hB (.cells #[.int .u64 7] 45)
  simp only [World.size_alloc] at Pb
  generalize hV3 : (World.alloc (World.alloc w3 (.cells #[.int .u64 2] 45)) (.cells #[.int .u64 7] 45)) = V3 at Pq Pr Pm Pa Pb hB ⊢
  clear hV3
  refine (gInvOk 3 Pa Pb rfl rfl (by decide) (by decide) (by decide) gc27 iv27).mono ?_
  rintro e w4 ⟨A4, c4, rfl, Pi, hb⟩
  replace Pq := Pq.below hb
  replace Pr := Pr.below hb
  replace Pm := Pm.below hb
  replace Pa := Pa.below hb
  replace Pb := Pb.below hb
  replace hB := below_then hB hb
  clear hb
  clear Pa
  clear Pb
  go_wp2_with fail
  have Pa := pol1 w4 3 3 rfl (by decide)
  replace Pq := Pq.alloc (.cells #[.int .u64 3] 45)
  replace Pr := Pr.alloc (.cells #[.int .u64 3] 45)
  replace Pm := Pm.alloc (.cells #[.int .u64 3] 45)
  replace Pi := Pi.alloc (.cells #[.int .u64 3] 45)
  replace hB := below_alloc hB (.cells #[.int .u64 3] 45)
  have Pb := pol1 (World.alloc w4 (.cells #[.int .u64 3] 45)) 5 5 rfl (by decide)
  replace Pq := Pq.alloc (.cells #[.int .u64 5] 45)
  replace Pr := Pr.alloc (.cells #[.int .u64 5] 45)
  replace Pm := Pm.alloc (.cells #[.int .u64 5] 45)
  replace Pi := Pi.alloc (.cells #[.int .u64 5] 45)
  replace Pa := Pa.alloc (.cells #[.int .u64 5] 45)
  replace hB := below_alloc hB (.cells #[.int .u64 5] 45)
  simp only [World.size_alloc] at Pb
  generalize hV4 : (World.alloc (World.alloc w4 (.cells #[.int .u64 3] 45)) (.cells #[.int .u64 5] 45)) = V4 at Pq Pr Pm Pi Pa Pb hB ⊢
  clear hV4
  refine (gInvNo Pa Pb rfl rfl (by decide) (by decide) (by decide) gc35).mono ?_
  rintro e w5 ⟨rfl, hb⟩
  replace Pq := Pq.below hb
  replace Pr := Pr.below hb
  replace Pm := Pm.below hb
  replace Pi := Pi.below hb
  replace Pa := Pa.below hb
  replace Pb := Pb.below hb
  replace hB := below_then hB hb
  clear hb
  clear Pa
  clear Pb
  go_wp2_with fail
  have Pa := pol1 w5 3 3 rfl (by decide)
  replace Pq := Pq.alloc (.cells #[.int .u64 3] 45)
  replace Pr := Pr.alloc (.cells #[.int .u64 3] 45)
  replace Pm := Pm.alloc (.cells #[.int .u64 3] 45)
  replace Pi := Pi.alloc (.cells #[.int .u64 3] 45)
  replace hB := below_alloc hB (.cells #[.int .u64 3] 45)
  generalize hV5 : (World.alloc w5 (.cells #[.int .u64 3] 45)) = V5 at Pq Pr Pm Pi Pa hB ⊢
  clear hV5
  refine (gInvZero (Pol.nil _ none 0 (by decide)) rfl (by decide) rfl).mono ?_
  rintro e w6 ⟨rfl, hb⟩
  replace Pq := Pq.below hb
  replace Pr := Pr.below hb
  replace Pm := Pm.below hb
  replace Pi := Pi.below hb
  replace Pa := Pa.below hb
  replace hB := below_then hB hb
  clear hb
  clear Pa
  go_wp2_with fail
  have Pa := pol2 w6 0 1 0 1 rfl rfl (by decide) (by decide)
  replace Pq := Pq.alloc (.cells #[.int .u64 0, .int .u64 1] 45)
  replace Pr := Pr.alloc (.cells #[.int .u64 0, .int .u64 1] 45)
  replace Pm := Pm.alloc (.cells #[.int .u64 0, .int .u64 1] 45)
  replace Pi := Pi.alloc (.cells #[.int .u64 0, .int .u64 1] 45)
  replace hB := below_alloc hB (.cells #[.int .u64 0, .int .u64 1] 45)
  have Pb := pol1 (World.alloc w6 (.cells #[.int .u64 0, .int .u64 1] 45)) 2 2 rfl (by decide)
  replace Pq := Pq.alloc (.cells #[.int .u64 2] 45)
  replace Pr := Pr.alloc (.cells #[.int .u64 2] 45)
  replace Pm := Pm.alloc (.cells #[.int .u64 2] 45)
  replace Pi := Pi.alloc (.cells #[.int .u64 2] 45)
  replace Pa := Pa.alloc (.cells #[.int .u64 2] 45)
  replace hB := below_alloc hB (.cells #[.int .u64 2] 45)
  simp only [World.size_alloc] at Pb
  generalize hV6 : (World.alloc (World.alloc w6 (.cells #[.int .u64 0, .int .u64 1] 45)) (.cells #[.int .u64 2] 45)) = V6 at Pq Pr Pm Pi Pa Pb hB ⊢
  clear hV6
  refine (Calls.mono (gMod 0 Pa Pb rfl rfl mod0 (by decide) (by decide) (by decide)) (fun _ _ h => ansE0 h)).mono ?_
  rintro e w7 ⟨A7, c7, rfl, hb⟩
  replace Pq := Pq.below hb
  replace Pr := Pr.below hb
  replace Pm := Pm.below hb
  replace Pi := Pi.below hb
  replace Pa := Pa.below hb
  replace Pb := Pb.below hb
  replace hB := below_then hB hb
  clear hb
  clear Pa
  clear Pb
  go_wp2_with fail
  have Q1 := pol1 w7 6 6 rfl (by decide)
  replace Pq := Pq.alloc (.cells #[.int .u64 6] 45)
  replace Pr := Pr.alloc (.cells #[.int .u64 6] 45)
  replace Pm := Pm.alloc (.cells #[.int .u64 6] 45)
  replace Pi := Pi.alloc (.cells #[.int .u64 6] 45)
  replace hB := below_alloc hB (.cells #[.int .u64 6] 45)
  generalize hV7 : World.alloc _ _ = V7 at Pq Pr Pm Pi Q1 hB ⊢
  clear hV7
  refine (gWords true Pq Q1 rfl rfl (by rw [words1 6 (by decide) (by decide)]; rfl) (Nat.le_trans (wl 1 (by decide)) (by decide))).mono ?_
  rintro e w8 ⟨rfl, hb⟩
  replace Pq := Pq.below hb
  replace Pr := Pr.below hb
  replace Pm := Pm.below hb
  replace Pi := Pi.below hb
  replace Q1 := Q1.below hb
  replace hB := below_then hB hb
  clear hb
  clear Pq
  clear Q1
  go_wp2_with fail
  have Q2 := pol1 w8 1 1 rfl (by decide)
  replace Pr := Pr.alloc (.cells #[.int .u64 1] 45)
  replace Pm := Pm.alloc (.cells #[.int .u64 1] 45)
  replace Pi := Pi.alloc (.cells #[.int .u64 1] 45)
  replace hB := below_alloc hB (.cells #[.int .u64 1] 45)
  generalize hV8 : World.alloc _ _ = V8 at Pr Pm Pi Q2 hB ⊢
  clear hV8
  refine (gWords true Pr Q2 rfl rfl (by rw [words1 1 (by decide) (by decide)]; rfl) (Nat.le_trans (wl 1 (by decide)) (by decide))).mono ?_
  rintro e w9 ⟨rfl, hb⟩
  replace Pr := Pr.below hb
  replace Pm := Pm.below hb
  replace Pi := Pi.below hb
  replace Q2 := Q2.below hb
  replace hB := below_then hB hb
  clear hb
  clear Pr
  clear Q2
  go_wp2_with fail
  have Q3 := pol1 w9 3 3 rfl (by decide)
  replace Pm := Pm.alloc (.cells #[.int .u64 3] 45)
  replace Pi := Pi.alloc (.cells #[.int .u64 3] 45)
  replace hB := below_alloc hB (.cells #[.int .u64 3] 45)
  generalize hV9 : World.alloc _ _ = V9 at Pm Pi Q3 hB ⊢
  clear hV9
  refine (gWords true Pm Q3 rfl rfl (by rw [words1 3 (by decide) (by decide)]; rfl) (Nat.le_trans (wl 1 (by decide)) (by decide))).mono ?_
  rintro e w10 ⟨rfl, hb⟩
  replace Pm := Pm.below hb
  replace Pi := Pi.below hb
  replace Q3 := Q3.below hb
  replace hB := below_then hB hb
  clear hb
  clear Pm
  clear Q3
  go_wp2_with fail
  have Q4 := pol1 w10 3 3 rfl (by decide)
  replace Pi := Pi.alloc (.cells #[.int .u64 3] 45)
  replace hB := below_alloc hB (.cells #[.int .u64 3] 45)
  generalize hV10 : World.alloc _ _ = V10 at Pi Q4 hB ⊢
  clear hV10
  refine (gWords true Pi Q4 rfl rfl (by rw [words1 3 (by decide) (by decide)]; rfl) (Nat.le_trans (wl 1 (by decide)) (by decide))).mono ?_
  rintro e w11 ⟨rfl, hb⟩
  replace Pi := Pi.below hb
  replace Q4 := Q4.below hb
  replace hB := below_then hB hb
  clear hb
  clear Pi
  clear Q4
  go_wp2_with fail
  have Pa := pol1 w11 5 5 rfl (by decide)
  replace hB := below_alloc hB (.cells #[.int .u64 5] 45)
  have Pb := pol1 (World.alloc w11 (.cells #[.int .u64 5] 45)) 3 3 rfl (by decide)
  replace Pa := Pa.alloc (.cells #[.int .u64 3] 45)
  replace hB := below_alloc hB (.cells #[.int .u64 3] 45)
  simp only [World.size_alloc] at Pb
  generalize hV11 : (World.alloc (World.alloc w11 (.cells #[.int .u64 5] 45)) (.cells #[.int .u64 3] 45)) = V11 at Pa Pb hB ⊢
  clear hV11
  refine (gGcd 3 Pa Pb rfl rfl gc53 (by decide) (by decide)).mono ?_
  rintro e w12 ⟨A12, c12, rfl, Pg, hb⟩
  replace Pa := Pa.below hb
  replace Pb := Pb.below hb
  replace hB := below_then hB hb
  clear hb
  clear Pa
  clear Pb
  go_wp2_with fail
  have Q5 := pol1 w12 3 3 rfl (by decide)
  replace Pg := Pg.alloc (.cells #[.int .u64 3] 45)
  replace hB := below_alloc hB (.cells #[.int .u64 3] 45)
  generalize hV12 : World.alloc _ _ = V12 at Pg Q5 hB ⊢
  clear hV12
  refine (gWords true Pg Q5 rfl rfl (by rw [words1 3 (by decide) (by decide)]; rfl) (Nat.le_trans (wl 1 (by decide)) (by decide))).mono ?_
  rintro e w13 ⟨rfl, hb⟩
  replace Pg := Pg.below hb
  replace Q5 := Q5.below hb
  replace hB := below_then hB hb
  clear hb
  clear Pg
  clear Q5
  go_wp2_with fail
  refine (Calls.mono (gGcd 0 (Pol.nil _ none 0 (by decide)) (Pol.nil _ none 0 (by decide)) rfl rfl gc00 (by decide) (by decide)) (fun _ _ h => ans0 h)).mono ?_
  rintro e w14 ⟨A14, c14, rfl, hb⟩
  replace hB := below_then hB hb
  clear hb
  go_wp2_with fail
  go_ret
  exact ⟨rfl, hB⟩
end Go.Proofs.Ytkfebhfbdhdibaa
