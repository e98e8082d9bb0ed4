/-
  awake of layer 4's statements answers true; large. Made by wip/gen/gfwawake.py.
-/
import Derived.Test.YtmhglbnoddimhaaGfwE
import Derived.Test.YtmhglbnoddimhaaGfpK
namespace Go.Proofs.Ytmhglbnoddimhaa
open Go.RowKit G
set_option linter.unusedVariables false

theorem rtq {a b : Nat} (q r : Nat) (hb : b ≠ 0) (h : clmF 8 q b = a ^^^ r) (b70 : b < 2 ^ 8) (hr : len r < len b) : qt a b = q ∧ rt a b = r :=
  qr_of hb (by rw [← clmF_eq 8 q b b70, h, xor_cancel]) hr
theorem c22 : clm 2 2 = 4 := clm_by 2 (by decide) (by decide)
theorem x27 : pr 2 2 7 = 3 := by unfold pr; rw [pw_2, c22]; exact (rtq 1 3 (by decide) (by decide) (by decide) (by decide)).2
theorem x37 : pr 2 3 7 = 1 := by unfold pr; rw [pw_succ, pw_2, c22, clm_by 2 (a := 4) (b := 2) (c := 8) (by decide) (by decide)]; exact (rtq 3 1 (by decide) (by decide) (by decide) (by decide)).2
theorem x07 : pr 3 0 7 = 1 := by rw [pr_zero]; exact rt_small (by decide)
theorem x47 : pr 2 (2 ^ 2) 7 = 2 := by
  unfold pr
  rw [show (2 : Nat) ^ 2 = 2 + 2 from rfl, pw_add, pw_2, c22, clm_by 3 (a := 4) (b := 4) (c := 16) (by decide) (by decide)]
  exact (rtq 6 2 (by decide) (by decide) (by decide) (by decide)).2
theorem x47w : pr (leN (wordsOf 2)) (2 ^ 2) 7 = 2 := by rw [leN_wordsOf]; exact x47
theorem wn0 : Wn 0 0 0 := ⟨by decide, by decide, by decide, by decide, by decide⟩
theorem wn65 : Wn 1 0 18446744073709551616 := ⟨by decide, by decide, by decide, by decide, by decide⟩
theorem l2 : (wordsOf 2).length ≤ 20000 := Nat.le_trans (wl 1 (by decide)) (by decide)
theorem few_parts {n : Nat} (h2 : 2 ≤ n) (h : len n ≤ 2) : n = 2 ∨ n = 3 := by
  have := len_lt n
  have : n < 2 ^ 2 := Nat.lt_of_lt_of_le this (Nat.pow_le_pow_right (by decide) h)
  omega
theorem irr7 : Irr 7 := (irr_tried (by decide) (by decide)).2 (fun n a b c => by
  have l : len 7 = 3 := by decide
  rw [l] at c
  rcases few_parts a (by omega) with rfl | rfl
  · rw [(rtq (a := 7) (b := 2) 3 1 (by decide) (by decide) (by decide) (by decide)).2]; decide
  · rw [(rtq (a := 7) (b := 3) 2 1 (by decide) (by decide) (by decide) (by decide)).2]; decide)
theorem irr11 : Irr 11 := (irr_tried (by decide) (by decide)).2 (fun n a b c => by
  have l : len 11 = 4 := by decide
  rw [l] at c
  rcases few_parts a (by omega) with rfl | rfl
  · rw [(rtq (a := 11) (b := 2) 5 1 (by decide) (by decide) (by decide) (by decide)).2]; decide
  · rw [(rtq (a := 11) (b := 3) 6 1 (by decide) (by decide) (by decide) (by decide)).2]; decide)
theorem not5 : ¬ Irr 5 := by
  have := product_not (a := 3) (b := 3) (by decide) (by decide)
  rwa [clm_by 2 (a := 3) (b := 3) (c := 5) (by decide) (by decide)] at this
theorem not1 : ¬ Irr 1 := fun h => by have := h.1; rw [len_one] at this; omega

set_option maxRecDepth 100000 in
set_option maxHeartbeats 4000000 in
theorem awake4 (w : World) : Calls Try.prog 8 #[] w (Bl true w) := by
  go_enter Try.func8, Try.ntmps8
  have hB : Below w.heap.size w w := Below.refl _ _
  go_wp2_with fail
  have Pp := pol1 w 7 7 rfl (by decide)
  replace hB := below_alloc hB (.cells #[.int .u64 7] 24)
  generalize hV0 : (World.alloc w (.cells #[.int .u64 7] 24)) = V0 at Pp hB ⊢
  clear hV0
  refine (cOf 2 2 rfl (by decide) _).mono ?_
  rintro e w1 ⟨rfl, hb⟩
  replace Pp := Pp.below hb
  replace hB := below_then hB hb
  clear hb
  go_wp2_with fail
  refine (gXp 3 (wn_of (by decide)) Pp rfl x27 (by decide) (by decide)).mono ?_
  rintro e w2 ⟨A2, c2, rfl, Pa, hb⟩
  replace Pp := Pp.below hb
  replace hB := below_then hB hb
  clear hb
  go_wp2_with fail
  refine (cOf 3 3 rfl (by decide) _).mono ?_
  rintro e w3 ⟨rfl, hb⟩
  replace Pp := Pp.below hb
  replace Pa := Pa.below hb
  replace hB := below_then hB hb
  clear hb
  go_wp2_with fail
  refine (gXp 1 (wn_of (by decide)) Pp rfl x37 (by decide) (by decide)).mono ?_
  rintro e w4 ⟨A4, c4, rfl, Pb, hb⟩
  replace Pp := Pp.below hb
  replace Pa := Pa.below hb
  replace hB := below_then hB hb
  clear hb
  go_wp2_with fail
  have Pt := pol1 w4 3 3 rfl (by decide)
  replace Pp := Pp.alloc (.cells #[.int .u64 3] 24)
  replace Pa := Pa.alloc (.cells #[.int .u64 3] 24)
  replace Pb := Pb.alloc (.cells #[.int .u64 3] 24)
  replace hB := below_alloc hB (.cells #[.int .u64 3] 24)
  generalize hV1 : (World.alloc w4 (.cells #[.int .u64 3] 24)) = V1 at Pp Pa Pb Pt hB ⊢
  clear hV1
  refine (gPow 1 wn0 Pt Pp rfl rfl x07 (by decide) (by decide) (by decide)).mono ?_
  rintro e w5 ⟨A5, c5, rfl, Pc, hb⟩
  replace Pp := Pp.below hb
  replace Pa := Pa.below hb
  replace Pb := Pb.below hb
  replace Pt := Pt.below hb
  replace hB := below_then hB hb
  clear hb
  clear Pt
  go_wp2_with fail
  refine (cOf 2 2 rfl (by decide) _).mono ?_
  rintro e w6 ⟨rfl, hb⟩
  replace Pp := Pp.below hb
  replace Pa := Pa.below hb
  replace Pb := Pb.below hb
  replace Pc := Pc.below hb
  replace hB := below_then hB hb
  clear hb
  go_wp2_with fail
  have Pz := pol1 w6 0 0 rfl (by decide)
  replace Pp := Pp.alloc (.cells #[.int .u64 0] 24)
  replace Pa := Pa.alloc (.cells #[.int .u64 0] 24)
  replace Pb := Pb.alloc (.cells #[.int .u64 0] 24)
  replace Pc := Pc.alloc (.cells #[.int .u64 0] 24)
  replace hB := below_alloc hB (.cells #[.int .u64 0] 24)
  generalize hV2 : (World.alloc w6 (.cells #[.int .u64 0] 24)) = V2 at Pp Pa Pb Pc Pz hB ⊢
  clear hV2
  refine (gXpZero _ _ Pz rfl (by decide) rfl).mono ?_
  rintro e w7 ⟨rfl, hb⟩
  replace Pp := Pp.below hb
  replace Pa := Pa.below hb
  replace Pb := Pb.below hb
  replace Pc := Pc.below hb
  replace Pz := Pz.below hb
  replace hB := below_then hB hb
  clear hb
  clear Pz
  go_wp2_with fail
  refine (gX 1 2 1 rfl rfl (by decide) _).mono ?_
  rintro e w8 ⟨A8, c8, rfl, Px, hb⟩
  replace Pp := Pp.below hb
  replace Pa := Pa.below hb
  replace Pb := Pb.below hb
  replace Pc := Pc.below hb
  replace hB := below_then hB hb
  clear hb
  go_wp2_with fail
  refine (gSquares 2 2 2 rfl Px Pp rfl rfl l2 (by decide) (by decide) (by decide) x47w).mono ?_
  rintro e w9 ⟨A9, c9, rfl, Ps, hb⟩
  replace Pp := Pp.below hb
  replace Pa := Pa.below hb
  replace Pb := Pb.below hb
  replace Pc := Pc.below hb
  replace Px := Px.below hb
  replace hB := below_then hB hb
  clear hb
  clear Px
  go_wp2_with fail
  refine (gX 1 2 1 rfl rfl (by decide) _).mono ?_
  rintro e w10 ⟨A10, c10, rfl, Px, hb⟩
  replace Pp := Pp.below hb
  replace Pa := Pa.below hb
  replace Pb := Pb.below hb
  replace Pc := Pc.below hb
  replace Ps := Ps.below hb
  replace hB := below_then hB hb
  clear hb
  go_wp2_with fail
  refine (gSquaresArg (-1) Px Pp rfl rfl l2 (by decide) (by decide) (.inl (by decide))).mono ?_
  rintro e w11 ⟨rfl, hb⟩
  replace Pp := Pp.below hb
  replace Pa := Pa.below hb
  replace Pb := Pb.below hb
  replace Pc := Pc.below hb
  replace Ps := Ps.below hb
  replace Px := Px.below hb
  replace hB := below_then hB hb
  clear hb
  clear Px
  go_wp2_with fail
  refine (gX 1 2 1 rfl rfl (by decide) _).mono ?_
  rintro e w12 ⟨A12, c12, rfl, Px, hb⟩
  replace Pp := Pp.below hb
  replace Pa := Pa.below hb
  replace Pb := Pb.below hb
  replace Pc := Pc.below hb
  replace Ps := Ps.below hb
  replace hB := below_then hB hb
  clear hb
  go_wp2_with fail
  refine (gSquaresZero (-1) (Pol.nil _ none 0 (by decide)) rfl (by decide) rfl).mono ?_
  rintro e w13 ⟨rfl, hb⟩
  replace Pp := Pp.below hb
  replace Pa := Pa.below hb
  replace Pb := Pb.below hb
  replace Pc := Pc.below hb
  replace Ps := Ps.below hb
  replace Px := Px.below hb
  replace hB := below_then hB hb
  clear hb
  clear Px
  go_wp2_with fail
  have Q1 := pol1 w13 3 3 rfl (by decide)
  replace Pp := Pp.alloc (.cells #[.int .u64 3] 24)
  replace Pa := Pa.alloc (.cells #[.int .u64 3] 24)
  replace Pb := Pb.alloc (.cells #[.int .u64 3] 24)
  replace Pc := Pc.alloc (.cells #[.int .u64 3] 24)
  replace Ps := Ps.alloc (.cells #[.int .u64 3] 24)
  replace hB := below_alloc hB (.cells #[.int .u64 3] 24)
  generalize hV3 : World.alloc _ _ = V3 at Pp Pa Pb Pc Ps Q1 hB ⊢
  clear hV3
  refine (gWords true Pa Q1 rfl rfl (by rw [words1 3 (by decide) (by decide)]; rfl) (Nat.le_trans (wl 1 (by decide)) (by decide))).mono ?_
  rintro e w14 ⟨rfl, hb⟩
  replace Pp := Pp.below hb
  replace Pa := Pa.below hb
  replace Pb := Pb.below hb
  replace Pc := Pc.below hb
  replace Ps := Ps.below hb
  replace Q1 := Q1.below hb
  replace hB := below_then hB hb
  clear hb
  clear Pa
  clear Q1
  go_wp2_with fail
  have Q2 := pol1 w14 1 1 rfl (by decide)
  replace Pp := Pp.alloc (.cells #[.int .u64 1] 24)
  replace Pb := Pb.alloc (.cells #[.int .u64 1] 24)
  replace Pc := Pc.alloc (.cells #[.int .u64 1] 24)
  replace Ps := Ps.alloc (.cells #[.int .u64 1] 24)
  replace hB := below_alloc hB (.cells #[.int .u64 1] 24)
  generalize hV4 : World.alloc _ _ = V4 at Pp Pb Pc Ps Q2 hB ⊢
  clear hV4
  refine (gWords true Pb Q2 rfl rfl (by rw [words1 1 (by decide) (by decide)]; rfl) (Nat.le_trans (wl 1 (by decide)) (by decide))).mono ?_
  rintro e w15 ⟨rfl, hb⟩
  replace Pp := Pp.below hb
  replace Pb := Pb.below hb
  replace Pc := Pc.below hb
  replace Ps := Ps.below hb
  replace Q2 := Q2.below hb
  replace hB := below_then hB hb
  clear hb
  clear Pb
  clear Q2
  go_wp2_with fail
  have Q3 := pol1 w15 1 1 rfl (by decide)
  replace Pp := Pp.alloc (.cells #[.int .u64 1] 24)
  replace Pc := Pc.alloc (.cells #[.int .u64 1] 24)
  replace Ps := Ps.alloc (.cells #[.int .u64 1] 24)
  replace hB := below_alloc hB (.cells #[.int .u64 1] 24)
  generalize hV5 : World.alloc _ _ = V5 at Pp Pc Ps Q3 hB ⊢
  clear hV5
  refine (gWords true Pc Q3 rfl rfl (by rw [words1 1 (by decide) (by decide)]; rfl) (Nat.le_trans (wl 1 (by decide)) (by decide))).mono ?_
  rintro e w16 ⟨rfl, hb⟩
  replace Pp := Pp.below hb
  replace Pc := Pc.below hb
  replace Ps := Ps.below hb
  replace Q3 := Q3.below hb
  replace hB := below_then hB hb
  clear hb
  clear Pc
  clear Q3
  go_wp2_with fail
  have Q4 := pol1 w16 2 2 rfl (by decide)
  replace Pp := Pp.alloc (.cells #[.int .u64 2] 24)
  replace Ps := Ps.alloc (.cells #[.int .u64 2] 24)
  replace hB := below_alloc hB (.cells #[.int .u64 2] 24)
  generalize hV6 : World.alloc _ _ = V6 at Pp Ps Q4 hB ⊢
  clear hV6
  refine (gWords true Ps Q4 rfl rfl (by rw [words1 2 (by decide) (by decide)]; rfl) (Nat.le_trans (wl 1 (by decide)) (by decide))).mono ?_
  rintro e w17 ⟨rfl, hb⟩
  replace Pp := Pp.below hb
  replace Ps := Ps.below hb
  replace Q4 := Q4.below hb
  replace hB := below_then hB hb
  clear hb
  clear Ps
  clear Q4
  go_wp2_with fail
  refine (gIrrYes Pp rfl (by decide) irr7 (by decide)).mono ?_
  rintro e w18 ⟨rfl, hb⟩
  replace Pp := Pp.below hb
  replace hB := below_then hB hb
  clear hb
  clear Pp
  go_wp2_with fail
  have Pq := pol1 w18 11 11 rfl (by decide)
  replace hB := below_alloc hB (.cells #[.int .u64 11] 24)
  generalize hV7 : (World.alloc w18 (.cells #[.int .u64 11] 24)) = V7 at Pq hB ⊢
  clear hV7
  refine (gIrrYes Pq rfl (by decide) irr11 (by decide)).mono ?_
  rintro e w19 ⟨rfl, hb⟩
  replace Pq := Pq.below hb
  replace hB := below_then hB hb
  clear hb
  clear Pq
  go_wp2_with fail
  have Pr := pol1 w19 5 5 rfl (by decide)
  replace hB := below_alloc hB (.cells #[.int .u64 5] 24)
  generalize hV8 : (World.alloc w19 (.cells #[.int .u64 5] 24)) = V8 at Pr hB ⊢
  clear hV8
  refine (gIrrNo Pr rfl (by decide) not5).mono ?_
  rintro e w20 ⟨rfl, hb⟩
  replace Pr := Pr.below hb
  replace hB := below_then hB hb
  clear hb
  clear Pr
  go_wp2_with fail
  have Pu := pol1 w20 1 1 rfl (by decide)
  replace hB := below_alloc hB (.cells #[.int .u64 1] 24)
  generalize hV9 : (World.alloc w20 (.cells #[.int .u64 1] 24)) = V9 at Pu hB ⊢
  clear hV9
  refine (gIrrNo Pu rfl (by decide) not1).mono ?_
  rintro e w21 ⟨rfl, hb⟩
  replace Pu := Pu.below hb
  replace hB := below_then hB hb
  clear hb
  clear Pu
  go_wp2_with fail
  refine (gRounds 65 wn65 (by decide) _).mono ?_
  rintro e w22 ⟨rfl, hb⟩
  replace hB := below_then hB hb
  clear hb
  go_wp2_with fail
  go_ret
  exact ⟨rfl, hB⟩

set_option maxHeartbeats 1000000 in
theorem largeNo (b n : Nat) (c : Nat) (A : Nat → Option Addr) (Ln C : Nat → Nat) (hn : n ≤ 1000) (w : World) (hc : ∀ i, i < n → w.cell? ⟨b, i, none⟩ = some (.slice (A i) (Ln i) (C i))) (h : ∀ i, i < n → Ln i ≤ 4) :
    Calls Try.prog 9 #[.slice (some ⟨b, 0, none⟩) n c] w (fun e w' => e = .returned (.bool false) ∧ w = w') := by
  have HC := Lib.hid hc
  have HH := Lib.hid h
  clear hc h
  go_enter Try.func9, Try.ntmps9
  go_wp2
  go_loop [7] (fun i => ∃ k : Nat, k ≤ n ∧ i = .int .i64 k) (fun i => n - (intOf i).toNat)
  case atStart => exact ⟨0, by omega, rfl⟩
  case round =>
    obtain ⟨k, hk, rfl⟩ := hrel
    by_cases hlt : k < n
    · have kl : (k : Int) < (n : Int) := by omega
      have k0 : (0 : Int) ≤ (k : Int) := by omega
      have q := HC.out k hlt
      have q2 := HH.out k hlt
      generalize A k = A' at q
      generalize Ln k = L' at q q2
      generalize C k = C' at q
      have q3 : ¬ ((4 : Int) < (L' : Int)) := by omega
      go_wp2
      go_round
      case rel => exact ⟨k + 1, by omega, by go_num⟩
      case measure => simp [intOf]; omega
    · have kl : ¬ ((k : Int) < (n : Int)) := by omega
      go_wp2
      go_ret
      exact ⟨rfl, rfl⟩
set_option maxHeartbeats 1000000 in
theorem largeYes (b n : Nat) (c : Nat) (A : Nat → Option Addr) (Ln C : Nat → Nat) (hn : n ≤ 1000) (w : World) (hc : ∀ i, i < n → w.cell? ⟨b, i, none⟩ = some (.slice (A i) (Ln i) (C i))) (h : ∃ i, i < n ∧ 4 < Ln i) :
    Calls Try.prog 9 #[.slice (some ⟨b, 0, none⟩) n c] w (fun e w' => e = .returned (.bool true) ∧ w = w') := by
  have HC := Lib.hid hc
  have HH := Lib.hid h
  clear hc h
  go_enter Try.func9, Try.ntmps9
  go_wp2
  go_loop [7] (fun i => ∃ k : Nat, k ≤ n ∧ i = .int .i64 k ∧ Hid (∃ i, k ≤ i ∧ i < n ∧ 4 < Ln i)) (fun i => n - (intOf i).toNat)
  case atStart => exact ⟨0, by omega, rfl, Lib.hid (by obtain ⟨i, a, b⟩ := HH.out; exact ⟨i, by omega, a, b⟩)⟩
  case round =>
    obtain ⟨k, hk, rfl, hf⟩ := hrel
    have hlt : k < n := by obtain ⟨i, a, b, _⟩ := hf.out; omega
    have kl : (k : Int) < (n : Int) := by omega
    have k0 : (0 : Int) ≤ (k : Int) := by omega
    have q := HC.out k hlt
    by_cases hl : 4 < Ln k
    · generalize A k = A' at q
      generalize Ln k = L' at q hl
      generalize C k = C' at q
      have q3 : (4 : Int) < (L' : Int) := by omega
      go_wp2
      go_ret
      exact ⟨rfl, rfl⟩
    · have hf' := Lib.hid (show ∃ i, k + 1 ≤ i ∧ i < n ∧ 4 < Ln i from by
        obtain ⟨i, a, b, c⟩ := hf.out
        refine ⟨i, ?_, b, c⟩
        by_cases e : i = k
        · subst e; exact absurd c hl
        · omega)
      generalize A k = A' at q
      generalize Ln k = L' at q hl
      generalize C k = C' at q
      have q3 : ¬ ((4 : Int) < (L' : Int)) := by omega
      go_wp2
      go_round
      case rel => exact ⟨k + 1, by omega, by go_num, hf'⟩
      case measure => simp [intOf]; omega
theorem large2No (A B : Option Addr) (La ca Lb cb : Nat) (ha : La ≤ 4) (hb : Lb ≤ 4) (w : World) :
    Calls Try.prog 9 #[.slice (some ⟨w.heap.size, 0, none⟩) 2 2] (w.alloc (.cells #[.slice A La ca, .slice B Lb cb] 23)) (fun e w' => e = .returned (.bool false) ∧ w.alloc (.cells #[.slice A La ca, .slice B Lb cb] 23) = w') :=
  largeNo _ 2 2 _ _ _ (by decide) _ (cells2 A B La ca Lb cb w) (fun i _ => by split <;> assumption)
theorem large2Yes (A B : Option Addr) (La ca Lb cb : Nat) (h : 4 < La ∨ 4 < Lb) (w : World) :
    Calls Try.prog 9 #[.slice (some ⟨w.heap.size, 0, none⟩) 2 2] (w.alloc (.cells #[.slice A La ca, .slice B Lb cb] 23)) (fun e w' => e = .returned (.bool true) ∧ w.alloc (.cells #[.slice A La ca, .slice B Lb cb] 23) = w') :=
  largeYes _ 2 2 _ _ _ (by decide) _ (cells2 A B La ca Lb cb w) (by
    rcases h with h | h
    · exact ⟨0, by omega, by simpa using h⟩
    · exact ⟨1, by omega, by simpa using h⟩)
end Go.Proofs.Ytmhglbnoddimhaa
