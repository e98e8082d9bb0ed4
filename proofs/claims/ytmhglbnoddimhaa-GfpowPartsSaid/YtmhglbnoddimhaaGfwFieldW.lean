/-
  GfpowField of layer 4 answers true for every two numbers of 64 bits. Made by wip/gen/gfwlaws.py.
-/
import Derived.Test.YtmhglbnoddimhaaGfwJ
namespace Go.Proofs.Ytmhglbnoddimhaa
open Go.RowKit G
set_option linter.unusedVariables false

theorem len20 (x : Nat) : [x].length ≤ 20000 := by simp
theorem len50 (x : Nat) : [x].length ≤ 50000 := by simp
theorem leN_one (p : Nat) : leN [p] = p := by simp [leN]
/-- An answer that is 0, as no words, and an error's number. -/
def AnsEN (w : World) (e : Ending) (w' : World) : Prop := ∃ (A : Option Addr) (cap : Nat), e = .returned (.tuple #[.slice A 0 cap, .int .i64 0]) ∧ Pol w' A cap [] ∧ Below w.heap.size w w'
theorem ansEN {w : World} {e : Ending} {w' : World} (h : AnsE 0 0 w e w') : AnsEN w e w' := by
  obtain ⟨A, c, he, P, hb⟩ := h
  rw [wordsOf_zero] at he P
  exact ⟨A, c, he, P, hb⟩

set_option maxRecDepth 100000 in
set_option maxHeartbeats 4000000 in
theorem field_no (p a : Nat) (hp : p < 18446744073709551616) (n : Hid (¬ Irr (leN [p]))) (w : World) :
    Calls Try.prog 7 #[.int .u64 (p : Int), .int .u64 (a : Int)] w (Bl true w) := by
  go_enter Try.func7, Try.ntmps7
  have hB : Below w.heap.size w w := Below.refl _ _
  go_wp2_with fail
  refine (awake4 _).mono ?_
  rintro e w1 ⟨rfl, hb⟩
  replace hB := below_then hB hb
  clear hb
  go_wp2_with fail
  have Pq := pol1 w1 p (p : Int) rfl hp
  replace hB := below_alloc hB (.cells #[.int .u64 (p : Int)] 24)
  generalize hV0 : (World.alloc w1 (.cells #[.int .u64 (p : Int)] 24)) = V0 at Pq hB ⊢
  clear hV0
  refine (gIrrNo Pq rfl (len20 _) n.out).mono ?_
  rintro e w2 ⟨rfl, hb⟩
  replace Pq := Pq.below hb
  replace hB := below_then hB hb
  clear hb
  go_wp2_with fail
  go_ret
  exact ⟨rfl, hB⟩
theorem l2b : (wordsOf 2).length ≤ 50000 := Nat.le_trans (wl 1 (by decide)) (by decide)
set_option maxRecDepth 100000 in
set_option maxHeartbeats 4000000 in
theorem field_zero (p a d T M M1 Y : Nat) (hp : p < 18446744073709551616) (ha : a < 18446744073709551616) (irr : Hid (Irr (leN [p]))) (hl : Hid (len (leN [p]) ≤ 257)) (h0 : Hid (leN [p] ≠ 0)) (dd : Hid (((len (leN [p]) : Nat) : Int) - 1 = (d : Int))) (d63 : d ≤ 63) (eS : Hid (pr (leN (wordsOf 2)) (2 ^ d) (leN [p]) = T)) (eT : Hid (rt (leN (wordsOf 2)) (leN [p]) = T)) (kT : Hid ((wordsOf T).length ≤ 50000)) (eM : Hid (1 * 2 ^ d = M)) (bM : Hid (M < 340282366920938463463374607431768211456)) (m1 : Hid (1 ≤ M)) (eM1 : Hid (M - 1 = M1)) (bM1 : Hid (M1 < 340282366920938463463374607431768211456)) (er : Hid (rt (leN [a]) (leN [p]) = 0)) (ey : Hid (pr (leN []) M1 (leN [p]) = Y)) (w : World) :
    Calls Try.prog 7 #[.int .u64 (p : Int), .int .u64 (a : Int)] w (Bl true w) := by
  go_enter Try.func7, Try.ntmps7
  have hB : Below w.heap.size w w := Below.refl _ _
  go_wp2_with fail
  refine (awake4 _).mono ?_
  rintro e w1 ⟨rfl, hb⟩
  replace hB := below_then hB hb
  clear hb
  go_wp2_with fail
  have Pq := pol1 w1 p (p : Int) rfl hp
  replace hB := below_alloc hB (.cells #[.int .u64 (p : Int)] 24)
  generalize hV0 : (World.alloc w1 (.cells #[.int .u64 (p : Int)] 24)) = V0 at Pq hB ⊢
  clear hV0
  refine (gIrrYes Pq rfl (len20 _) irr.out hl.out).mono ?_
  rintro e w2 ⟨rfl, hb⟩
  replace Pq := Pq.below hb
  replace hB := below_then hB hb
  clear hb
  go_wp2_with fail
  refine (gDeg (d : Int) Pq rfl dd.out (len50 _)).mono ?_
  rintro e w3 ⟨rfl, rfl⟩
  go_wp2_with fail
  refine (gX 1 2 1 rfl rfl (by decide) _).mono ?_
  rintro e w4 ⟨A4, c4, rfl, Px, hb⟩
  replace Pq := Pq.below hb
  replace hB := below_then hB hb
  clear hb
  go_wp2_with fail
  refine (gSquares d T (d : Int) rfl Px Pq rfl rfl l2 (len20 _) h0.out (by omega) eS.out).mono ?_
  rintro e w5 ⟨A5, c5, rfl, Ps, hb⟩
  replace Pq := Pq.below hb
  replace Px := Px.below hb
  replace hB := below_then hB hb
  clear hb
  clear Px
  go_wp2_with fail
  refine (gX 1 2 1 rfl rfl (by decide) _).mono ?_
  rintro e w6 ⟨A6, c6, rfl, Px, hb⟩
  replace Pq := Pq.below hb
  replace Ps := Ps.below hb
  replace hB := below_then hB hb
  clear hb
  go_wp2_with fail
  refine (gMod T Px Pq rfl rfl eT.out l2b (len50 _) h0.out).mono ?_
  rintro e w7 ⟨A7, c7, rfl, Pt, hb⟩
  replace Pq := Pq.below hb
  replace Ps := Ps.below hb
  replace Px := Px.below hb
  replace hB := below_then hB hb
  clear hb
  clear Px
  go_wp2_with fail
  have Pa := pol1 w7 a (a : Int) rfl ha
  replace Pq := Pq.alloc (.cells #[.int .u64 (a : Int)] 24)
  replace Ps := Ps.alloc (.cells #[.int .u64 (a : Int)] 24)
  replace Pt := Pt.alloc (.cells #[.int .u64 (a : Int)] 24)
  replace hB := below_alloc hB (.cells #[.int .u64 (a : Int)] 24)
  generalize hV1 : (World.alloc w7 (.cells #[.int .u64 (a : Int)] 24)) = V1 at Pq Ps Pt Pa hB ⊢
  clear hV1
  refine (Calls.mono (gMod 0 Pa Pq rfl rfl er.out (len50 _) (len50 _) h0.out) (fun _ _ h => ansEN h)).mono ?_
  rintro e w8 ⟨A8, c8, rfl, Pr, hb⟩
  replace Pq := Pq.below hb
  replace Ps := Ps.below hb
  replace Pt := Pt.below hb
  replace Pa := Pa.below hb
  replace hB := below_then hB hb
  clear hb
  clear Pa
  go_wp2_with fail
  refine (cOf 1 1 rfl (by decide) _).mono ?_
  rintro e w9 ⟨rfl, hb⟩
  replace Pq := Pq.below hb
  replace Ps := Ps.below hb
  replace Pt := Pt.below hb
  replace Pr := Pr.below hb
  replace hB := below_then hB hb
  clear hb
  go_wp2_with fail
  refine (cLeft d M (wn_of (by decide)) eM.out bM.out _).mono ?_
  rintro e w10 ⟨rfl, hb⟩
  replace Pq := Pq.below hb
  replace Ps := Ps.below hb
  replace Pt := Pt.below hb
  replace Pr := Pr.below hb
  replace hB := below_then hB hb
  clear hb
  go_wp2_with fail
  refine (cOf 1 1 rfl (by decide) _).mono ?_
  rintro e w11 ⟨rfl, hb⟩
  replace Pq := Pq.below hb
  replace Ps := Ps.below hb
  replace Pt := Pt.below hb
  replace Pr := Pr.below hb
  replace hB := below_then hB hb
  clear hb
  go_wp2_with fail
  refine (cSub M1 (wn_of bM.out) (wn_of (by decide)) m1.out eM1.out _).mono ?_
  rintro e w12 ⟨rfl, hb⟩
  replace Pq := Pq.below hb
  replace Ps := Ps.below hb
  replace Pt := Pt.below hb
  replace Pr := Pr.below hb
  replace hB := below_then hB hb
  clear hb
  go_wp2_with fail
  replace Pq := Pq.alloc (.cells #[.int .u64 ((hiW M1 : Nat) : Int), .int .u64 ((loW M1 : Nat) : Int)] 26)
  replace Ps := Ps.alloc (.cells #[.int .u64 ((hiW M1 : Nat) : Int), .int .u64 ((loW M1 : Nat) : Int)] 26)
  replace Pt := Pt.alloc (.cells #[.int .u64 ((hiW M1 : Nat) : Int), .int .u64 ((loW M1 : Nat) : Int)] 26)
  replace Pr := Pr.alloc (.cells #[.int .u64 ((hiW M1 : Nat) : Int), .int .u64 ((loW M1 : Nat) : Int)] 26)
  replace hB := below_alloc hB (.cells #[.int .u64 ((hiW M1 : Nat) : Int), .int .u64 ((loW M1 : Nat) : Int)] 26)
  generalize hV2 : World.alloc _ _ = V2 at Pq Ps Pt Pr hB ⊢
  clear hV2
  refine (gPow Y (wn_of bM1.out) Pr Pq rfl rfl ey.out (by decide) (len20 _) h0.out).mono ?_
  rintro e w13 ⟨A13, c13, rfl, Py, hb⟩
  replace Pq := Pq.below hb
  replace Ps := Ps.below hb
  replace Pt := Pt.below hb
  replace Pr := Pr.below hb
  replace hB := below_then hB hb
  clear hb
  go_wp2_with fail
  refine (gSame true Ps Pt rfl rfl (sameN_self _) kT.out).mono ?_
  rintro e w14 ⟨rfl, hb⟩
  replace Pq := Pq.below hb
  replace Ps := Ps.below hb
  replace Pt := Pt.below hb
  replace Pr := Pr.below hb
  replace Py := Py.below hb
  replace hB := below_then hB hb
  clear hb
  go_wp2_with fail
  go_ret
  exact ⟨rfl, hB⟩
set_option maxRecDepth 100000 in
set_option maxHeartbeats 4000000 in
theorem field_some (p a d T M M1 r t : Nat) (hp : p < 18446744073709551616) (ha : a < 18446744073709551616) (irr : Hid (Irr (leN [p]))) (hl : Hid (len (leN [p]) ≤ 257)) (h0 : Hid (leN [p] ≠ 0)) (dd : Hid (((len (leN [p]) : Nat) : Int) - 1 = (d : Int))) (d63 : d ≤ 63) (eS : Hid (pr (leN (wordsOf 2)) (2 ^ d) (leN [p]) = T)) (eT : Hid (rt (leN (wordsOf 2)) (leN [p]) = T)) (kT : Hid ((wordsOf T).length ≤ 50000)) (eM : Hid (1 * 2 ^ d = M)) (bM : Hid (M < 340282366920938463463374607431768211456)) (m1 : Hid (1 ≤ M)) (eM1 : Hid (M - 1 = M1)) (bM1 : Hid (M1 < 340282366920938463463374607431768211456)) (er : Hid (rt (leN [a]) (leN [p]) = r)) (eL : Hid ((wordsOf r).length = t + 1)) (t5 : t ≤ 5) (tz : ((t : Int) + 1 == 0) = false) (tz2 : (((t + 1 : Nat) : Int) == 0) = false) (ey : Hid (pr (leN (wordsOf r)) M1 (leN [p]) = 1)) (w : World) :
    Calls Try.prog 7 #[.int .u64 (p : Int), .int .u64 (a : Int)] w (Bl true w) := by
  go_enter Try.func7, Try.ntmps7
  have hB : Below w.heap.size w w := Below.refl _ _
  go_wp2_with fail
  refine (awake4 _).mono ?_
  rintro e w1 ⟨rfl, hb⟩
  replace hB := below_then hB hb
  clear hb
  go_wp2_with fail
  have Pq := pol1 w1 p (p : Int) rfl hp
  replace hB := below_alloc hB (.cells #[.int .u64 (p : Int)] 24)
  generalize hV0 : (World.alloc w1 (.cells #[.int .u64 (p : Int)] 24)) = V0 at Pq hB ⊢
  clear hV0
  refine (gIrrYes Pq rfl (len20 _) irr.out hl.out).mono ?_
  rintro e w2 ⟨rfl, hb⟩
  replace Pq := Pq.below hb
  replace hB := below_then hB hb
  clear hb
  go_wp2_with fail
  refine (gDeg (d : Int) Pq rfl dd.out (len50 _)).mono ?_
  rintro e w3 ⟨rfl, rfl⟩
  go_wp2_with fail
  refine (gX 1 2 1 rfl rfl (by decide) _).mono ?_
  rintro e w4 ⟨A4, c4, rfl, Px, hb⟩
  replace Pq := Pq.below hb
  replace hB := below_then hB hb
  clear hb
  go_wp2_with fail
  refine (gSquares d T (d : Int) rfl Px Pq rfl rfl l2 (len20 _) h0.out (by omega) eS.out).mono ?_
  rintro e w5 ⟨A5, c5, rfl, Ps, hb⟩
  replace Pq := Pq.below hb
  replace Px := Px.below hb
  replace hB := below_then hB hb
  clear hb
  clear Px
  go_wp2_with fail
  refine (gX 1 2 1 rfl rfl (by decide) _).mono ?_
  rintro e w6 ⟨A6, c6, rfl, Px, hb⟩
  replace Pq := Pq.below hb
  replace Ps := Ps.below hb
  replace hB := below_then hB hb
  clear hb
  go_wp2_with fail
  refine (gMod T Px Pq rfl rfl eT.out l2b (len50 _) h0.out).mono ?_
  rintro e w7 ⟨A7, c7, rfl, Pt, hb⟩
  replace Pq := Pq.below hb
  replace Ps := Ps.below hb
  replace Px := Px.below hb
  replace hB := below_then hB hb
  clear hb
  clear Px
  go_wp2_with fail
  have Pa := pol1 w7 a (a : Int) rfl ha
  replace Pq := Pq.alloc (.cells #[.int .u64 (a : Int)] 24)
  replace Ps := Ps.alloc (.cells #[.int .u64 (a : Int)] 24)
  replace Pt := Pt.alloc (.cells #[.int .u64 (a : Int)] 24)
  replace hB := below_alloc hB (.cells #[.int .u64 (a : Int)] 24)
  generalize hV1 : (World.alloc w7 (.cells #[.int .u64 (a : Int)] 24)) = V1 at Pq Ps Pt Pa hB ⊢
  clear hV1
  refine (gMod r Pa Pq rfl rfl er.out (len50 _) (len50 _) h0.out).mono ?_
  rintro e w8 ⟨A8, c8, rfl, Pr, hb⟩
  replace Pq := Pq.below hb
  replace Ps := Ps.below hb
  replace Pt := Pt.below hb
  replace Pa := Pa.below hb
  replace hB := below_then hB hb
  clear hb
  rw [eL.out]
  clear Pa
  go_wp2_with fail
  refine (cOf 1 1 rfl (by decide) _).mono ?_
  rintro e w9 ⟨rfl, hb⟩
  replace Pq := Pq.below hb
  replace Ps := Ps.below hb
  replace Pt := Pt.below hb
  replace Pr := Pr.below hb
  replace hB := below_then hB hb
  clear hb
  go_wp2_with fail
  refine (cLeft d M (wn_of (by decide)) eM.out bM.out _).mono ?_
  rintro e w10 ⟨rfl, hb⟩
  replace Pq := Pq.below hb
  replace Ps := Ps.below hb
  replace Pt := Pt.below hb
  replace Pr := Pr.below hb
  replace hB := below_then hB hb
  clear hb
  go_wp2_with fail
  refine (cOf 1 1 rfl (by decide) _).mono ?_
  rintro e w11 ⟨rfl, hb⟩
  replace Pq := Pq.below hb
  replace Ps := Ps.below hb
  replace Pt := Pt.below hb
  replace Pr := Pr.below hb
  replace hB := below_then hB hb
  clear hb
  go_wp2_with fail
  refine (cSub M1 (wn_of bM.out) (wn_of (by decide)) m1.out eM1.out _).mono ?_
  rintro e w12 ⟨rfl, hb⟩
  replace Pq := Pq.below hb
  replace Ps := Ps.below hb
  replace Pt := Pt.below hb
  replace Pr := Pr.below hb
  replace hB := below_then hB hb
  clear hb
  go_wp2_with fail
  replace Pq := Pq.alloc (.cells #[.int .u64 ((hiW M1 : Nat) : Int), .int .u64 ((loW M1 : Nat) : Int)] 26)
  replace Ps := Ps.alloc (.cells #[.int .u64 ((hiW M1 : Nat) : Int), .int .u64 ((loW M1 : Nat) : Int)] 26)
  replace Pt := Pt.alloc (.cells #[.int .u64 ((hiW M1 : Nat) : Int), .int .u64 ((loW M1 : Nat) : Int)] 26)
  replace Pr := Pr.alloc (.cells #[.int .u64 ((hiW M1 : Nat) : Int), .int .u64 ((loW M1 : Nat) : Int)] 26)
  replace hB := below_alloc hB (.cells #[.int .u64 ((hiW M1 : Nat) : Int), .int .u64 ((loW M1 : Nat) : Int)] 26)
  generalize hV2 : World.alloc _ _ = V2 at Pq Ps Pt Pr hB ⊢
  clear hV2
  refine (gPow 1 (wn_of bM1.out) Pr Pq eL.out rfl ey.out (by omega) (len20 _) h0.out).mono ?_
  rintro e w13 ⟨A13, c13, rfl, Py, hb⟩
  replace Pq := Pq.below hb
  replace Ps := Ps.below hb
  replace Pt := Pt.below hb
  replace Pr := Pr.below hb
  replace hB := below_then hB hb
  clear hb
  go_wp2_with fail
  refine (gSame true Ps Pt rfl rfl (sameN_self _) kT.out).mono ?_
  rintro e w14 ⟨rfl, hb⟩
  replace Pq := Pq.below hb
  replace Ps := Ps.below hb
  replace Pt := Pt.below hb
  replace Pr := Pr.below hb
  replace Py := Py.below hb
  replace hB := below_then hB hb
  clear hb
  go_wp2_with fail
  have P1 := pol1 w14 1 1 rfl (by decide)
  replace Pq := Pq.alloc (.cells #[.int .u64 1] 24)
  replace Ps := Ps.alloc (.cells #[.int .u64 1] 24)
  replace Pt := Pt.alloc (.cells #[.int .u64 1] 24)
  replace Pr := Pr.alloc (.cells #[.int .u64 1] 24)
  replace Py := Py.alloc (.cells #[.int .u64 1] 24)
  replace hB := below_alloc hB (.cells #[.int .u64 1] 24)
  generalize hV3 : (World.alloc w14 (.cells #[.int .u64 1] 24)) = V3 at Pq Ps Pt Pr Py P1 hB ⊢
  clear hV3
  refine (gSame true Py P1 rfl rfl (by rw [leN_wordsOf]; exact sameN_self _) (Nat.le_trans (wl 1 (by decide)) (by decide))).mono ?_
  rintro e w15 ⟨rfl, hb⟩
  replace Pq := Pq.below hb
  replace Ps := Ps.below hb
  replace Pt := Pt.below hb
  replace Pr := Pr.below hb
  replace Py := Py.below hb
  replace P1 := P1.below hb
  replace hB := below_then hB hb
  clear hb
  go_wp2_with fail
  go_ret
  exact ⟨rfl, hB⟩
theorem fieldWalk (p a : Nat) (hp : p < 18446744073709551616) (ha : a < 18446744073709551616) (w : World) :
    Calls Try.prog 7 #[.int .u64 (p : Int), .int .u64 (a : Int)] w (Bl true w) := by
  by_cases h : Irr (leN [p])
  · have e1 := leN_one p
    rw [e1] at h
    have f1 := h.1
    have f0 := h.ne
    have l64 : len p ≤ 64 := len_le (k := 64) hp
    obtain ⟨d, hd⟩ : ∃ d, len p = d + 1 := ⟨len p - 1, by omega⟩
    have d63 : d ≤ 63 := by omega
    have pM : 2 ^ d ≤ 2 ^ 63 := Nat.pow_le_pow_right (by decide) d63
    have p1 := Nat.two_pow_pos d
    have eS : pr (leN (wordsOf 2)) (2 ^ d) (leN [p]) = rt 2 p := by
      have := fermat2 h 2
      rw [hd, Nat.add_sub_cancel] at this
      rw [leN_wordsOf, e1]; exact this
    have lT := rt_lt (a := 2) f0
    have l5 : ∀ z, (wordsOf (rt z p)).length ≤ 5 := fun z => wl_len (by have := rt_lt (a := z) f0; omega)
    by_cases hz : rt a p = 0
    · exact field_zero p a d (rt 2 p) (2 ^ d) (2 ^ d - 1) _ hp ha (Lib.hid (by rw [e1]; exact h)) (Lib.hid (by rw [e1]; omega)) (Lib.hid (by rw [e1]; exact f0)) (Lib.hid (by rw [e1, hd]; omega)) d63 (Lib.hid eS) (Lib.hid (by rw [leN_wordsOf, e1])) (Lib.hid (Nat.le_trans (l5 2) (by decide))) (Lib.hid (Nat.one_mul _)) (Lib.hid (by omega)) (Lib.hid p1) (Lib.hid rfl) (Lib.hid (by omega)) (Lib.hid (by rw [leN_one, e1]; exact hz)) (Lib.hid rfl) w
    · obtain ⟨t, ht⟩ : ∃ t, (wordsOf (rt a p)).length = t + 1 := ⟨(wordsOf (rt a p)).length - 1, by
        have : (wordsOf (rt a p)).length ≠ 0 := fun e => hz (by have := leN_wordsOf (rt a p); rw [List.eq_nil_of_length_eq_zero e] at this; exact this.symm)
        omega⟩
      have la := l5 a
      have ey : pr (leN (wordsOf (rt a p))) (2 ^ d - 1) (leN [p]) = 1 := by
        have := fermat h (not_dv hz (rt_lt f0))
        rw [hd, Nat.add_sub_cancel] at this
        rw [leN_wordsOf, e1]; exact this
      exact field_some p a d (rt 2 p) (2 ^ d) (2 ^ d - 1) (rt a p) t hp ha (Lib.hid (by rw [e1]; exact h)) (Lib.hid (by rw [e1]; omega)) (Lib.hid (by rw [e1]; exact f0)) (Lib.hid (by rw [e1, hd]; omega)) d63 (Lib.hid eS) (Lib.hid (by rw [leN_wordsOf, e1])) (Lib.hid (Nat.le_trans (l5 2) (by decide))) (Lib.hid (Nat.one_mul _)) (Lib.hid (by omega)) (Lib.hid p1) (Lib.hid rfl) (Lib.hid (by omega)) (Lib.hid (by rw [leN_one, e1])) (Lib.hid ht) (by omega) (by simp; omega) (by simp; omega) (Lib.hid ey) w
  · exact field_no p a hp (Lib.hid h) w
end Go.Proofs.Ytmhglbnoddimhaa
