/-
  What Sub of the reference of layer 1 answers.
-/
import Derived.Test.YtolicfackceomaaWideTp
import Derived.Test.YtolicfackceomaaWideTo
import Derived.Deep.RegionHeld3
import Derived.BigRegion
namespace Go.Proofs.Ytolicfackceomaa.Wd
open Go.RowKit
set_option linter.unusedVariables false

theorem rWholeN (m a b c d : Int) (i : Is4 m a b c d) (w : World) :
    Calls Try.prog 50 #[.agg #[.int .u64 (4294967295 - a), .int .u64 (4294967295 - b), .int .u64 (4294967295 - c), .int .u64 (4294967295 - d)]] w (N1 (340282366920938463463374607431768211455 - m) w) := by
  obtain ⟨p1, p2, p3, p4, p5, p6, p7, p8, p9⟩ := i
  have h := rWhole (4294967295 - a) (4294967295 - b) (4294967295 - c) (4294967295 - d) (by omega) (by omega) (by omega) (by omega) (by omega) (by omega) (by omega) (by omega) w
  rw [show 4294967295 - a + 4294967296 * (4294967295 - b) + 18446744073709551616 * (4294967295 - c) + 79228162514264337593543950336 * (4294967295 - d) = 340282366920938463463374607431768211455 - m from by omega] at h
  exact h.mono fun _ _ q => n1_of q
theorem rAdd1 (v k : Int) (hv : Rng v) (hk : md (v + 1) = k) (w : World) :
    ∃ c : Bool, Calls Try.prog 37 #[.agg #[.int .u64 (hi v), .int .u64 (lo v)], .agg #[.int .u64 0, .int .u64 1]] w (N2 k c w) := by
  subst hk
  exact ⟨_, rAddN v 1 hv ⟨by decide, by decide⟩ w⟩
theorem sub_by (n m : Int) : md (md (n + (340282366920938463463374607431768211455 - m)) + 1) = md (n - m) := by unfold md; omega
theorem rng_not {m : Int} (h : Rng m) : Rng (340282366920938463463374607431768211455 - m) := by
  have := h.1
  have := h.2
  exact ⟨by omega, by omega⟩
theorem lt_parts (n m : Int) : (n < m) ↔ (hi n < hi m ∨ hi n = hi m ∧ lo n < lo m) := by unfold hi lo; omega

set_option maxRecDepth 100000 in
set_option maxHeartbeats 2000000 in
theorem rSubN (n m : Int) (hn : Rng n) (hm : Rng m) (w : World) :
    Calls Try.prog 38 #[.agg #[.int .u64 (hi n), .int .u64 (lo n)], .agg #[.int .u64 (hi m), .int .u64 (lo m)]] w (N2 (md (n - m)) (decide (n < m)) w) := by
  obtain ⟨c, hc⟩ : ∃ c, 340282366920938463463374607431768211455 - m = c := ⟨_, rfl⟩
  have rc : Rng c := by rw [← hc]; exact rng_not hm
  obtain ⟨v, hv⟩ : ∃ v, md (n + c) = v := ⟨_, rfl⟩
  have rv : Rng v := by rw [← hv]; exact rng_md _
  obtain ⟨z, hz⟩ : ∃ z, md (n - m) = z := ⟨_, rfl⟩
  have ADD1 : Hid (∀ w, ∃ c', Calls Try.prog 37 #[.agg #[.int .u64 (hi n), .int .u64 (lo n)], .agg #[.int .u64 (hi c), .int .u64 (lo c)]] w (N2 v c' w)) := Lib.hid (fun w => ⟨_, by rw [← hv]; exact rAddN n c hn rc w⟩)
  have ADD2 : Hid (∀ w, ∃ c', Calls Try.prog 37 #[.agg #[.int .u64 (hi v), .int .u64 (lo v)], .agg #[.int .u64 0, .int .u64 1]] w (N2 z c' w)) := Lib.hid (fun w => rAdd1 v z rv (by rw [← hv, ← hc, sub_by, hz]) w)
  rw [hz]
  have HC := Lib.hid hc
  clear hz hv hc
  go_enter Try.func38, Try.ntmps38
  go_wp2_with fail
  refine (rDigits (hi m) (lo m) (hi0 hm) (hi1 hm) (lo0 m) (lo1 m) _).mono ?_
  rintro e w1 ⟨y0, y1, y2, y3, is4, rfl, hb⟩
  rw [hilo] at is4
  have WHO : Hid (∀ w, Calls Try.prog 50 #[.agg #[.int .u64 (4294967295 - y0), .int .u64 (4294967295 - y1), .int .u64 (4294967295 - y2), .int .u64 (4294967295 - y3)]] w (N1 c w)) := Lib.hid (fun w => by rw [← HC.out]; exact rWholeN m y0 y1 y2 y3 is4 w)
  have K : Keeps [(w.heap.size + 1, m), (w.heap.size, n)] w1 := by
    have K := (((Keeps.new (L := []) (W := w) trivial n 32).new m 32).alloc (.cells #[.int .u64 0, .int .u64 0] 32)).below hb
    simp only [World.size_alloc] at K
    exact K
  have KR := (Own.fresh ((w.alloc (.cells #[.int .u64 (hi n), .int .u64 (lo n)] 32)).alloc (.cells #[.int .u64 (hi m), .int .u64 (lo m)] 32)) (.int .u64 0) (.int .u64 0) 32).below hb
  simp only [World.size_alloc] at KR
  have hB : Below w.heap.size w w1 := below_then (by go_grown) hb
  have s1 := hb.size
  simp only [World.size_alloc] at s1
  have IS := Lib.hid is4
  obtain ⟨p1, p2, p3, p4, p5, p6, p7, p8, p9⟩ := is4
  clear hb p9
  have hX4 := below_allocs w1 (.cells #[.int .u64 (4294967295 - y0), .int .u64 (4294967295 - y1), .int .u64 (4294967295 - y2), .int .u64 (4294967295 - y3)] 82)
  have KY4 := Own4.fresh w1 (.int .u64 (4294967295 - y0)) (.int .u64 (4294967295 - y1)) (.int .u64 (4294967295 - y2)) (.int .u64 (4294967295 - y3)) 82
  have K4 := Lib.hid (K.below hX4)
  have KR4 := Lib.hid (KR.below hX4)
  have HB4 := Lib.hid (below_then hB hX4)
  have HY4 := Lib.hid KY4
  clear K KR hB hX4 KY4
  go_wp2_with fail
  refine wp_loop_rounds 5 ?_
  rw [rounds_succ]
  go_wp2
  rw [rounds_succ]
  go_wp2
  rw [rounds_succ]
  go_wp2
  rw [rounds_succ]
  go_wp2
  rw [rounds_succ]
  go_upto_region 6 with fail
  generalize hW : World.alloc w1 _ = W4 at K4 KR4 HB4 HY4 ⊢
  clear hW
  go_cut [8, 9] (CutU W4 [(w.heap.size + 1, m), (w.heap.size, n)] v)
  case first =>
    have hX : Below W4.heap.size W4 W4 := Below.refl _ _
    have hB : Below W4.heap.size W4 W4 := Below.refl _ _
    obtain ⟨⟨sb, cb0, cb1⟩, ⟨sa, ca0, ca1⟩, -⟩ := id K4.out
    obtain ⟨ly, cy0, cy1, cy2, cy3, fy⟩ := id HY4.out
    go_region_held3 (fun w' => w'.cell? ⟨w.heap.size, 0, none⟩ = some (.int .u64 (hi n)) ∧ w'.cell? ⟨w.heap.size, 1, none⟩ = some (.int .u64 (lo n)) ∧ w'.cell? ⟨w1.heap.size, 0, none⟩ = some (.int .u64 (4294967295 - y0)) ∧ w'.cell? ⟨w1.heap.size, 1, none⟩ = some (.int .u64 (4294967295 - y1)) ∧ w'.cell? ⟨w1.heap.size, 2, none⟩ = some (.int .u64 (4294967295 - y2)) ∧ w'.cell? ⟨w1.heap.size, 3, none⟩ = some (.int .u64 (4294967295 - y3))) (first | go_keep | (exact ⟨(K4.out.set hX O ol _ _).2.1.2.1, (K4.out.set hX O ol _ _).2.1.2.2, (HY4.out.below ((hX.setCell ol _).setCell ol _)).c0, (HY4.out.below ((hX.setCell ol _).setCell ol _)).c1, (HY4.out.below ((hX.setCell ol _).setCell ol _)).c2, (HY4.out.below ((hX.setCell ol _).setCell ol _)).c3⟩)) (first | (go_at_call 50; ((with_reducible refine (WHO.out _).mono ?_); rintro e x ⟨rfl, hb⟩; (try clear sb cb0 cb1 sa ca0 ca1 ly cy0 cy1 cy2 cy3 fy); (first | (replace O := Own.below O hb) | (have O := Own.below (Own.fresh _ _ _ _) hb; have ol := hX.size) | (have O := Own.below (Own.fresh _ _ _ _).drew hb; have ol := hX.size) | skip); replace hX := below_then (by first | exact hX | exact hX.drew | exact below_alloc hX _ | exact (below_alloc hX _).drew) hb; clear hb; (try clear KX YX); have KX := K4.out.below hX; have YX := HY4.out.below hX; obtain ⟨⟨sb, cb0, cb1⟩, ⟨sa, ca0, ca1⟩, -⟩ := id KX; obtain ⟨ly, cy0, cy1, cy2, cy3, fy⟩ := id YX; have sx := hX.size; (try obtain ⟨so, co0, co1, fo0, fo1⟩ := id O))) | (go_at_call 37; (obtain ⟨cc, A1⟩ := ADD1.out _; (with_reducible refine A1.mono ?_); rintro e x ⟨rfl, hb⟩; clear A1; (try clear sb cb0 cb1 sa ca0 ca1 ly cy0 cy1 cy2 cy3 fy); (first | (replace O := Own.below O hb) | (have O := Own.below (Own.fresh _ _ _ _) hb; have ol := hX.size) | (have O := Own.below (Own.fresh _ _ _ _).drew hb; have ol := hX.size) | skip); replace hX := below_then (by first | exact hX | exact hX.drew | exact below_alloc hX _ | exact (below_alloc hX _).drew) hb; clear hb; (try clear KX YX); have KX := K4.out.below hX; have YX := HY4.out.below hX; obtain ⟨⟨sb, cb0, cb1⟩, ⟨sa, ca0, ca1⟩, -⟩ := id KX; obtain ⟨ly, cy0, cy1, cy2, cy3, fy⟩ := id YX; have sx := hX.size; (try obtain ⟨so, co0, co1, fo0, fo1⟩ := id O))))
    all_goals
      go_wp2_with fail
      go_meet
      first | exact cutU_fresh K4.out hB hX | exact cutU_set K4.out hB hX O ol
  obtain ⟨b1, c1, rfl, rfl, H1, K1, B1⟩ := hcut
  have KR6 := Lib.hid (KR4.out.below B1)
  have HB6 := Lib.hid (below_then HB4.out B1)
  obtain ⟨sh, ch0, ch1⟩ := id H1
  clear K4 HY4 KR4 HB4 WHO IS p1 p2 p3 p4 p5 p6 p7 p8
  go_wp2_with fail
  obtain ⟨c2, A2⟩ := ADD2.out wc
  refine A2.mono ?_
  rintro e w5 ⟨rfl, hb⟩
  have K8 := ((K1.below hb).new z 32)
  have hX := below_then hb (below_allocs w5 (.cells #[.int .u64 (hi z), .int .u64 (lo z)] 32))
  have KR8 := KR6.out.below hX
  have hB8 := below_then HB6.out hX
  have s5 := KR6.out.1
  have s6 := hb.size
  clear A2 hb hX sh ch0 ch1 H1 K1 B1 KR6 HB6 ADD1 ADD2
  go_upto_region 8 with fail
  generalize hW : World.alloc w5 _ = W8 at K8 KR8 hB8 ⊢
  clear hW
  have HB8 := Lib.hid hB8
  obtain ⟨⟨sz, cz0, cz1⟩, ⟨sb, cb0, cb1⟩, ⟨sa, ca0, ca1⟩, -⟩ := id K8
  obtain ⟨so, co0, co1, fo0, fo1⟩ := id KR8
  have LP := Lib.hid (lt_parts n m)
  clear K8 KR8 hB8
  by_cases q1 : hi n < hi m
  · have d1 : decide (hi n < hi m) = true := by simpa using q1
    go_region
    go_wp2
    refine bodyPost_ret (v := .tuple #[.agg #[.int .u64 (hi z), .int .u64 (lo z)], .bool (true)]) (by simp [results, Try.results38, go_sem, co0, co1]) rfl ⟨by rw [show (true) = decide (n < m) from by symm; rw [decide_eq_true_eq]; exact LP.out.2 (.inl q1)], ?_⟩
    have hB8 := HB8.out; go_grown
  · have d1 : decide (hi n < hi m) = false := by simpa using q1
    by_cases q2 : hi n = hi m
    · have d2 : (hi n == hi m) = true := by simpa using q2
      go_region
      go_wp2
      refine bodyPost_ret (v := .tuple #[.agg #[.int .u64 (hi z), .int .u64 (lo z)], .bool (decide (lo n < lo m))]) (by simp [results, Try.results38, go_sem, co0, co1]) rfl ⟨by rw [show (decide (lo n < lo m)) = decide (n < m) from by rw [decide_eq_decide]; have lp := LP.out; omega], ?_⟩
      have hB8 := HB8.out; go_grown
    · have d2 : (hi n == hi m) = false := by simpa using q2
      go_region
      go_wp2
      refine bodyPost_ret (v := .tuple #[.agg #[.int .u64 (hi z), .int .u64 (lo z)], .bool (false)]) (by simp [results, Try.results38, go_sem, co0, co1]) rfl ⟨by rw [show (false) = decide (n < m) from by symm; rw [decide_eq_false_iff_not]; have lp := LP.out; omega], ?_⟩
      have hB8 := HB8.out; go_grown
end Go.Proofs.Ytolicfackceomaa.Wd
