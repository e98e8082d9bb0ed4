/-
  WideRing of layer 1 answers true for every three numbers: sums and products can be turned about, and products part over sums. Made by wip/gen/ring.py.
-/
import Derived.Test.YtpiblgnhjkcojaaWideG
import Derived.Test.YtpiblgnhjkcojaaWideN
namespace Go.Proofs.Ytpiblgnhjkcojaa
open Go.RowKit
set_option linter.unusedVariables false

theorem add_asso (a b c : Int) : md (md (a + b) + c) = md (a + md (b + c)) := by unfold md; omega
theorem sub_back (a b : Int) (h : Rng a) : md (md (a + b) - b) = a := by obtain ⟨h1, h2⟩ := h; unfold md; omega
theorem sub_self (a : Int) : md (a - a) = 0 := by unfold md; omega
theorem lt_self (a : Int) : decide (a < a) = false := by simp
theorem dist (a b c : Int) : md (a * md (b + c)) = md (md (a * b) + md (a * c)) := by
  unfold md
  rw [← Int.add_emod, ← Int.mul_add, Int.mul_emod, Int.emod_emod, ← Int.mul_emod]
theorem asso (a b c : Int) : md (a * md (b * c)) = md (md (a * b) * c) := by
  unfold md
  rw [Int.mul_emod, Int.emod_emod, ← Int.mul_emod, Int.mul_emod (a * b % _) c, Int.emod_emod, ← Int.mul_emod, Int.mul_assoc]
theorem mul_one (a : Int) (h : Rng a) : md (a * 1) = a := by rw [Int.mul_one, md_of a h]
theorem r1 : Rng 1 := ⟨by decide, by decide⟩
theorem r0 : Rng 0 := ⟨by decide, by decide⟩
theorem h00 : hi 0 = 0 := by decide
theorem l00 : lo 0 = 0 := by decide
theorem nMul0 (n : Int) (hn : Rng n) (w : World) :
    Calls Try.prog 17 #[.agg #[.int .u64 (hi n), .int .u64 (lo n)], .agg #[.int .u64 0, .int .u64 0]] w (fun e w' => e = .returned (.agg #[.int .u64 0, .int .u64 0]) ∧ Below w.heap.size w w') := by
  have h := nMulAs n 0 0 hn r0 (by rw [Int.mul_zero]; rfl) w
  rw [h00, l00] at h
  refine h.mono ?_
  rintro e w' ⟨rfl, hb⟩
  exact ⟨by rw [h00, l00], hb⟩

set_option maxRecDepth 100000 in
set_option maxHeartbeats 16000000 in
theorem ringWalk (A B C : Int) (ha : Rng A) (hb0 : Rng B) (hc : Rng C) (w : World) :
    Calls Try.prog 4 #[.agg #[.int .u64 (hi A), .int .u64 (lo A)], .agg #[.int .u64 (hi B), .int .u64 (lo B)], .agg #[.int .u64 (hi C), .int .u64 (lo C)]] w (fun e w' => e = .returned (.bool true) ∧ Below w.heap.size w w') := by
  go_enter Try.func4, Try.ntmps4
  go_wp2_with fail
  have K : Keeps [] w := trivial
  have hB : Below w.heap.size w w := Below.refl _ _
  replace K := K.new (A) 24
  replace hB := below_alloc hB (.cells #[.int .u64 (hi (A)), .int .u64 (lo (A))] 24)
  replace K := K.new (B) 24
  replace hB := below_alloc hB (.cells #[.int .u64 (hi (B)), .int .u64 (lo (B))] 24)
  replace K := K.new (C) 24
  replace hB := below_alloc hB (.cells #[.int .u64 (hi (C)), .int .u64 (lo (C))] 24)
  try simp only [World.size_alloc] at K
  refine (awake _).mono ?_
  rintro e w1 ⟨rfl, hb⟩
  replace K := K.below hb
  replace hB := below_then hB hb
  clear hb
  obtain ⟨⟨scc, cc0, cc1⟩, ⟨scb, cb0, cb1⟩, ⟨sca, ca0, ca1⟩, -⟩ := id K
  go_wp2_with fail
  refine (nAdd A B ha hb0 _).mono ?_
  rintro e w2 ⟨rfl, hb⟩
  clear scc cc0 cc1 scb cb0 cb1 sca ca0 ca1
  replace K := K.below hb
  replace hB := below_then hB hb
  clear hb
  obtain ⟨⟨scc, cc0, cc1⟩, ⟨scb, cb0, cb1⟩, ⟨sca, ca0, ca1⟩, -⟩ := id K
  go_wp2_with fail
  replace K := K.new (md (A + B)) 24
  replace hB := below_alloc hB (.cells #[.int .u64 (hi (md (A + B))), .int .u64 (lo (md (A + B)))] 24)
  try simp only [World.size_alloc] at K
  refine (nAdd B A hb0 ha _).mono ?_
  rintro e w3 ⟨rfl, hb⟩
  rw [Int.add_comm B A]
  clear scc cc0 cc1 scb cb0 cb1 sca ca0 ca1
  replace K := K.below hb
  replace hB := below_then hB hb
  clear hb
  obtain ⟨⟨scab, cab0, cab1⟩, ⟨scc, cc0, cc1⟩, ⟨scb, cb0, cb1⟩, ⟨sca, ca0, ca1⟩, -⟩ := id K
  go_wp2_with fail
  replace K := K.new (md (A + B)) 24
  replace hB := below_alloc hB (.cells #[.int .u64 (hi (md (A + B))), .int .u64 (lo (md (A + B)))] 24)
  try simp only [World.size_alloc] at K
  refine (nAdd B C hb0 hc _).mono ?_
  rintro e w4 ⟨rfl, hb⟩
  clear scab cab0 cab1 scc cc0 cc1 scb cb0 cb1 sca ca0 ca1
  replace K := K.below hb
  replace hB := below_then hB hb
  clear hb
  obtain ⟨⟨scba, cba0, cba1⟩, ⟨scab, cab0, cab1⟩, ⟨scc, cc0, cc1⟩, ⟨scb, cb0, cb1⟩, ⟨sca, ca0, ca1⟩, -⟩ := id K
  go_wp2_with fail
  replace K := K.new (md (B + C)) 24
  replace hB := below_alloc hB (.cells #[.int .u64 (hi (md (B + C))), .int .u64 (lo (md (B + C)))] 24)
  try simp only [World.size_alloc] at K
  refine (nAdd (md (A + B)) C (rng_md _) hc _).mono ?_
  rintro e w5 ⟨rfl, hb⟩
  clear scba cba0 cba1 scab cab0 cab1 scc cc0 cc1 scb cb0 cb1 sca ca0 ca1
  replace K := K.below hb
  replace hB := below_then hB hb
  clear hb
  obtain ⟨⟨scbc, cbc0, cbc1⟩, ⟨scba, cba0, cba1⟩, ⟨scab, cab0, cab1⟩, ⟨scc, cc0, cc1⟩, ⟨scb, cb0, cb1⟩, ⟨sca, ca0, ca1⟩, -⟩ := id K
  go_wp2_with fail
  replace K := K.new (md (md (A + B) + C)) 24
  replace hB := below_alloc hB (.cells #[.int .u64 (hi (md (md (A + B) + C))), .int .u64 (lo (md (md (A + B) + C)))] 24)
  try simp only [World.size_alloc] at K
  refine (nAdd A (md (B + C)) ha (rng_md _) _).mono ?_
  rintro e w6 ⟨rfl, hb⟩
  rw [(add_asso A B C).symm]
  clear scbc cbc0 cbc1 scba cba0 cba1 scab cab0 cab1 scc cc0 cc1 scb cb0 cb1 sca ca0 ca1
  replace K := K.below hb
  replace hB := below_then hB hb
  clear hb
  obtain ⟨⟨scleft, cleft0, cleft1⟩, ⟨scbc, cbc0, cbc1⟩, ⟨scba, cba0, cba1⟩, ⟨scab, cab0, cab1⟩, ⟨scc, cc0, cc1⟩, ⟨scb, cb0, cb1⟩, ⟨sca, ca0, ca1⟩, -⟩ := id K
  go_wp2_with fail
  replace K := K.new (md (md (A + B) + C)) 24
  replace hB := below_alloc hB (.cells #[.int .u64 (hi (md (md (A + B) + C))), .int .u64 (lo (md (md (A + B) + C)))] 24)
  try simp only [World.size_alloc] at K
  refine (nSub (md (A + B)) B (rng_md _) hb0 _).mono ?_
  rintro e w7 ⟨rfl, hb⟩
  rw [sub_back A B ha]
  clear scleft cleft0 cleft1 scbc cbc0 cbc1 scba cba0 cba1 scab cab0 cab1 scc cc0 cc1 scb cb0 cb1 sca ca0 ca1
  replace K := K.below hb
  replace hB := below_then hB hb
  clear hb
  obtain ⟨⟨scright, cright0, cright1⟩, ⟨scleft, cleft0, cleft1⟩, ⟨scbc, cbc0, cbc1⟩, ⟨scba, cba0, cba1⟩, ⟨scab, cab0, cab1⟩, ⟨scc, cc0, cc1⟩, ⟨scb, cb0, cb1⟩, ⟨sca, ca0, ca1⟩, -⟩ := id K
  go_upto_region 9 with fail
  replace K := K.new (A) 24
  replace hB := below_alloc hB (.cells #[.int .u64 (hi (A)), .int .u64 (lo (A))] 24)
  try simp only [World.size_alloc] at K
  clear scright cright0 cright1 scleft cleft0 cleft1 scbc cbc0 cbc1 scba cba0 cba1 scab cab0 cab1 scc cc0 cc1 scb cb0 cb1 sca ca0 ca1
  go_cut [19, 20] (CutU w [(w7.heap.size, A), (w6.heap.size, md (md (A + B) + C)), (w5.heap.size, md (md (A + B) + C)), (w4.heap.size, md (B + C)), (w3.heap.size, md (A + B)), (w2.heap.size, md (A + B)), (w.heap.size + 1 + 1, C), (w.heap.size + 1, B), (w.heap.size, A)] (md (md (A * B) + md (A * C))))
  case first =>
    generalize hW0 : World.alloc _ _ = W0 at K hB ⊢
    clear hW0
    have hX : Below W0.heap.size W0 W0 := Below.refl _ _
    obtain ⟨-, -, -, -, -, -, ⟨scc, cc0, cc1⟩, ⟨scb, cb0, cb1⟩, ⟨sca, ca0, ca1⟩, -⟩ := id K
    go_region_held3 (fun w' => w'.cell? ⟨w.heap.size + 1 + 1, 0, none⟩ = some (.int .u64 (hi (C))) ∧ w'.cell? ⟨w.heap.size + 1 + 1, 1, none⟩ = some (.int .u64 (lo (C))) ∧ w'.cell? ⟨w.heap.size + 1, 0, none⟩ = some (.int .u64 (hi (B))) ∧ w'.cell? ⟨w.heap.size + 1, 1, none⟩ = some (.int .u64 (lo (B))) ∧ w'.cell? ⟨w.heap.size, 0, none⟩ = some (.int .u64 (hi (A))) ∧ w'.cell? ⟨w.heap.size, 1, none⟩ = some (.int .u64 (lo (A)))) (first | go_keep | (exact ⟨(K.set hX O ol _ _).2.2.2.2.2.2.1.2.1, (K.set hX O ol _ _).2.2.2.2.2.2.1.2.2, (K.set hX O ol _ _).2.2.2.2.2.2.2.1.2.1, (K.set hX O ol _ _).2.2.2.2.2.2.2.1.2.2, (K.set hX O ol _ _).2.2.2.2.2.2.2.2.1.2.1, (K.set hX O ol _ _).2.2.2.2.2.2.2.2.1.2.2⟩)) (first | (go_at_call 17; ((with_reducible refine (nMul A B ha hb0 _).mono ?_); rintro e x ⟨rfl, hb⟩; (try clear scc cc0 cc1 scb cb0 cb1 sca ca0 ca1); (first | (replace O := Own.below O hb) | (have O := Own.below (Own.fresh _ _ _ _) hb; have ol := hX.size) | (have O := Own.below (Own.fresh _ _ _ _).drew hb; have ol := hX.size) | skip); replace hX := below_then (by first | exact hX | exact hX.drew | exact below_alloc hX _ | exact (below_alloc hX _).drew) hb; clear hb; (try clear KX); have KX := K.below hX; obtain ⟨-, -, -, -, -, -, ⟨scc, cc0, cc1⟩, ⟨scb, cb0, cb1⟩, ⟨sca, ca0, ca1⟩, -⟩ := id KX; have sx := hX.size; (try obtain ⟨so, co0, co1, fo0, fo1⟩ := id O))) | (go_at_call 17; ((with_reducible refine (nMul A C ha hc _).mono ?_); rintro e x ⟨rfl, hb⟩; (try clear scc cc0 cc1 scb cb0 cb1 sca ca0 ca1); (first | (replace O := Own.below O hb) | (have O := Own.below (Own.fresh _ _ _ _) hb; have ol := hX.size) | (have O := Own.below (Own.fresh _ _ _ _).drew hb; have ol := hX.size) | skip); replace hX := below_then (by first | exact hX | exact hX.drew | exact below_alloc hX _ | exact (below_alloc hX _).drew) hb; clear hb; (try clear KX); have KX := K.below hX; obtain ⟨-, -, -, -, -, -, ⟨scc, cc0, cc1⟩, ⟨scb, cb0, cb1⟩, ⟨sca, ca0, ca1⟩, -⟩ := id KX; have sx := hX.size; (try obtain ⟨so, co0, co1, fo0, fo1⟩ := id O))) | (go_at_call 8; ((with_reducible refine (nAdd (md (A * B)) (md (A * C)) (rng_md _) (rng_md _) _).mono ?_); rintro e x ⟨rfl, hb⟩; (try clear scc cc0 cc1 scb cb0 cb1 sca ca0 ca1); (first | (replace O := Own.below O hb) | (have O := Own.below (Own.fresh _ _ _ _) hb; have ol := hX.size) | (have O := Own.below (Own.fresh _ _ _ _).drew hb; have ol := hX.size) | skip); replace hX := below_then (by first | exact hX | exact hX.drew | exact below_alloc hX _ | exact (below_alloc hX _).drew) hb; clear hb; (try clear KX); have KX := K.below hX; obtain ⟨-, -, -, -, -, -, ⟨scc, cc0, cc1⟩, ⟨scb, cb0, cb1⟩, ⟨sca, ca0, ca1⟩, -⟩ := id KX; have sx := hX.size; (try obtain ⟨so, co0, co1, fo0, fo1⟩ := id O))))
    all_goals
      go_wp2_with fail
      go_meet
      first | exact cutU_fresh K hB hX | exact cutU_set K hB hX O ol
  case rest =>
    obtain ⟨bparts, partsB, rfl, rfl, K1, K2, hB1⟩ := hcut
    replace K := And.intro K1 K2
    clear K1 K2 hB
    have hB := hB1
    clear hB1
    change Keeps [(bparts, md (md (A * B) + md (A * C))), (w7.heap.size, A), (w6.heap.size, md (md (A + B) + C)), (w5.heap.size, md (md (A + B) + C)), (w4.heap.size, md (B + C)), (w3.heap.size, md (A + B)), (w2.heap.size, md (A + B)), (w.heap.size + 1 + 1, C), (w.heap.size + 1, B), (w.heap.size, A)] wc at K
    obtain ⟨⟨scparts, cparts0, cparts1⟩, ⟨scback, cback0, cback1⟩, ⟨scright, cright0, cright1⟩, ⟨scleft, cleft0, cleft1⟩, ⟨scbc, cbc0, cbc1⟩, ⟨scba, cba0, cba1⟩, ⟨scab, cab0, cab1⟩, ⟨scc, cc0, cc1⟩, ⟨scb, cb0, cb1⟩, ⟨sca, ca0, ca1⟩, -⟩ := id K
    go_wp2_with fail
    refine (nSub A A ha ha _).mono ?_
    rintro e w8 ⟨rfl, hb⟩
    rw [sub_self A, lt_self A]
    clear scparts cparts0 cparts1 scback cback0 cback1 scright cright0 cright1 scleft cleft0 cleft1 scbc cbc0 cbc1 scba cba0 cba1 scab cab0 cab1 scc cc0 cc1 scb cb0 cb1 sca ca0 ca1
    replace K := K.below hb
    replace hB := below_then hB hb
    clear hb
    obtain ⟨⟨scparts, cparts0, cparts1⟩, ⟨scback, cback0, cback1⟩, ⟨scright, cright0, cright1⟩, ⟨scleft, cleft0, cleft1⟩, ⟨scbc, cbc0, cbc1⟩, ⟨scba, cba0, cba1⟩, ⟨scab, cab0, cab1⟩, ⟨scc, cc0, cc1⟩, ⟨scb, cb0, cb1⟩, ⟨sca, ca0, ca1⟩, -⟩ := id K
    go_wp2_with fail
    replace K := K.new (0) 24
    replace hB := below_alloc hB (.cells #[.int .u64 (hi (0)), .int .u64 (lo (0))] 24)
    try simp only [World.size_alloc] at K
    have q00 := h00
    have q01 := l00
    dsimp only [List.append]
    generalize hW0 : World.alloc _ _ = W0 at K hB ⊢
    clear hW0
    have hX : Below W0.heap.size W0 W0 := Below.refl _ _
    clear scparts cparts0 cparts1 scback cback0 cback1 scright cright0 cright1 scleft cleft0 cleft1 scbc cbc0 cbc1 scba cba0 cba1 scab cab0 cab1 scc cc0 cc1 scb cb0 cb1 sca ca0 ca1
    obtain ⟨⟨sczero, czero0, czero1⟩, ⟨scparts, cparts0, cparts1⟩, ⟨scback, cback0, cback1⟩, ⟨scright, cright0, cright1⟩, ⟨scleft, cleft0, cleft1⟩, ⟨scbc, cbc0, cbc1⟩, ⟨scba, cba0, cba1⟩, ⟨scab, cab0, cab1⟩, ⟨scc, cc0, cc1⟩, ⟨scb, cb0, cb1⟩, ⟨sca, ca0, ca1⟩, -⟩ := id K
    go_region_held3 (fun w' => w'.cell? ⟨w8.heap.size, 0, none⟩ = some (.int .u64 (hi (0))) ∧ w'.cell? ⟨w8.heap.size, 1, none⟩ = some (.int .u64 (lo (0))) ∧ w'.cell? ⟨bparts, 0, none⟩ = some (.int .u64 (hi (md (md (A * B) + md (A * C))))) ∧ w'.cell? ⟨bparts, 1, none⟩ = some (.int .u64 (lo (md (md (A * B) + md (A * C))))) ∧ w'.cell? ⟨w7.heap.size, 0, none⟩ = some (.int .u64 (hi (A))) ∧ w'.cell? ⟨w7.heap.size, 1, none⟩ = some (.int .u64 (lo (A))) ∧ w'.cell? ⟨w6.heap.size, 0, none⟩ = some (.int .u64 (hi (md (md (A + B) + C)))) ∧ w'.cell? ⟨w6.heap.size, 1, none⟩ = some (.int .u64 (lo (md (md (A + B) + C)))) ∧ w'.cell? ⟨w5.heap.size, 0, none⟩ = some (.int .u64 (hi (md (md (A + B) + C)))) ∧ w'.cell? ⟨w5.heap.size, 1, none⟩ = some (.int .u64 (lo (md (md (A + B) + C)))) ∧ w'.cell? ⟨w4.heap.size, 0, none⟩ = some (.int .u64 (hi (md (B + C)))) ∧ w'.cell? ⟨w4.heap.size, 1, none⟩ = some (.int .u64 (lo (md (B + C)))) ∧ w'.cell? ⟨w3.heap.size, 0, none⟩ = some (.int .u64 (hi (md (A + B)))) ∧ w'.cell? ⟨w3.heap.size, 1, none⟩ = some (.int .u64 (lo (md (A + B)))) ∧ w'.cell? ⟨w2.heap.size, 0, none⟩ = some (.int .u64 (hi (md (A + B)))) ∧ w'.cell? ⟨w2.heap.size, 1, none⟩ = some (.int .u64 (lo (md (A + B)))) ∧ w'.cell? ⟨w.heap.size + 1 + 1, 0, none⟩ = some (.int .u64 (hi (C))) ∧ w'.cell? ⟨w.heap.size + 1 + 1, 1, none⟩ = some (.int .u64 (lo (C))) ∧ w'.cell? ⟨w.heap.size + 1, 0, none⟩ = some (.int .u64 (hi (B))) ∧ w'.cell? ⟨w.heap.size + 1, 1, none⟩ = some (.int .u64 (lo (B))) ∧ w'.cell? ⟨w.heap.size, 0, none⟩ = some (.int .u64 (hi (A))) ∧ w'.cell? ⟨w.heap.size, 1, none⟩ = some (.int .u64 (lo (A)))) (go_keep) (first | (go_at_call 17; ((with_reducible refine (nMulAs A (md (B + C)) (md (md (A * B) + md (A * C))) ha (rng_md _) (dist A B C) _).mono ?_); rintro e x ⟨rfl, hb⟩; (try clear sczero czero0 czero1 scparts cparts0 cparts1 scback cback0 cback1 scright cright0 cright1 scleft cleft0 cleft1 scbc cbc0 cbc1 scba cba0 cba1 scab cab0 cab1 scc cc0 cc1 scb cb0 cb1 sca ca0 ca1); replace hX := below_then (by first | exact hX | exact hX.drew) hb; clear hb; (try clear KX); have KX := K.below hX; obtain ⟨⟨sczero, czero0, czero1⟩, ⟨scparts, cparts0, cparts1⟩, ⟨scback, cback0, cback1⟩, ⟨scright, cright0, cright1⟩, ⟨scleft, cleft0, cleft1⟩, ⟨scbc, cbc0, cbc1⟩, ⟨scba, cba0, cba1⟩, ⟨scab, cab0, cab1⟩, ⟨scc, cc0, cc1⟩, ⟨scb, cb0, cb1⟩, ⟨sca, ca0, ca1⟩, -⟩ := id KX)) | (go_at_call 17; ((with_reducible refine (nMulAs B A (md (A * B)) hb0 ha (by rw [Int.mul_comm]) _).mono ?_); rintro e x ⟨rfl, hb⟩; (try clear sczero czero0 czero1 scparts cparts0 cparts1 scback cback0 cback1 scright cright0 cright1 scleft cleft0 cleft1 scbc cbc0 cbc1 scba cba0 cba1 scab cab0 cab1 scc cc0 cc1 scb cb0 cb1 sca ca0 ca1); replace hX := below_then (by first | exact hX | exact hX.drew) hb; clear hb; (try clear KX); have KX := K.below hX; obtain ⟨⟨sczero, czero0, czero1⟩, ⟨scparts, cparts0, cparts1⟩, ⟨scback, cback0, cback1⟩, ⟨scright, cright0, cright1⟩, ⟨scleft, cleft0, cleft1⟩, ⟨scbc, cbc0, cbc1⟩, ⟨scba, cba0, cba1⟩, ⟨scab, cab0, cab1⟩, ⟨scc, cc0, cc1⟩, ⟨scb, cb0, cb1⟩, ⟨sca, ca0, ca1⟩, -⟩ := id KX)) | (go_at_call 17; ((with_reducible refine (nMulAs A (md (B * C)) (md (md (A * B) * C)) ha (rng_md _) (asso A B C) _).mono ?_); rintro e x ⟨rfl, hb⟩; (try clear sczero czero0 czero1 scparts cparts0 cparts1 scback cback0 cback1 scright cright0 cright1 scleft cleft0 cleft1 scbc cbc0 cbc1 scba cba0 cba1 scab cab0 cab1 scc cc0 cc1 scb cb0 cb1 sca ca0 ca1); replace hX := below_then (by first | exact hX | exact hX.drew) hb; clear hb; (try clear KX); have KX := K.below hX; obtain ⟨⟨sczero, czero0, czero1⟩, ⟨scparts, cparts0, cparts1⟩, ⟨scback, cback0, cback1⟩, ⟨scright, cright0, cright1⟩, ⟨scleft, cleft0, cleft1⟩, ⟨scbc, cbc0, cbc1⟩, ⟨scba, cba0, cba1⟩, ⟨scab, cab0, cab1⟩, ⟨scc, cc0, cc1⟩, ⟨scb, cb0, cb1⟩, ⟨sca, ca0, ca1⟩, -⟩ := id KX)) | (go_at_call 17; ((with_reducible refine (nMulAs A 1 A ha r1 (mul_one A ha) _).mono ?_); rintro e x ⟨rfl, hb⟩; (try clear sczero czero0 czero1 scparts cparts0 cparts1 scback cback0 cback1 scright cright0 cright1 scleft cleft0 cleft1 scbc cbc0 cbc1 scba cba0 cba1 scab cab0 cab1 scc cc0 cc1 scb cb0 cb1 sca ca0 ca1); replace hX := below_then (by first | exact hX | exact hX.drew) hb; clear hb; (try clear KX); have KX := K.below hX; obtain ⟨⟨sczero, czero0, czero1⟩, ⟨scparts, cparts0, cparts1⟩, ⟨scback, cback0, cback1⟩, ⟨scright, cright0, cright1⟩, ⟨scleft, cleft0, cleft1⟩, ⟨scbc, cbc0, cbc1⟩, ⟨scba, cba0, cba1⟩, ⟨scab, cab0, cab1⟩, ⟨scc, cc0, cc1⟩, ⟨scb, cb0, cb1⟩, ⟨sca, ca0, ca1⟩, -⟩ := id KX)) | (go_at_call 17; ((with_reducible refine (nMul0 A ha _).mono ?_); rintro e x ⟨rfl, hb⟩; (try clear sczero czero0 czero1 scparts cparts0 cparts1 scback cback0 cback1 scright cright0 cright1 scleft cleft0 cleft1 scbc cbc0 cbc1 scba cba0 cba1 scab cab0 cab1 scc cc0 cc1 scb cb0 cb1 sca ca0 ca1); replace hX := below_then (by first | exact hX | exact hX.drew) hb; clear hb; (try clear KX); have KX := K.below hX; obtain ⟨⟨sczero, czero0, czero1⟩, ⟨scparts, cparts0, cparts1⟩, ⟨scback, cback0, cback1⟩, ⟨scright, cright0, cright1⟩, ⟨scleft, cleft0, cleft1⟩, ⟨scbc, cbc0, cbc1⟩, ⟨scba, cba0, cba1⟩, ⟨scab, cab0, cab1⟩, ⟨scc, cc0, cc1⟩, ⟨scb, cb0, cb1⟩, ⟨sca, ca0, ca1⟩, -⟩ := id KX)) | (go_at_call 16; ((with_reducible refine (nOf 1 (by omega) (by omega) _).mono ?_); rintro e x ⟨rfl, hb⟩; (try clear sczero czero0 czero1 scparts cparts0 cparts1 scback cback0 cback1 scright cright0 cright1 scleft cleft0 cleft1 scbc cbc0 cbc1 scba cba0 cba1 scab cab0 cab1 scc cc0 cc1 scb cb0 cb1 sca ca0 ca1); replace hX := below_then (by first | exact hX | exact hX.drew) hb; clear hb; (try clear KX); have KX := K.below hX; obtain ⟨⟨sczero, czero0, czero1⟩, ⟨scparts, cparts0, cparts1⟩, ⟨scback, cback0, cback1⟩, ⟨scright, cright0, cright1⟩, ⟨scleft, cleft0, cleft1⟩, ⟨scbc, cbc0, cbc1⟩, ⟨scba, cba0, cba1⟩, ⟨scab, cab0, cab1⟩, ⟨scc, cc0, cc1⟩, ⟨scb, cb0, cb1⟩, ⟨sca, ca0, ca1⟩, -⟩ := id KX)) | (go_at_call 17; ((with_reducible refine (nMul A B ha hb0 _).mono ?_); rintro e x ⟨rfl, hb⟩; (try clear sczero czero0 czero1 scparts cparts0 cparts1 scback cback0 cback1 scright cright0 cright1 scleft cleft0 cleft1 scbc cbc0 cbc1 scba cba0 cba1 scab cab0 cab1 scc cc0 cc1 scb cb0 cb1 sca ca0 ca1); replace hX := below_then (by first | exact hX | exact hX.drew) hb; clear hb; (try clear KX); have KX := K.below hX; obtain ⟨⟨sczero, czero0, czero1⟩, ⟨scparts, cparts0, cparts1⟩, ⟨scback, cback0, cback1⟩, ⟨scright, cright0, cright1⟩, ⟨scleft, cleft0, cleft1⟩, ⟨scbc, cbc0, cbc1⟩, ⟨scba, cba0, cba1⟩, ⟨scab, cab0, cab1⟩, ⟨scc, cc0, cc1⟩, ⟨scb, cb0, cb1⟩, ⟨sca, ca0, ca1⟩, -⟩ := id KX)) | (go_at_call 17; ((with_reducible refine (nMul (md (A * B)) C (rng_md _) hc _).mono ?_); rintro e x ⟨rfl, hb⟩; (try clear sczero czero0 czero1 scparts cparts0 cparts1 scback cback0 cback1 scright cright0 cright1 scleft cleft0 cleft1 scbc cbc0 cbc1 scba cba0 cba1 scab cab0 cab1 scc cc0 cc1 scb cb0 cb1 sca ca0 ca1); replace hX := below_then (by first | exact hX | exact hX.drew) hb; clear hb; (try clear KX); have KX := K.below hX; obtain ⟨⟨sczero, czero0, czero1⟩, ⟨scparts, cparts0, cparts1⟩, ⟨scback, cback0, cback1⟩, ⟨scright, cright0, cright1⟩, ⟨scleft, cleft0, cleft1⟩, ⟨scbc, cbc0, cbc1⟩, ⟨scba, cba0, cba1⟩, ⟨scab, cab0, cab1⟩, ⟨scc, cc0, cc1⟩, ⟨scb, cb0, cb1⟩, ⟨sca, ca0, ca1⟩, -⟩ := id KX)) | (go_at_call 17; ((with_reducible refine (nMul B C hb0 hc _).mono ?_); rintro e x ⟨rfl, hb⟩; (try clear sczero czero0 czero1 scparts cparts0 cparts1 scback cback0 cback1 scright cright0 cright1 scleft cleft0 cleft1 scbc cbc0 cbc1 scba cba0 cba1 scab cab0 cab1 scc cc0 cc1 scb cb0 cb1 sca ca0 ca1); replace hX := below_then (by first | exact hX | exact hX.drew) hb; clear hb; (try clear KX); have KX := K.below hX; obtain ⟨⟨sczero, czero0, czero1⟩, ⟨scparts, cparts0, cparts1⟩, ⟨scback, cback0, cback1⟩, ⟨scright, cright0, cright1⟩, ⟨scleft, cleft0, cleft1⟩, ⟨scbc, cbc0, cbc1⟩, ⟨scba, cba0, cba1⟩, ⟨scab, cab0, cab1⟩, ⟨scc, cc0, cc1⟩, ⟨scb, cb0, cb1⟩, ⟨sca, ca0, ca1⟩, -⟩ := id KX)))
    go_wp2
    go_ret
    exact ⟨rfl, below_then hB hX⟩
end Go.Proofs.Ytpiblgnhjkcojaa
