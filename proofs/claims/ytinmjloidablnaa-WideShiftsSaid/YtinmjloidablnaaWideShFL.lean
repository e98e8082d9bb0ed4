/-
  WideShifts of layer 1 answers true for every number and every two places. Made by wip/gen/shifts.py.
-/
import Derived.Test.YtinmjloidablnaaWideG
import Derived.Test.YtinmjloidablnaaWideR
namespace Go.Proofs.Ytinmjloidablnaa
open Go.RowKit
set_option linter.unusedVariables false

set_option maxRecDepth 100000 in
set_option maxHeartbeats 4000000 in
theorem shiftsWalkFl (A n m P R T L G S b k : Int) (ha : Rng A) (n0 : 0 ≤ n) (n1 : n ≤ 255) (m0 : 0 ≤ m) (m1 : m ≤ 255) (fn : 128 ≤ n)
    (rP : Rng P) (rR : Rng R) (rT : Rng T) (rL : Rng L) (eP : Hid (md (1 * 2 ^ n.toNat) = P)) (eR : Hid (A / 2 ^ n.toNat = R)) (eT : Hid (md (R * 2 ^ n.toNat) = T)) (eQ : Hid (md (A - T) = A))
    (eL : Hid (md (A * 2 ^ n.toNat) = L)) (eM : Hid (md (A * P) = L)) (eG : Hid (md (L * 2 ^ m.toNat) = G)) (eG2 : Hid (md (A * 2 ^ (n + m).toNat) = G)) (eS : Hid (R / 2 ^ m.toNat = S)) (eS2 : Hid (A / 2 ^ (n + m).toNat = S))
    (eB : Hid (bitOf R m = b)) (eB2 : Hid (bitOf A (n + m) = b)) (eK : Hid (lenN A = k)) (z1 : (lo A == 0) = false) (kz : (k == 0) = false) (k1 : 1 ≤ k) (k2 : k ≤ 128) (eK1 : Hid (bitOf A (k - 1) = 1)) (eK2 : Hid (A / 2 ^ k.toNat = 0)) (w : World) :
    Calls Try.prog 5 #[.agg #[.int .u64 (hi A), .int .u64 (lo A)], .int .u8 n, .int .u8 m] w (fun e w' => e = .returned (.bool true) ∧ Below w.heap.size w w') := by
  go_enter Try.func5, Try.ntmps5
  go_wp2_with fail
  have K : Keeps [] w := trivial
  have hB : Below w.heap.size w w := Below.refl _ _
  replace K := K.new (A) 24
  replace hB := below_alloc hB (.cells #[.int .u64 (hi (A)), .int .u64 (lo (A))] 24)
  try simp only [World.size_alloc] at K
  refine (awake _).mono ?_
  rintro e w1 ⟨rfl, hb⟩
  replace K := K.below hb
  replace hB := below_then hB hb
  clear hb
  obtain ⟨⟨sca, ca0, ca1⟩, -⟩ := id K
  go_wp2_with fail
  refine (nOf 1 (by omega) (by omega) _).mono ?_
  rintro e w2 ⟨rfl, hb⟩
  clear sca ca0 ca1
  replace K := K.below hb
  replace hB := below_then hB hb
  clear hb
  obtain ⟨⟨sca, ca0, ca1⟩, -⟩ := id K
  go_wp2_with fail
  refine (nLeftAs 1 n P r1 eP.out _).mono ?_
  rintro e w3 ⟨rfl, hb⟩
  clear sca ca0 ca1
  replace K := K.below hb
  replace hB := below_then hB hb
  clear hb
  obtain ⟨⟨sca, ca0, ca1⟩, -⟩ := id K
  go_upto_region 4 with fail
  have wr0 : IntKind.i64.wrap (n) = n := by rw [IntKind.wrap_i64]; omega
  go_upto_region 4 with fail
  replace K := K.new (P) 24
  replace hB := below_alloc hB (.cells #[.int .u64 (hi (P)), .int .u64 (lo (P))] 24)
  try simp only [World.size_alloc] at K
  clear sca ca0 ca1
  go_cut [8, 9] (CutU w [(w3.heap.size, P), (w.heap.size, A)] (A))
  case first =>
    generalize hW0 : World.alloc _ _ = W0 at K hB ⊢
    clear hW0
    have hX : Below W0.heap.size W0 W0 := Below.refl _ _
    obtain ⟨-, ⟨sca, ca0, ca1⟩, -⟩ := id K
    go_region_held3 (fun w' => w'.cell? ⟨w.heap.size, 0, none⟩ = some (.int .u64 (hi (A))) ∧ w'.cell? ⟨w.heap.size, 1, none⟩ = some (.int .u64 (lo (A)))) (first | go_keep | (exact ⟨(K.set hX O ol _ _).2.1.2.1, (K.set hX O ol _ _).2.1.2.2⟩)) (first | (go_at_call 22; ((with_reducible refine (nRightAs A n R ha eR.out _).mono ?_); rintro e x ⟨rfl, hb⟩; (try clear sca ca0 ca1); (first | (replace O := Own.below O hb) | (have O := Own.below (Own.fresh _ _ _ _) hb; have ol := hX.size) | (have O := Own.below (Own.fresh _ _ _ _).drew hb; have ol := hX.size) | skip); replace hX := below_then (by first | exact hX | exact hX.drew | exact below_alloc hX _ | exact (below_alloc hX _).drew) hb; clear hb; (try clear KX); have KX := K.below hX; obtain ⟨-, ⟨sca, ca0, ca1⟩, -⟩ := id KX; have sx := hX.size; (try obtain ⟨so, co0, co1, fo0, fo1⟩ := id O))) | (go_at_call 20; ((with_reducible refine (nLeftAs R n T rR eT.out _).mono ?_); rintro e x ⟨rfl, hb⟩; (try clear sca ca0 ca1); (first | (replace O := Own.below O hb) | (have O := Own.below (Own.fresh _ _ _ _) hb; have ol := hX.size) | (have O := Own.below (Own.fresh _ _ _ _).drew hb; have ol := hX.size) | skip); replace hX := below_then (by first | exact hX | exact hX.drew | exact below_alloc hX _ | exact (below_alloc hX _).drew) hb; clear hb; (try clear KX); have KX := K.below hX; obtain ⟨-, ⟨sca, ca0, ca1⟩, -⟩ := id KX; have sx := hX.size; (try obtain ⟨so, co0, co1, fo0, fo1⟩ := id O))) | (go_at_call 10; ((with_reducible refine (nSubAs A T A ha rT eQ.out _).mono ?_); rintro e x ⟨rfl, hb⟩; (try clear sca ca0 ca1); (first | (replace O := Own.below O hb) | (have O := Own.below (Own.fresh _ _ _ _) hb; have ol := hX.size) | (have O := Own.below (Own.fresh _ _ _ _).drew hb; have ol := hX.size) | skip); replace hX := below_then (by first | exact hX | exact hX.drew | exact below_alloc hX _ | exact (below_alloc hX _).drew) hb; clear hb; (try clear KX); have KX := K.below hX; obtain ⟨-, ⟨sca, ca0, ca1⟩, -⟩ := id KX; have sx := hX.size; (try obtain ⟨so, co0, co1, fo0, fo1⟩ := id O))))
    all_goals
      go_wp2_with fail
      go_meet
      first | exact cutU_fresh K hB hX | exact cutU_set K hB hX O ol
  case rest =>
    obtain ⟨blow, lowB, rfl, rfl, K1, K2, hB1⟩ := hcut
    replace K := And.intro K1 K2
    clear K1 K2 hB
    have hB := hB1
    clear hB1
    change Keeps [(blow, A), (w3.heap.size, P), (w.heap.size, A)] wc at K
    obtain ⟨⟨sclow, clow0, clow1⟩, ⟨scpower, cpower0, cpower1⟩, ⟨sca, ca0, ca1⟩, -⟩ := id K
    clear wr0
    go_upto_region 5 with fail
    have wr0 : IntKind.i64.wrap (n) = n := by rw [IntKind.wrap_i64]; omega
    have wr1 : IntKind.i64.wrap (m) = m := by rw [IntKind.wrap_i64]; omega
    have wr2 : IntKind.i64.wrap (n + m) = n + m := by rw [IntKind.wrap_i64]; omega
    obtain ⟨W0, hW0⟩ : ∃ W0, W0 = wc := ⟨_, rfl⟩
    subst hW0
    have hX : Below W0.heap.size W0 W0 := Below.refl _ _
    clear sclow clow0 clow1 scpower cpower0 cpower1 sca ca0 ca1
    obtain ⟨-, ⟨scpower, cpower0, cpower1⟩, ⟨sca, ca0, ca1⟩, -⟩ := id K
    go_region_held3 (fun w' => w'.cell? ⟨w3.heap.size, 0, none⟩ = some (.int .u64 (hi (P))) ∧ w'.cell? ⟨w3.heap.size, 1, none⟩ = some (.int .u64 (lo (P))) ∧ w'.cell? ⟨w.heap.size, 0, none⟩ = some (.int .u64 (hi (A))) ∧ w'.cell? ⟨w.heap.size, 1, none⟩ = some (.int .u64 (lo (A)))) (go_keep) (first | (go_at_call 20; ((with_reducible refine (nLeftAs A n L ha eL.out _).mono ?_); rintro e x ⟨rfl, hb⟩; (try clear scpower cpower0 cpower1 sca ca0 ca1); replace hX := below_then (by first | exact hX | exact hX.drew) hb; clear hb; (try clear KX); have KX := K.below hX; obtain ⟨-, ⟨scpower, cpower0, cpower1⟩, ⟨sca, ca0, ca1⟩, -⟩ := id KX)) | (go_at_call 17; ((with_reducible refine (nMulAs A P L ha rP eM.out _).mono ?_); rintro e x ⟨rfl, hb⟩; (try clear scpower cpower0 cpower1 sca ca0 ca1); replace hX := below_then (by first | exact hX | exact hX.drew) hb; clear hb; (try clear KX); have KX := K.below hX; obtain ⟨-, ⟨scpower, cpower0, cpower1⟩, ⟨sca, ca0, ca1⟩, -⟩ := id KX)) | (go_at_call 20; ((with_reducible refine (nLeftAs L m G rL eG.out _).mono ?_); rintro e x ⟨rfl, hb⟩; (try clear scpower cpower0 cpower1 sca ca0 ca1); replace hX := below_then (by first | exact hX | exact hX.drew) hb; clear hb; (try clear KX); have KX := K.below hX; obtain ⟨-, ⟨scpower, cpower0, cpower1⟩, ⟨sca, ca0, ca1⟩, -⟩ := id KX)) | (go_at_call 20; ((with_reducible refine (nLeftAs A (n + m) G ha eG2.out _).mono ?_); rintro e x ⟨rfl, hb⟩; (try clear scpower cpower0 cpower1 sca ca0 ca1); replace hX := below_then (by first | exact hX | exact hX.drew) hb; clear hb; (try clear KX); have KX := K.below hX; obtain ⟨-, ⟨scpower, cpower0, cpower1⟩, ⟨sca, ca0, ca1⟩, -⟩ := id KX)) | (go_at_call 22; ((with_reducible refine (nRightAs A n R ha eR.out _).mono ?_); rintro e x ⟨rfl, hb⟩; (try clear scpower cpower0 cpower1 sca ca0 ca1); replace hX := below_then (by first | exact hX | exact hX.drew) hb; clear hb; (try clear KX); have KX := K.below hX; obtain ⟨-, ⟨scpower, cpower0, cpower1⟩, ⟨sca, ca0, ca1⟩, -⟩ := id KX)) | (go_at_call 22; ((with_reducible refine (nRightAs R m S rR eS.out _).mono ?_); rintro e x ⟨rfl, hb⟩; (try clear scpower cpower0 cpower1 sca ca0 ca1); replace hX := below_then (by first | exact hX | exact hX.drew) hb; clear hb; (try clear KX); have KX := K.below hX; obtain ⟨-, ⟨scpower, cpower0, cpower1⟩, ⟨sca, ca0, ca1⟩, -⟩ := id KX)) | (go_at_call 22; ((with_reducible refine (nRightAs A (n + m) S ha eS2.out _).mono ?_); rintro e x ⟨rfl, hb⟩; (try clear scpower cpower0 cpower1 sca ca0 ca1); replace hX := below_then (by first | exact hX | exact hX.drew) hb; clear hb; (try clear KX); have KX := K.below hX; obtain ⟨-, ⟨scpower, cpower0, cpower1⟩, ⟨sca, ca0, ca1⟩, -⟩ := id KX)))
    clear wr0 wr1 wr2
    try clear KX
    replace K := K.below hX
    replace hB := below_then hB hX
    clear hX
    obtain ⟨⟨sclow, clow0, clow1⟩, ⟨scpower, cpower0, cpower1⟩, ⟨sca, ca0, ca1⟩, -⟩ := id K
    go_wp2_with fail
    have q00 := h00
    have q01 := l00
    have wr0 : IntKind.i64.wrap (n) = n := by rw [IntKind.wrap_i64]; omega
    have wr1 : IntKind.i64.wrap (m) = m := by rw [IntKind.wrap_i64]; omega
    have wr2 : IntKind.i64.wrap (n + m) = n + m := by rw [IntKind.wrap_i64]; omega
    have wr3 : IntKind.i64.wrap (k - 1) = k - 1 := by rw [IntKind.wrap_i64]; omega
    obtain ⟨W0, hW0⟩ : ∃ W0, W0 = x := ⟨_, rfl⟩
    subst hW0
    have hX : Below W0.heap.size W0 W0 := Below.refl _ _
    clear sclow clow0 clow1 scpower cpower0 cpower1 sca ca0 ca1
    obtain ⟨-, -, ⟨sca, ca0, ca1⟩, -⟩ := id K
    go_region_held3 (fun w' => w'.cell? ⟨w.heap.size, 0, none⟩ = some (.int .u64 (hi (A))) ∧ w'.cell? ⟨w.heap.size, 1, none⟩ = some (.int .u64 (lo (A)))) (go_keep) (first | (go_at_call 22; ((with_reducible refine (nRightAs A n R ha eR.out _).mono ?_); rintro e x ⟨rfl, hb⟩; (try clear sca ca0 ca1); replace hX := below_then (by first | exact hX | exact hX.drew) hb; clear hb; (try clear KX); have KX := K.below hX; obtain ⟨-, -, ⟨sca, ca0, ca1⟩, -⟩ := id KX)) | (go_at_call 26; ((with_reducible refine (nBitAs R m b rR eB.out _).mono ?_); rintro e x ⟨rfl, hb⟩; (try clear sca ca0 ca1); replace hX := below_then (by first | exact hX | exact hX.drew) hb; clear hb; (try clear KX); have KX := K.below hX; obtain ⟨-, -, ⟨sca, ca0, ca1⟩, -⟩ := id KX)) | (go_at_call 26; ((with_reducible refine (nBitAs A (n + m) b ha eB2.out _).mono ?_); rintro e x ⟨rfl, hb⟩; (try clear sca ca0 ca1); replace hX := below_then (by first | exact hX | exact hX.drew) hb; clear hb; (try clear KX); have KX := K.below hX; obtain ⟨-, -, ⟨sca, ca0, ca1⟩, -⟩ := id KX)) | (go_at_call 24; ((with_reducible refine (nLenAs A k ha eK.out _).mono ?_); rintro e x ⟨rfl, hb⟩; (try clear sca ca0 ca1); replace hX := below_then (by first | exact hX | exact hX.drew) hb; clear hb; (try clear KX); have KX := K.below hX; obtain ⟨-, -, ⟨sca, ca0, ca1⟩, -⟩ := id KX)) | (go_at_call 26; ((with_reducible refine (nBitAs A (k - 1) 1 ha eK1.out _).mono ?_); rintro e x ⟨rfl, hb⟩; (try clear sca ca0 ca1); replace hX := below_then (by first | exact hX | exact hX.drew) hb; clear hb; (try clear KX); have KX := K.below hX; obtain ⟨-, -, ⟨sca, ca0, ca1⟩, -⟩ := id KX)) | (go_at_call 22; ((with_reducible refine (nRightAs A k 0 ha eK2.out _).mono ?_); rintro e x ⟨rfl, hb⟩; (try clear sca ca0 ca1); replace hX := below_then (by first | exact hX | exact hX.drew) hb; clear hb; (try clear KX); have KX := K.below hX; obtain ⟨-, -, ⟨sca, ca0, ca1⟩, -⟩ := id KX)))
    go_wp2
    go_ret
    exact ⟨rfl, below_then hB hX⟩
end Go.Proofs.Ytinmjloidablnaa
