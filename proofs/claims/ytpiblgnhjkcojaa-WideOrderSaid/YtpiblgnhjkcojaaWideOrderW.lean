/-
  WideOrder of layer 1 answers true for every two numbers. Made by wip/gen/order.py.
-/
import Derived.Test.YtpiblgnhjkcojaaWideG
import Derived.Test.YtpiblgnhjkcojaaWideN
import Derived.Test.YtpiblgnhjkcojaaWideQ
import Derived.WalkLawsBesides
namespace Go.Proofs.Ytpiblgnhjkcojaa
open Go.RowKit
set_option linter.unusedVariables false

theorem cmp_lt {a b : Int} (h : a < b) : cmpOf a b = -1 := by unfold cmpOf; rw [if_neg (by omega), if_pos h]
theorem cmp_eq {a b : Int} (h : a = b) : cmpOf a b = 0 := by unfold cmpOf; rw [if_pos h]
theorem cmp_gt {a b : Int} (h : b < a) : cmpOf a b = 1 := by unfold cmpOf; rw [if_neg (by omega), if_neg (by omega)]

theorem nCmpX (n m h : Int) (hn : Rng n) (hm : Rng m) (e : h = hi m) (w : World) :
    Calls Try.prog 14 #[.agg #[.int .u64 (hi n), .int .u64 (lo n)], .agg #[.int .u64 h, .int .u64 (lo m)]] w (NI (cmpOf n m) w) := by
  subst e; exact nCmp n m hn hm w
theorem bytes_eq {a b : ByteArray} (h : a.toList = b.toList) : a = b := by
  rw [ByteArray.toList_eq, ByteArray.toList_eq] at h
  exact WideShapes.bytes_inj h
theorem dec_same (a : Int) (ka kb : Nat) (a1 : 1 ≤ ka) (b1 : 1 ≤ kb) (h0 : 0 ≤ a) (a3 : a / 10 ^ ka = 0) (a4 : ka = 1 ∨ a / 10 ^ (ka - 1) ≠ 0) (b3 : a / 10 ^ kb = 0) (b4 : kb = 1 ∨ a / 10 ^ (kb - 1) ≠ 0) : ka = kb := by
  have l1 := lt_of_div a ka h0 a3
  have l2 := lt_of_div a kb h0 b3
  rcases Nat.lt_trichotomy ka kb with q | q | q
  · exfalso
    rcases b4 with e | e
    · omega
    · have g := ge_of_div a (kb - 1) h0 e
      have := pow_le ka (kb - 1) (by omega)
      omega
  · exact q
  · exfalso
    rcases a4 with e | e
    · omega
    · have g := ge_of_div a (ka - 1) h0 e
      have := pow_le kb (ka - 1) (by omega)
      omega
theorem le_bytes (n : Int) (h : Rng n) : le256 (bytesK 16 n) = n := by
  obtain ⟨h0, h1⟩ := h
  simp only [bytesK, le256]
  omega
theorem nTake (n : Int) (hn : Rng n) (b : Nat) (w : World) (hlt : b < w.heap.size) (hc : Bytes w b 0 (bytesK 16 n)) :
    Calls Try.prog 12 #[.slice (some ⟨b, 0, none⟩) 16 16] w (N3 n 0 w) := by
  have e := le_bytes n hn
  simp only [bytesK] at hc e
  have h := wTake b 0 16 (by omega) _ _ _ _ _ _ _ _ _ _ _ _ _ _ _ _ w hlt (by omega) (by omega) (by omega) (by omega) (by omega) (by omega) (by omega) (by omega) (by omega) (by omega) (by omega) (by omega) (by omega) (by omega) (by omega) (by omega) hc
  rw [e] at h
  refine h.mono ?_
  rintro e w' ⟨h, l, d, ⟨i, rfl⟩, rfl, hb⟩
  obtain ⟨rfl, rfl⟩ := of_is i
  exact ⟨rfl, hb⟩

set_option maxRecDepth 100000 in
set_option maxHeartbeats 2000000 in
theorem orderWalk_lt (A B : Int) (ha : Rng A) (hb0 : Rng B) (h : A < B) (c : Bool) (ov : decide (340282366920938463463374607431768211456 ≤ A + B) = c) (ct : decide (cmpOf (md (A + B)) A < 0) = c) (w : World) :
    Calls Try.prog 6 #[.agg #[.int .u64 (hi A), .int .u64 (lo A)], .agg #[.int .u64 (hi B), .int .u64 (lo B)]] w (fun e w' => e = .returned (.bool true) ∧ Below w.heap.size w w') := by
  have OV := Lib.hid ov
  have CT := Lib.hid ct
  clear ov ct
  go_enter Try.func6, Try.ntmps6
  go_wp2_with fail
  have K : Keeps [] w := trivial
  have hB : Below w.heap.size w w := Below.refl _ _
  replace K := K.new (A) 24
  replace hB := below_alloc hB (.cells #[.int .u64 (hi (A)), .int .u64 (lo (A))] 24)
  replace K := K.new (B) 24
  replace hB := below_alloc hB (.cells #[.int .u64 (hi (B)), .int .u64 (lo (B))] 24)
  try simp only [World.size_alloc] at K
  refine (awake _).mono ?_
  rintro e w1 ⟨rfl, hb⟩
  replace K := K.below hb
  replace hB := below_then hB hb
  clear hb
  obtain ⟨⟨scb, cb0, cb1⟩, ⟨sca, ca0, ca1⟩, -⟩ := id K
  go_wp2_with fail
  refine (nAdd A B ha hb0 _).mono ?_
  rintro e w2 ⟨rfl, hb⟩
  rw [OV.out]
  clear scb cb0 cb1 sca ca0 ca1
  replace K := K.below hb
  replace hB := below_then hB hb
  clear hb
  obtain ⟨⟨scb, cb0, cb1⟩, ⟨sca, ca0, ca1⟩, -⟩ := id K
  go_wp2_with fail
  replace K := K.new (md (A + B)) 24
  replace hB := below_alloc hB (.cells #[.int .u64 (hi (md (A + B))), .int .u64 (lo (md (A + B)))] 24)
  try simp only [World.size_alloc] at K
  refine (nSub A B ha hb0 _).mono ?_
  rintro e w3 ⟨rfl, hb⟩
  rw [show decide (A < B) = true from by simp; omega]
  clear scb cb0 cb1 sca ca0 ca1
  replace K := K.below hb
  replace hB := below_then hB hb
  clear hb
  obtain ⟨⟨scs, cs0, cs1⟩, ⟨scb, cb0, cb1⟩, ⟨sca, ca0, ca1⟩, -⟩ := id K
  go_wp2_with fail
  replace K := K.new (md (A - B)) 24
  replace hB := below_alloc hB (.cells #[.int .u64 (hi (md (A - B))), .int .u64 (lo (md (A - B)))] 24)
  try simp only [World.size_alloc] at K
  refine (nPut A ha _).mono ?_
  rintro e w4 ⟨bp, rfl, bp1, bp2, hby, hb⟩
  clear scs cs0 cs1 scb cb0 cb1 sca ca0 ca1
  replace K := K.below hb
  replace hB := below_then hB hb
  clear hb
  obtain ⟨⟨scd, cd0, cd1⟩, ⟨scs, cs0, cs1⟩, ⟨scb, cb0, cb1⟩, ⟨sca, ca0, ca1⟩, -⟩ := id K
  go_wp2_with fail
  refine (nTake A ha bp _ bp2 hby).mono ?_
  rintro e w5 ⟨rfl, hb⟩
  clear bp1 bp2 hby
  clear scd cd0 cd1 scs cs0 cs1 scb cb0 cb1 sca ca0 ca1
  replace K := K.below hb
  replace hB := below_then hB hb
  clear hb
  obtain ⟨⟨scd, cd0, cd1⟩, ⟨scs, cs0, cs1⟩, ⟨scb, cb0, cb1⟩, ⟨sca, ca0, ca1⟩, -⟩ := id K
  go_wp2_with fail
  replace K := K.new (A) 24
  replace hB := below_alloc hB (.cells #[.int .u64 (hi (A)), .int .u64 (lo (A))] 24)
  try simp only [World.size_alloc] at K
  refine (nCmp A B ha hb0 _).mono ?_
  rintro e w6 ⟨rfl, hb⟩
  rw [cmp_lt h]
  clear scd cd0 cd1 scs cs0 cs1 scb cb0 cb1 sca ca0 ca1
  replace K := K.below hb
  replace hB := below_then hB hb
  clear hb
  obtain ⟨⟨scx, cx0, cx1⟩, ⟨scd, cd0, cd1⟩, ⟨scs, cs0, cs1⟩, ⟨scb, cb0, cb1⟩, ⟨sca, ca0, ca1⟩, -⟩ := id K
  go_wp2_with fail
  obtain ⟨W0, hW0⟩ : ∃ W0, W0 = w6 := ⟨_, rfl⟩
  subst hW0
  have hX : Below W0.heap.size W0 W0 := Below.refl _ _
  clear scx cx0 cx1 scd cd0 cd1 scs cs0 cs1 scb cb0 cb1 sca ca0 ca1
  obtain ⟨-, -, -, ⟨scb, cb0, cb1⟩, ⟨sca, ca0, ca1⟩, -⟩ := id K
  go_region_held3 (fun w' => w'.cell? ⟨w.heap.size + 1, 0, none⟩ = some (.int .u64 (hi (B))) ∧ w'.cell? ⟨w.heap.size + 1, 1, none⟩ = some (.int .u64 (lo (B))) ∧ w'.cell? ⟨w.heap.size, 0, none⟩ = some (.int .u64 (hi (A))) ∧ w'.cell? ⟨w.heap.size, 1, none⟩ = some (.int .u64 (lo (A)))) (go_keep) (first | (go_at_call 31; ((with_reducible refine (nPrint A ha _).mono ?_); rintro e x ⟨ka, a1, a2, a3, a4, rfl, hb⟩; have a5 := str_size ka A; have a6 := str_toList (decK ka A); generalize strOfNums (decK ka A) = dA at a5 a6 ⊢; have A3 := Lib.hid a3; have A4 := Lib.hid a4; have A5 := Lib.hid a5; have A6 := Lib.hid a6; clear a3 a4 a5 a6; (try clear scb cb0 cb1 sca ca0 ca1); replace hX := below_then (by first | exact hX | exact hX.drew) hb; clear hb; (try clear KX); have KX := K.below hX; obtain ⟨-, -, -, ⟨scb, cb0, cb1⟩, ⟨sca, ca0, ca1⟩, -⟩ := id KX)) | (go_at_call 31; ((with_reducible refine (nPrint B hb0 _).mono ?_); rintro e x ⟨kb, b1, b2, b3, b4, rfl, hb⟩; have b5 := str_size kb B; have b6 := str_toList (decK kb B); generalize strOfNums (decK kb B) = dB at b5 b6 ⊢; have B3 := Lib.hid b3; have B4 := Lib.hid b4; have B5 := Lib.hid b5; have B6 := Lib.hid b6; clear b3 b4 b5 b6; (try clear scb cb0 cb1 sca ca0 ca1); replace hX := below_then (by first | exact hX | exact hX.drew) hb; clear hb; (try clear KX); have KX := K.below hX; obtain ⟨-, -, -, ⟨scb, cb0, cb1⟩, ⟨sca, ca0, ca1⟩, -⟩ := id KX)))
  try clear KX
  replace K := K.below hX
  replace hB := below_then hB hX
  clear hX
  have dA0 := A5.out
  have dB0 := B5.out
  have ct := CT.out
  rcases dec_order A B ha.1 h ka kb a1 b1 A3.out A4.out B3.out with q | ⟨q, q2⟩
  · have s1 : dA.size < dB.size := by omega
    have s0 : decide (dB.size < dA.size) = false := by simp; omega
    clear dA0 dB0 q
    go_wp2_with fail
    refine (nCmp B A hb0 ha _).mono ?_
    rintro e w7 ⟨rfl, hb⟩
    rw [cmp_gt h]
    replace K := K.below hb
    replace hB := below_then hB hb
    clear hb
    obtain ⟨⟨scx, cx0, cx1⟩, ⟨scd, cd0, cd1⟩, ⟨scs, cs0, cs1⟩, ⟨scb, cb0, cb1⟩, ⟨sca, ca0, ca1⟩, -⟩ := id K
    go_wp2_with fail
    · exact absurd (hi_inj (by assumption) (by assumption)) (by omega)
    · have hh : hi A = hi B := by assumption
      refine (nCmpX (md (A + B)) A (hi B) (rng_md _) ha hh.symm _).mono ?_
      rintro e w8 ⟨rfl, hb⟩
      clear scx cx0 cx1 scd cd0 cd1 scs cs0 cs1 scb cb0 cb1 sca ca0 ca1
      replace K := K.below hb
      replace hB := below_then hB hb
      clear hb
      obtain ⟨⟨scx, cx0, cx1⟩, ⟨scd, cd0, cd1⟩, ⟨scs, cs0, cs1⟩, ⟨scb, cb0, cb1⟩, ⟨sca, ca0, ca1⟩, -⟩ := id K
      go_wp2_with fail
      go_ret
      exact ⟨rfl, hB⟩
    · refine (nCmp (md (A + B)) A (rng_md _) ha _).mono ?_
      rintro e w8 ⟨rfl, hb⟩
      clear scx cx0 cx1 scd cd0 cd1 scs cs0 cs1 scb cb0 cb1 sca ca0 ca1
      replace K := K.below hb
      replace hB := below_then hB hb
      clear hb
      obtain ⟨⟨scx, cx0, cx1⟩, ⟨scd, cd0, cd1⟩, ⟨scs, cs0, cs1⟩, ⟨scb, cb0, cb1⟩, ⟨sca, ca0, ca1⟩, -⟩ := id K
      go_wp2_with fail
      go_ret
      exact ⟨rfl, hB⟩
  · have s1 : dA.size = dB.size := by omega
    have s2 : Op.bytesLess dA.toList dB.toList = true := by rw [A6.out, B6.out]; exact q2
    have s0 : decide (dB.size < dA.size) = false := by simp; omega
    clear dA0 dB0 q q2
    go_wp2_with fail
    refine (nCmp B A hb0 ha _).mono ?_
    rintro e w7 ⟨rfl, hb⟩
    rw [cmp_gt h]
    replace K := K.below hb
    replace hB := below_then hB hb
    clear hb
    obtain ⟨⟨scx, cx0, cx1⟩, ⟨scd, cd0, cd1⟩, ⟨scs, cs0, cs1⟩, ⟨scb, cb0, cb1⟩, ⟨sca, ca0, ca1⟩, -⟩ := id K
    go_wp2_with fail
    · exact absurd (hi_inj (by assumption) (by assumption)) (by omega)
    · have hh : hi A = hi B := by assumption
      refine (nCmpX (md (A + B)) A (hi B) (rng_md _) ha hh.symm _).mono ?_
      rintro e w8 ⟨rfl, hb⟩
      clear scx cx0 cx1 scd cd0 cd1 scs cs0 cs1 scb cb0 cb1 sca ca0 ca1
      replace K := K.below hb
      replace hB := below_then hB hb
      clear hb
      obtain ⟨⟨scx, cx0, cx1⟩, ⟨scd, cd0, cd1⟩, ⟨scs, cs0, cs1⟩, ⟨scb, cb0, cb1⟩, ⟨sca, ca0, ca1⟩, -⟩ := id K
      go_wp2_with fail
      go_ret
      exact ⟨rfl, hB⟩
    · refine (nCmp (md (A + B)) A (rng_md _) ha _).mono ?_
      rintro e w8 ⟨rfl, hb⟩
      clear scx cx0 cx1 scd cd0 cd1 scs cs0 cs1 scb cb0 cb1 sca ca0 ca1
      replace K := K.below hb
      replace hB := below_then hB hb
      clear hb
      obtain ⟨⟨scx, cx0, cx1⟩, ⟨scd, cd0, cd1⟩, ⟨scs, cs0, cs1⟩, ⟨scb, cb0, cb1⟩, ⟨sca, ca0, ca1⟩, -⟩ := id K
      go_wp2_with fail
      go_ret
      exact ⟨rfl, hB⟩
set_option maxRecDepth 100000 in
set_option maxHeartbeats 2000000 in
theorem orderWalk_gt (A B : Int) (ha : Rng A) (hb0 : Rng B) (h : B < A) (c : Bool) (ov : decide (340282366920938463463374607431768211456 ≤ A + B) = c) (ct : decide (cmpOf (md (A + B)) A < 0) = c) (w : World) :
    Calls Try.prog 6 #[.agg #[.int .u64 (hi A), .int .u64 (lo A)], .agg #[.int .u64 (hi B), .int .u64 (lo B)]] w (fun e w' => e = .returned (.bool true) ∧ Below w.heap.size w w') := by
  have OV := Lib.hid ov
  have CT := Lib.hid ct
  clear ov ct
  go_enter Try.func6, Try.ntmps6
  go_wp2_with fail
  have K : Keeps [] w := trivial
  have hB : Below w.heap.size w w := Below.refl _ _
  replace K := K.new (A) 24
  replace hB := below_alloc hB (.cells #[.int .u64 (hi (A)), .int .u64 (lo (A))] 24)
  replace K := K.new (B) 24
  replace hB := below_alloc hB (.cells #[.int .u64 (hi (B)), .int .u64 (lo (B))] 24)
  try simp only [World.size_alloc] at K
  refine (awake _).mono ?_
  rintro e w1 ⟨rfl, hb⟩
  replace K := K.below hb
  replace hB := below_then hB hb
  clear hb
  obtain ⟨⟨scb, cb0, cb1⟩, ⟨sca, ca0, ca1⟩, -⟩ := id K
  go_wp2_with fail
  refine (nAdd A B ha hb0 _).mono ?_
  rintro e w2 ⟨rfl, hb⟩
  rw [OV.out]
  clear scb cb0 cb1 sca ca0 ca1
  replace K := K.below hb
  replace hB := below_then hB hb
  clear hb
  obtain ⟨⟨scb, cb0, cb1⟩, ⟨sca, ca0, ca1⟩, -⟩ := id K
  go_wp2_with fail
  replace K := K.new (md (A + B)) 24
  replace hB := below_alloc hB (.cells #[.int .u64 (hi (md (A + B))), .int .u64 (lo (md (A + B)))] 24)
  try simp only [World.size_alloc] at K
  refine (nSub A B ha hb0 _).mono ?_
  rintro e w3 ⟨rfl, hb⟩
  rw [show decide (A < B) = false from by simp; omega]
  clear scb cb0 cb1 sca ca0 ca1
  replace K := K.below hb
  replace hB := below_then hB hb
  clear hb
  obtain ⟨⟨scs, cs0, cs1⟩, ⟨scb, cb0, cb1⟩, ⟨sca, ca0, ca1⟩, -⟩ := id K
  go_wp2_with fail
  replace K := K.new (md (A - B)) 24
  replace hB := below_alloc hB (.cells #[.int .u64 (hi (md (A - B))), .int .u64 (lo (md (A - B)))] 24)
  try simp only [World.size_alloc] at K
  refine (nPut A ha _).mono ?_
  rintro e w4 ⟨bp, rfl, bp1, bp2, hby, hb⟩
  clear scs cs0 cs1 scb cb0 cb1 sca ca0 ca1
  replace K := K.below hb
  replace hB := below_then hB hb
  clear hb
  obtain ⟨⟨scd, cd0, cd1⟩, ⟨scs, cs0, cs1⟩, ⟨scb, cb0, cb1⟩, ⟨sca, ca0, ca1⟩, -⟩ := id K
  go_wp2_with fail
  refine (nTake A ha bp _ bp2 hby).mono ?_
  rintro e w5 ⟨rfl, hb⟩
  clear bp1 bp2 hby
  clear scd cd0 cd1 scs cs0 cs1 scb cb0 cb1 sca ca0 ca1
  replace K := K.below hb
  replace hB := below_then hB hb
  clear hb
  obtain ⟨⟨scd, cd0, cd1⟩, ⟨scs, cs0, cs1⟩, ⟨scb, cb0, cb1⟩, ⟨sca, ca0, ca1⟩, -⟩ := id K
  go_wp2_with fail
  replace K := K.new (A) 24
  replace hB := below_alloc hB (.cells #[.int .u64 (hi (A)), .int .u64 (lo (A))] 24)
  try simp only [World.size_alloc] at K
  refine (nCmp A B ha hb0 _).mono ?_
  rintro e w6 ⟨rfl, hb⟩
  rw [cmp_gt h]
  clear scd cd0 cd1 scs cs0 cs1 scb cb0 cb1 sca ca0 ca1
  replace K := K.below hb
  replace hB := below_then hB hb
  clear hb
  obtain ⟨⟨scx, cx0, cx1⟩, ⟨scd, cd0, cd1⟩, ⟨scs, cs0, cs1⟩, ⟨scb, cb0, cb1⟩, ⟨sca, ca0, ca1⟩, -⟩ := id K
  go_wp2_with fail
  obtain ⟨W0, hW0⟩ : ∃ W0, W0 = w6 := ⟨_, rfl⟩
  subst hW0
  have hX : Below W0.heap.size W0 W0 := Below.refl _ _
  clear scx cx0 cx1 scd cd0 cd1 scs cs0 cs1 scb cb0 cb1 sca ca0 ca1
  obtain ⟨-, -, -, ⟨scb, cb0, cb1⟩, ⟨sca, ca0, ca1⟩, -⟩ := id K
  go_region_held3 (fun w' => w'.cell? ⟨w.heap.size + 1, 0, none⟩ = some (.int .u64 (hi (B))) ∧ w'.cell? ⟨w.heap.size + 1, 1, none⟩ = some (.int .u64 (lo (B))) ∧ w'.cell? ⟨w.heap.size, 0, none⟩ = some (.int .u64 (hi (A))) ∧ w'.cell? ⟨w.heap.size, 1, none⟩ = some (.int .u64 (lo (A)))) (go_keep) (first | (go_at_call 31; ((with_reducible refine (nPrint A ha _).mono ?_); rintro e x ⟨ka, a1, a2, a3, a4, rfl, hb⟩; have a5 := str_size ka A; have a6 := str_toList (decK ka A); generalize strOfNums (decK ka A) = dA at a5 a6 ⊢; have A3 := Lib.hid a3; have A4 := Lib.hid a4; have A5 := Lib.hid a5; have A6 := Lib.hid a6; clear a3 a4 a5 a6; (try clear scb cb0 cb1 sca ca0 ca1); replace hX := below_then (by first | exact hX | exact hX.drew) hb; clear hb; (try clear KX); have KX := K.below hX; obtain ⟨-, -, -, ⟨scb, cb0, cb1⟩, ⟨sca, ca0, ca1⟩, -⟩ := id KX)) | (go_at_call 31; ((with_reducible refine (nPrint B hb0 _).mono ?_); rintro e x ⟨kb, b1, b2, b3, b4, rfl, hb⟩; have b5 := str_size kb B; have b6 := str_toList (decK kb B); generalize strOfNums (decK kb B) = dB at b5 b6 ⊢; have B3 := Lib.hid b3; have B4 := Lib.hid b4; have B5 := Lib.hid b5; have B6 := Lib.hid b6; clear b3 b4 b5 b6; (try clear scb cb0 cb1 sca ca0 ca1); replace hX := below_then (by first | exact hX | exact hX.drew) hb; clear hb; (try clear KX); have KX := K.below hX; obtain ⟨-, -, -, ⟨scb, cb0, cb1⟩, ⟨sca, ca0, ca1⟩, -⟩ := id KX)))
  try clear KX
  replace K := K.below hX
  replace hB := below_then hB hX
  clear hX
  have dA0 := A5.out
  have dB0 := B5.out
  have ct := CT.out
  rcases dec_order B A hb0.1 h kb ka b1 a1 B3.out B4.out A3.out with q | ⟨q, q2⟩
  · have s1 : dB.size < dA.size := by omega
    have s0 : decide (dB.size < dA.size) = true := by simp; omega
    clear dA0 dB0 q
    go_wp2_with fail
    refine (nCmp B A hb0 ha _).mono ?_
    rintro e w7 ⟨rfl, hb⟩
    rw [cmp_lt h]
    replace K := K.below hb
    replace hB := below_then hB hb
    clear hb
    obtain ⟨⟨scx, cx0, cx1⟩, ⟨scd, cd0, cd1⟩, ⟨scs, cs0, cs1⟩, ⟨scb, cb0, cb1⟩, ⟨sca, ca0, ca1⟩, -⟩ := id K
    go_wp2_with fail
    · exact absurd (hi_inj (by assumption) (by assumption)) (by omega)
    · have hh : hi A = hi B := by assumption
      refine (nCmpX (md (A + B)) A (hi B) (rng_md _) ha hh.symm _).mono ?_
      rintro e w8 ⟨rfl, hb⟩
      clear scx cx0 cx1 scd cd0 cd1 scs cs0 cs1 scb cb0 cb1 sca ca0 ca1
      replace K := K.below hb
      replace hB := below_then hB hb
      clear hb
      obtain ⟨⟨scx, cx0, cx1⟩, ⟨scd, cd0, cd1⟩, ⟨scs, cs0, cs1⟩, ⟨scb, cb0, cb1⟩, ⟨sca, ca0, ca1⟩, -⟩ := id K
      go_wp2_with fail
      go_ret
      exact ⟨rfl, hB⟩
    · refine (nCmp (md (A + B)) A (rng_md _) ha _).mono ?_
      rintro e w8 ⟨rfl, hb⟩
      clear scx cx0 cx1 scd cd0 cd1 scs cs0 cs1 scb cb0 cb1 sca ca0 ca1
      replace K := K.below hb
      replace hB := below_then hB hb
      clear hb
      obtain ⟨⟨scx, cx0, cx1⟩, ⟨scd, cd0, cd1⟩, ⟨scs, cs0, cs1⟩, ⟨scb, cb0, cb1⟩, ⟨sca, ca0, ca1⟩, -⟩ := id K
      go_wp2_with fail
      go_ret
      exact ⟨rfl, hB⟩
  · have s1 : dA.size = dB.size := by omega
    obtain ⟨s2, s3⟩ : Op.bytesLess dA.toList dB.toList = false ∧ (dA.toList == dB.toList) = false := by rw [A6.out, B6.out]; exact less_not _ _ q2
    have s0 : decide (dB.size < dA.size) = false := by simp; omega
    clear dA0 dB0 q q2
    go_wp2_with fail
    refine (nCmp B A hb0 ha _).mono ?_
    rintro e w7 ⟨rfl, hb⟩
    rw [cmp_lt h]
    replace K := K.below hb
    replace hB := below_then hB hb
    clear hb
    obtain ⟨⟨scx, cx0, cx1⟩, ⟨scd, cd0, cd1⟩, ⟨scs, cs0, cs1⟩, ⟨scb, cb0, cb1⟩, ⟨sca, ca0, ca1⟩, -⟩ := id K
    go_wp2_with fail
    · exact absurd (hi_inj (by assumption) (by assumption)) (by omega)
    · have hh : hi A = hi B := by assumption
      refine (nCmpX (md (A + B)) A (hi B) (rng_md _) ha hh.symm _).mono ?_
      rintro e w8 ⟨rfl, hb⟩
      clear scx cx0 cx1 scd cd0 cd1 scs cs0 cs1 scb cb0 cb1 sca ca0 ca1
      replace K := K.below hb
      replace hB := below_then hB hb
      clear hb
      obtain ⟨⟨scx, cx0, cx1⟩, ⟨scd, cd0, cd1⟩, ⟨scs, cs0, cs1⟩, ⟨scb, cb0, cb1⟩, ⟨sca, ca0, ca1⟩, -⟩ := id K
      go_wp2_with fail
      go_ret
      exact ⟨rfl, hB⟩
    · refine (nCmp (md (A + B)) A (rng_md _) ha _).mono ?_
      rintro e w8 ⟨rfl, hb⟩
      clear scx cx0 cx1 scd cd0 cd1 scs cs0 cs1 scb cb0 cb1 sca ca0 ca1
      replace K := K.below hb
      replace hB := below_then hB hb
      clear hb
      obtain ⟨⟨scx, cx0, cx1⟩, ⟨scd, cd0, cd1⟩, ⟨scs, cs0, cs1⟩, ⟨scb, cb0, cb1⟩, ⟨sca, ca0, ca1⟩, -⟩ := id K
      go_wp2_with fail
      go_ret
      exact ⟨rfl, hB⟩
set_option maxRecDepth 100000 in
set_option maxHeartbeats 2000000 in
theorem orderWalk_eq (A : Int) (ha : Rng A) (c : Bool) (ov : decide (340282366920938463463374607431768211456 ≤ A + A) = c) (ct : decide (cmpOf (md (A + A)) A < 0) = c) (w : World) :
    Calls Try.prog 6 #[.agg #[.int .u64 (hi A), .int .u64 (lo A)], .agg #[.int .u64 (hi A), .int .u64 (lo A)]] w (fun e w' => e = .returned (.bool true) ∧ Below w.heap.size w w') := by
  have OV := Lib.hid ov
  have CT := Lib.hid ct
  clear ov ct
  go_enter Try.func6, Try.ntmps6
  go_wp2_with fail
  have K : Keeps [] w := trivial
  have hB : Below w.heap.size w w := Below.refl _ _
  replace K := K.new (A) 24
  replace hB := below_alloc hB (.cells #[.int .u64 (hi (A)), .int .u64 (lo (A))] 24)
  replace K := K.new (A) 24
  replace hB := below_alloc hB (.cells #[.int .u64 (hi (A)), .int .u64 (lo (A))] 24)
  try simp only [World.size_alloc] at K
  refine (awake _).mono ?_
  rintro e w1 ⟨rfl, hb⟩
  replace K := K.below hb
  replace hB := below_then hB hb
  clear hb
  obtain ⟨⟨scb, cb0, cb1⟩, ⟨sca, ca0, ca1⟩, -⟩ := id K
  go_wp2_with fail
  refine (nAdd A A ha ha _).mono ?_
  rintro e w2 ⟨rfl, hb⟩
  rw [OV.out]
  clear scb cb0 cb1 sca ca0 ca1
  replace K := K.below hb
  replace hB := below_then hB hb
  clear hb
  obtain ⟨⟨scb, cb0, cb1⟩, ⟨sca, ca0, ca1⟩, -⟩ := id K
  go_wp2_with fail
  replace K := K.new (md (A + A)) 24
  replace hB := below_alloc hB (.cells #[.int .u64 (hi (md (A + A))), .int .u64 (lo (md (A + A)))] 24)
  try simp only [World.size_alloc] at K
  refine (nSub A A ha ha _).mono ?_
  rintro e w3 ⟨rfl, hb⟩
  rw [show decide (A < A) = false from by simp]
  clear scb cb0 cb1 sca ca0 ca1
  replace K := K.below hb
  replace hB := below_then hB hb
  clear hb
  obtain ⟨⟨scs, cs0, cs1⟩, ⟨scb, cb0, cb1⟩, ⟨sca, ca0, ca1⟩, -⟩ := id K
  go_wp2_with fail
  replace K := K.new (md 0) 24
  replace hB := below_alloc hB (.cells #[.int .u64 (hi (md 0)), .int .u64 (lo (md 0))] 24)
  try simp only [World.size_alloc] at K
  refine (nPut A ha _).mono ?_
  rintro e w4 ⟨bp, rfl, bp1, bp2, hby, hb⟩
  clear scs cs0 cs1 scb cb0 cb1 sca ca0 ca1
  replace K := K.below hb
  replace hB := below_then hB hb
  clear hb
  obtain ⟨⟨scd, cd0, cd1⟩, ⟨scs, cs0, cs1⟩, ⟨scb, cb0, cb1⟩, ⟨sca, ca0, ca1⟩, -⟩ := id K
  go_wp2_with fail
  refine (nTake A ha bp _ bp2 hby).mono ?_
  rintro e w5 ⟨rfl, hb⟩
  clear bp1 bp2 hby
  clear scd cd0 cd1 scs cs0 cs1 scb cb0 cb1 sca ca0 ca1
  replace K := K.below hb
  replace hB := below_then hB hb
  clear hb
  obtain ⟨⟨scd, cd0, cd1⟩, ⟨scs, cs0, cs1⟩, ⟨scb, cb0, cb1⟩, ⟨sca, ca0, ca1⟩, -⟩ := id K
  go_wp2_with fail
  replace K := K.new (A) 24
  replace hB := below_alloc hB (.cells #[.int .u64 (hi (A)), .int .u64 (lo (A))] 24)
  try simp only [World.size_alloc] at K
  refine (nCmp A A ha ha _).mono ?_
  rintro e w6 ⟨rfl, hb⟩
  rw [cmp_eq rfl]
  clear scd cd0 cd1 scs cs0 cs1 scb cb0 cb1 sca ca0 ca1
  replace K := K.below hb
  replace hB := below_then hB hb
  clear hb
  obtain ⟨⟨scx, cx0, cx1⟩, ⟨scd, cd0, cd1⟩, ⟨scs, cs0, cs1⟩, ⟨scb, cb0, cb1⟩, ⟨sca, ca0, ca1⟩, -⟩ := id K
  go_wp2_with fail
  have tok1 : True := trivial
  obtain ⟨W0, hW0⟩ : ∃ W0, W0 = w6 := ⟨_, rfl⟩
  subst hW0
  have hX : Below W0.heap.size W0 W0 := Below.refl _ _
  clear scx cx0 cx1 scd cd0 cd1 scs cs0 cs1 scb cb0 cb1 sca ca0 ca1
  obtain ⟨-, -, -, ⟨scb, cb0, cb1⟩, ⟨sca, ca0, ca1⟩, -⟩ := id K
  go_region_held3 (fun w' => w'.cell? ⟨w.heap.size + 1, 0, none⟩ = some (.int .u64 (hi (A))) ∧ w'.cell? ⟨w.heap.size + 1, 1, none⟩ = some (.int .u64 (lo (A))) ∧ w'.cell? ⟨w.heap.size, 0, none⟩ = some (.int .u64 (hi (A))) ∧ w'.cell? ⟨w.heap.size, 1, none⟩ = some (.int .u64 (lo (A)))) (go_keep) (first | (go_at_call 31; ((have _t := tok1); (with_reducible refine (nPrint A ha _).mono ?_); rintro e x ⟨ka, a1, a2, a3, a4, rfl, hb⟩; have a5 := str_size ka A; have a6 := str_toList (decK ka A); generalize strOfNums (decK ka A) = dA at a5 a6 ⊢; have A3 := Lib.hid a3; have A4 := Lib.hid a4; have A5 := Lib.hid a5; have A6 := Lib.hid a6; clear a3 a4 a5 a6; clear tok1 _t; (try clear scb cb0 cb1 sca ca0 ca1); replace hX := below_then (by first | exact hX | exact hX.drew) hb; clear hb; (try clear KX); have KX := K.below hX; obtain ⟨-, -, -, ⟨scb, cb0, cb1⟩, ⟨sca, ca0, ca1⟩, -⟩ := id KX)) | (go_at_call 31; ((with_reducible refine (nPrint A ha _).mono ?_); rintro e x ⟨kb, b1, b2, b3, b4, rfl, hb⟩; have b5 := str_size kb A; have b6 := str_toList (decK kb A); generalize strOfNums (decK kb A) = dB at b5 b6 ⊢; have B3 := Lib.hid b3; have B4 := Lib.hid b4; have B5 := Lib.hid b5; have B6 := Lib.hid b6; clear b3 b4 b5 b6; (try clear scb cb0 cb1 sca ca0 ca1); replace hX := below_then (by first | exact hX | exact hX.drew) hb; clear hb; (try clear KX); have KX := K.below hX; obtain ⟨-, -, -, ⟨scb, cb0, cb1⟩, ⟨sca, ca0, ca1⟩, -⟩ := id KX)))
  try clear KX
  replace K := K.below hX
  replace hB := below_then hB hX
  clear hX
  have dA0 := A5.out
  have dB0 := B5.out
  have ct := CT.out
  obtain rfl : ka = kb := dec_same A ka kb a1 b1 ha.1 A3.out A4.out B3.out B4.out
  have s1 : dA = dB := bytes_eq (A6.out.trans B6.out.symm)
  subst s1
  clear dA0 dB0
  go_wp2_with fail
  refine (nCmp A A ha ha _).mono ?_
  rintro e w7 ⟨rfl, hb⟩
  rw [cmp_eq rfl]
  replace K := K.below hb
  replace hB := below_then hB hb
  clear hb
  obtain ⟨⟨scx, cx0, cx1⟩, ⟨scd, cd0, cd1⟩, ⟨scs, cs0, cs1⟩, ⟨scb, cb0, cb1⟩, ⟨sca, ca0, ca1⟩, -⟩ := id K
  go_wp2_with fail
  refine (nCmp (md (A + A)) A (rng_md _) ha _).mono ?_
  rintro e w8 ⟨rfl, hb⟩
  clear scx cx0 cx1 scd cd0 cd1 scs cs0 cs1 scb cb0 cb1 sca ca0 ca1
  replace K := K.below hb
  replace hB := below_then hB hb
  clear hb
  obtain ⟨⟨scx, cx0, cx1⟩, ⟨scd, cd0, cd1⟩, ⟨scs, cs0, cs1⟩, ⟨scb, cb0, cb1⟩, ⟨sca, ca0, ca1⟩, -⟩ := id K
  go_wp2_with fail
  go_ret
  exact ⟨rfl, hB⟩

theorem orderWalk (A B : Int) (ha : Rng A) (hb0 : Rng B) (w : World) :
    Calls Try.prog 6 #[.agg #[.int .u64 (hi A), .int .u64 (lo A)], .agg #[.int .u64 (hi B), .int .u64 (lo B)]] w (fun e w' => e = .returned (.bool true) ∧ Below w.heap.size w w') := by
  have ct : ∀ A B : Int, Rng A → Rng B → decide (cmpOf (md (A + B)) A < 0) = decide (340282366920938463463374607431768211456 ≤ A + B) := by
    intro A B ⟨p1, p2⟩ ⟨q1, q2⟩
    unfold cmpOf md
    rw [Bool.eq_iff_iff]
    simp only [decide_eq_true_eq]
    split
    · omega
    · split <;> omega
  rcases Int.lt_trichotomy A B with h | h | h
  · exact orderWalk_lt A B ha hb0 h _ rfl (ct A B ha hb0) w
  · subst h; exact orderWalk_eq A ha _ rfl (ct A A ha ha) w
  · exact orderWalk_gt A B ha hb0 h _ rfl (ct A B ha hb0) w
end Go.Proofs.Ytpiblgnhjkcojaa
