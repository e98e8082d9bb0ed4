/-
  What math/bits.Div64 answers, for all words.
-/
import Derived.Test.YtkpignbmocpcaaaGreatDvN
import Derived.BigQuiet
import Derived.Deep.QuietTactic
import Derived.LoopTactic
import Derived.Outline
import Derived.Deep.Cut
import Derived.Deep.DeepCutAuto
import Derived.Deep.LoopGhost
namespace Go.Proofs.YtkpignbmocpcaaaGreat.Dv
open Go.RowKit
set_option linter.unusedVariables false
set_option maxRecDepth 100000

set_option maxHeartbeats 4000000 in
theorem divCore {h l y s : Nat} (hh : 0 < h) (hy : h < y) (hl : l < 18446744073709551616) (hs : s ≤ 63) (hY : y * 2 ^ s < 18446744073709551616) (hY2 : 9223372036854775808 ≤ y * 2 ^ s)
    (LZ : Hid (∀ w : World, Calls Tryz.prog 33 #[.int .u64 (y : Int)] w (fun e w' => e = .returned (.int .i64 (s : Int)) ∧ w = w'))) (w : World) :
    Calls Tryz.prog 22 #[.int .u64 (h : Int), .int .u64 (l : Int), .int .u64 (y : Int)] w (fun e w' => e = .returned (.tuple #[.int .u64 (((h * 18446744073709551616 + l) / y : Nat) : Int), .int .u64 (((h * 18446744073709551616 + l) % y : Nat) : Int)]) ∧ w' = w) := by
  generalize hQQ : (h * 18446744073709551616 + l) / y = QQ
  generalize hRR : (h * 18446744073709551616 + l) % y = RR
  have HF := Lib.hid (And.intro hQQ hRR)
  clear hQQ hRR
  have z1 : ((y : Int) == 0) = false := by simp; omega
  have z2 : ¬ (y : Int) ≤ (h : Int) := by omega
  have z3 : ((h : Int) == 0) = false := by simp; omega
  have NM := Nm.of hy hl hs hY hY2
  have up := up_lt (l := l) (s := s) (by omega) hl
  have bU := NM.bU
  have c1 : (y : Int) * 2 ^ s = ((y * 2 ^ s : Nat) : Int) := by rw [Int.natCast_mul, Int.natCast_pow]; rfl
  have c2 : (h : Int) * 2 ^ s = ((h * 2 ^ s : Nat) : Int) := by rw [Int.natCast_mul, Int.natCast_pow]; rfl
  have c3 : (l : Int) * 2 ^ s = ((l * 2 ^ s : Nat) : Int) := by rw [Int.natCast_mul, Int.natCast_pow]; rfl
  have f7 : (l : Int) / 2 ^ (64 - s) = ((l / 2 ^ (64 - s) : Nat) : Int) := by rw [Int.natCast_ediv, Int.natCast_pow]; rfl
  have f8 := or_sum (a := h) up (by omega)
  have f2 : IntKind.u64.wrap ((y * 2 ^ s : Nat) : Int) = ((y * 2 ^ s : Nat) : Int) := by rw [IntKind.wrap_u64]; omega
  have hlt : h * 2 ^ s < 18446744073709551616 := Nat.lt_of_le_of_lt (Nat.le_add_right _ _) (Nat.lt_trans bU hY)
  have f6 : IntKind.u64.wrap ((h * 2 ^ s : Nat) : Int) = ((h * 2 ^ s : Nat) : Int) := by rw [IntKind.wrap_u64]; omega
  clear hlt
  have f10 : IntKind.u64.wrap ((l * 2 ^ s : Nat) : Int) = ((l * 2 ^ s % 18446744073709551616 : Nat) : Int) := by rw [IntKind.wrap_u64]; omega
  have Lm := Nat.mod_lt (l * 2 ^ s) (show 0 < 18446744073709551616 by decide)
  generalize l * 2 ^ s % 18446744073709551616 = R at NM f10 Lm
  generalize hZ : h * 2 ^ s + l / 2 ^ (64 - s) = U at NM bU f8
  have f3 : ((y * 2 ^ s : Nat) : Int) / 4294967296 = ((y * 2 ^ s / 4294967296 : Nat) : Int) := by rw [Int.natCast_ediv]; rfl
  have f4 := Wd.maskI (y * 2 ^ s) hY
  have f11 : ((R : Nat) : Int) / 4294967296 = ((R / 4294967296 : Nat) : Int) := by rw [Int.natCast_ediv]; rfl
  have f12 := Wd.maskI R Lm
  generalize R / 4294967296 = d1 at NM f11
  generalize R % 4294967296 = d0 at NM f12
  generalize y * 2 ^ s / 4294967296 = y1 at NM f3
  generalize y * 2 ^ s % 4294967296 = y0 at NM f4
  have HN := Lib.hid hY
  replace NM := Lib.hid NM
  clear hZ up bU Lm hY2
  have FX := Lib.hid (And.intro c1 (And.intro c2 (And.intro c3 (And.intro f7 (And.intro f2 (And.intro f6 (And.intro f10 (And.intro f8 (And.intro f3 (And.intro f4 (And.intro f11 f12)))))))))))
  have z4 : ¬ (64 : Int) - (s : Int) < 0 := by omega
  clear hh hy hl hY c1 c2 c3 f7 f2 f6 f10 f8 f3 f4 f11 f12
  go_enter Tryz.func22, Tryz.ntmps22
  go_wp2_with fail
  refine (LZ.out _).mono ?_
  rintro e w' ⟨rfl, rfl⟩
  clear LZ
  go_upto_region 15 with fail
  obtain ⟨c1, c2, c3, f7, f2, f6, f10, f8, f3, f4, f11, f12⟩ := FX.out
  rw [c1, c2, c3, f7, f2, f6, f10, f8, f3, f4, f11, f12]
  clear c1 c2 c3 f7 f2 f6 f10 f8 f3 f4 f11 f12 FX z1 z2 z3 z4
  generalize hYd : y * 2 ^ s = Y at NM HN ⊢
  have HP := Lib.hid (show 0 < y1 * 4294967296 + y0 by have := NM.out.b1; omega)
  have HU := Lib.hid (show U < y1 * 4294967296 + y0 by rw [← NM.out.half]; exact NM.out.bU)
  have HB0 := Lib.hid NM.out.b0
  have HUN := Lib.hid NM.out.bU
  have p1 : ¬ (y1 : Int) = 0 := by have := NM.out.b1; omega
  have hq : (U : Int).tdiv (y1 : Int) = ((U / y1 : Nat) : Int) := by rw [Int.tdiv_eq_ediv_of_nonneg (by omega), Int.natCast_ediv]
  have hq2 : (U : Int) / (y1 : Int) = ((U / y1 : Nat) : Int) := by rw [Int.natCast_ediv]
  have G0 := Lib.hid (Gs.start (B := 4294967296) (y1 := y1) (y0 := y0) (U := U) (d := d1) (by have := NM.out.b1; omega) NM.out.bd1)
  have r0 : U % y1 < y1 := Nat.mod_lt _ (by have := NM.out.b1; omega)
  have hm : (U / y1) * y1 + U % y1 = U := G0.out.e
  generalize U / y1 = q at hq hq2 G0 hm
  generalize U % y1 = r at G0 r0 hm
  have qb : q < 8589934592 := by
    have b := NM.out.b1
    rcases Nat.lt_or_ge q 8589934592 with x | x
    · exact x
    · exfalso
      have := Nat.mul_le_mul x b
      have := Nat.lt_trans NM.out.bU HN.out
      omega
  have e0 : IntKind.u64.wrap (q : Int) = (q : Int) := by rw [IntKind.wrap_u64]; omega
  have e1 : (q : Int) * (y1 : Int) = ((q * y1 : Nat) : Int) := (Int.natCast_mul _ _).symm
  have bU' : U < 18446744073709551616 := Nat.lt_trans NM.out.bU HN.out
  generalize q * y1 = qm at hm e1
  have e2 : IntKind.u64.wrap ((qm : Nat) : Int) = (qm : Int) := by rw [IntKind.wrap_u64]; omega
  have e3 : IntKind.u64.wrap ((U : Int) - (qm : Int)) = (r : Int) := by rw [IntKind.wrap_u64]; omega
  have R0 := Lib.hid (show r < 4294967296 by have := NM.out.b2; omega)
  clear hm r0 bU'
  go_upto_region 16 with fail
  go_cut [16] (fun z wr => z = .int .u64 (r : Int) ∧ wr = w)
  case first =>
    go_wp2_with fail
    go_meet
    exact ⟨rfl, rfl⟩
  obtain ⟨rfl, hwc⟩ := hcut
  rw [hwc]
  clear hwc
  clear p1 hq hq2 qb e0 e1 e2 e3
  go_step
  go_step
  have HQ := Lib.hid (show 0 ≤ 0 from Nat.le_refl 0)
  go_cut [15] (fun z wr => (∃ qq : Nat, z = .int .u64 (qq : Int) ∧ Hid (qq = (U * 4294967296 + d1) / (y1 * 4294967296 + y0))) ∧ wr = w)
  case first =>
    go_step
    go_loopg [15, 16] 2 (fun g a b wr => ∃ k q r : Nat, k + g = 2 ∧ a = .int .u64 (q : Int) ∧ b = .int .u64 (r : Int) ∧ r < 4294967296 ∧ (k = 0 ∨ k = 1 ∧ 2147483648 ≤ r) ∧ Hid (Gs 4294967296 y1 y0 U d1 q r) ∧ wr = w)
    case atStart => exact ⟨0, q, r, by omega, rfl, rfl, R0.out, Or.inl rfl, G0, rfl⟩
    case round =>
      clear G0 R0
      obtain ⟨k, q, r, hk, rfl, rfl, hr, hk2, G, rfl⟩ := hrel
      have qle : q < 8589934592 := by
        have e := G.out.e
        have b := NM.out.b1
        have u : U < 18446744073709551616 := Nat.lt_trans HUN.out HN.out
        rcases Nat.lt_or_ge q 8589934592 with x | x
        · exact x
        · exfalso
          have := Nat.mul_le_mul x b
          omega
      by_cases hq : 4294967296 ≤ q
      · have t1 : (4294967296 : Int) ≤ (q : Int) := by omega
        obtain ⟨dq, GD⟩ := G.out.down HP.out HU.out NM.out.bd1 (Or.inl hq)
        have s1 : IntKind.u64.wrap ((q : Int) - 1) = ((q - 1 : Nat) : Int) := by rw [IntKind.wrap_u64]; omega
        have s2 : IntKind.u64.wrap ((r : Int) + (y1 : Int)) = ((r + y1 : Nat) : Int) := by rw [IntKind.wrap_u64]; have := NM.out.b2; omega
        have HG := Lib.hid GD
        have kk : k = 0 ∧ 2147483648 ≤ r + y1 ∨ k = 1 ∧ 4294967296 ≤ r + y1 := by have := NM.out.b1; omega
        have gk0 : k < 2 := by omega
        have ql : q < 18446744073709551616 := by omega
        generalize q - 1 = q' at s1 HG
        generalize r + y1 = r' at s2 HG kk
        clear GD dq G
        by_cases hb : r' < 4294967296
        · have t3 : ¬ (4294967296 : Int) ≤ (r' : Int) := by omega
          have HK := Lib.hid (show r' < 4294967296 ∧ (k + 1 = 0 ∨ k + 1 = 1 ∧ 2147483648 ≤ r') from ⟨hb, Or.inr (by omega)⟩)
          clear hb kk hr hk2
          go_wp2_with fail
          go_roundg (gk - 1)
          case measure => omega
          case rel => exact ⟨k + 1, q', r', by omega, rfl, rfl, HK.out.1, HK.out.2, HG, rfl⟩
        · have t3 : (4294967296 : Int) ≤ (r' : Int) := by omega
          have E := Lib.hid (HG.out.broke HP.out HU.out HB0.out (by omega) (by decide))
          clear hb kk hr hk2 HG
          go_wp2_with fail
          go_meet
          exact ⟨⟨_, rfl, E⟩, rfl⟩
      · have t1 : ¬ (4294967296 : Int) ≤ (q : Int) := by omega
        have m1 : q * y0 ≤ 4294967296 * 4294967296 - 1 := by
          have := Nat.mul_le_mul (show q ≤ 4294967295 by omega) (show y0 ≤ 4294967295 by have := HB0.out; omega)
          omega
        have m2 : (q : Int) * (y0 : Int) = ((q * y0 : Nat) : Int) := (Int.natCast_mul _ _).symm
        generalize hqy : q * y0 = tt at m1 m2
        have m3 : IntKind.u64.wrap (tt : Int) = (tt : Int) := by rw [IntKind.wrap_u64]; omega
        have m4 : IntKind.u64.wrap (4294967296 * (r : Int)) = 4294967296 * (r : Int) := by rw [IntKind.wrap_u64]; omega
        have m5 : IntKind.u64.wrap (4294967296 * (r : Int) + (d1 : Int)) = 4294967296 * (r : Int) + (d1 : Int) := by rw [IntKind.wrap_u64]; have := NM.out.bd1; omega
        by_cases ht : 4294967296 * r + d1 < tt
        · have t2 : 4294967296 * (r : Int) + (d1 : Int) < (tt : Int) := by omega
          obtain ⟨dq, GD⟩ := G.out.down HP.out HU.out NM.out.bd1 (Or.inr (by rw [hqy]; exact ht))
          have s1 : IntKind.u64.wrap ((q : Int) - 1) = ((q - 1 : Nat) : Int) := by rw [IntKind.wrap_u64]; omega
          have s2 : IntKind.u64.wrap ((r : Int) + (y1 : Int)) = ((r + y1 : Nat) : Int) := by rw [IntKind.wrap_u64]; have := NM.out.b2; omega
          have HG := Lib.hid GD
          have kk : k = 0 ∧ 2147483648 ≤ r + y1 ∨ k = 1 ∧ 4294967296 ≤ r + y1 := by have := NM.out.b1; omega
          have gk0 : k < 2 := by omega
          have ql : q < 18446744073709551616 := by omega
          generalize q - 1 = q' at s1 HG
          generalize r + y1 = r' at s2 HG kk
          clear GD dq G
          by_cases hb : r' < 4294967296
          · have t3 : ¬ (4294967296 : Int) ≤ (r' : Int) := by omega
            have HK := Lib.hid (show r' < 4294967296 ∧ (k + 1 = 0 ∨ k + 1 = 1 ∧ 2147483648 ≤ r') from ⟨hb, Or.inr (by omega)⟩)
            clear hb kk hr hk2
            go_wp2_with fail
            go_roundg (gk - 1)
            case measure => omega
            case rel => exact ⟨k + 1, q', r', by omega, rfl, rfl, HK.out.1, HK.out.2, HG, rfl⟩
          · have t3 : (4294967296 : Int) ≤ (r' : Int) := by omega
            have E := Lib.hid (HG.out.broke HP.out HU.out HB0.out (by omega) (by decide))
            clear hb kk hr hk2 HG
            go_wp2_with fail
            go_meet
            exact ⟨⟨_, rfl, E⟩, rfl⟩
        · have t2 : ¬ 4294967296 * (r : Int) + (d1 : Int) < (tt : Int) := by omega
          have E := Lib.hid (G.out.done HP.out (by rw [hqy]; omega))
          clear hqy ht G hr hk2 m1 qle hq
          go_wp2_with fail
          go_meet
          exact ⟨⟨_, rfl, E⟩, rfl⟩
  obtain ⟨⟨Q1, rfl, HQ1⟩, hwc2⟩ := hcut
  rw [hwc2]
  clear hwc2
  have y00 : 0 < Y := by have := NM.out.half; have := NM.out.b1; omega
  obtain ⟨r1, hdm, hr1⟩ := dig NM.out.half HQ1.out y00
  have hq1 : Q1 < 4294967296 := by
    rw [HQ1.out]; exact digit_lt HU.out NM.out.bd1
  have D1 := Lib.hid hdm
  have eP : (Q1 : Int) * (Y : Int) = ((Y * Q1 : Nat) : Int) := by rw [Nat.mul_comm, Int.natCast_mul]
  generalize Y * Q1 = P at hdm eP
  obtain ⟨A, gA, hA⟩ : ∃ A : Nat, IntKind.u64.wrap ((U : Int) * 4294967296) = (A : Int) ∧ A = U * 4294967296 % 18446744073709551616 := ⟨_, by rw [IntKind.wrap_u64]; omega, rfl⟩
  obtain ⟨C, gC, hC⟩ : ∃ C : Nat, IntKind.u64.wrap ((A : Int) + (d1 : Int)) = (C : Int) ∧ C = (A + d1) % 18446744073709551616 := ⟨_, by rw [IntKind.wrap_u64]; omega, rfl⟩
  obtain ⟨E, gE, hE⟩ : ∃ E : Nat, IntKind.u64.wrap (P : Int) = (E : Int) ∧ E = P % 18446744073709551616 := ⟨_, by rw [IntKind.wrap_u64]; omega, rfl⟩
  have gR : IntKind.u64.wrap ((C : Int) - (E : Int)) = (r1 : Int) := by
    have := HN.out
    rw [IntKind.wrap_u64]; omega
  have gQ : IntKind.u64.wrap (Q1 : Int) = (Q1 : Int) := by rw [IntKind.wrap_u64]; omega
  replace HU := Lib.hid (show r1 < y1 * 4294967296 + y0 by rw [← NM.out.half]; exact hr1)
  replace HUN := Lib.hid hr1
  have L1 := Lib.hid hq1
  clear hdm hr1 hq1 hA hC hE y00
  go_step
  go_upto_region 22 with fail
  clear gA gC gE gR eP gQ
  have p1 : ¬ (y1 : Int) = 0 := by have := NM.out.b1; omega
  have hq : (r1 : Int).tdiv (y1 : Int) = ((r1 / y1 : Nat) : Int) := by rw [Int.tdiv_eq_ediv_of_nonneg (by omega), Int.natCast_ediv]
  have hq2 : (r1 : Int) / (y1 : Int) = ((r1 / y1 : Nat) : Int) := by rw [Int.natCast_ediv]
  have G0 := Lib.hid (Gs.start (B := 4294967296) (y1 := y1) (y0 := y0) (U := r1) (d := d0) (by have := NM.out.b1; omega) NM.out.bd0)
  have r0 : r1 % y1 < y1 := Nat.mod_lt _ (by have := NM.out.b1; omega)
  have hm : (r1 / y1) * y1 + r1 % y1 = r1 := G0.out.e
  generalize r1 / y1 = q at hq hq2 G0 hm
  generalize r1 % y1 = r at G0 r0 hm
  have qb : q < 8589934592 := by
    have b := NM.out.b1
    rcases Nat.lt_or_ge q 8589934592 with x | x
    · exact x
    · exfalso
      have := Nat.mul_le_mul x b
      have := Nat.lt_trans HUN.out HN.out
      omega
  have e0 : IntKind.u64.wrap (q : Int) = (q : Int) := by rw [IntKind.wrap_u64]; omega
  have e1 : (q : Int) * (y1 : Int) = ((q * y1 : Nat) : Int) := (Int.natCast_mul _ _).symm
  have bU' : r1 < 18446744073709551616 := Nat.lt_trans HUN.out HN.out
  generalize q * y1 = qm at hm e1
  have e2 : IntKind.u64.wrap ((qm : Nat) : Int) = (qm : Int) := by rw [IntKind.wrap_u64]; omega
  have e3 : IntKind.u64.wrap ((r1 : Int) - (qm : Int)) = (r : Int) := by rw [IntKind.wrap_u64]; omega
  have R0 := Lib.hid (show r < 4294967296 by have := NM.out.b2; omega)
  clear hm r0 bU'
  go_upto_region 23 with fail
  go_cut [16] (fun z wr => z = .int .u64 (r : Int) ∧ wr = w)
  case first =>
    go_wp2_with fail
    go_meet
    exact ⟨rfl, rfl⟩
  obtain ⟨rfl, hwc⟩ := hcut
  rw [hwc]
  clear hwc p1 hq hq2 qb e0 e1 e2 e3
  go_step
  go_step
  have HQ := Lib.hid (show 0 ≤ 0 from Nat.le_refl 0)
  go_cut [18] (fun z wr => (∃ qq : Nat, z = .int .u64 (qq : Int) ∧ Hid (qq = (r1 * 4294967296 + d0) / (y1 * 4294967296 + y0))) ∧ wr = w)
  case first =>
    go_step
    go_loopg [16, 18] 2 (fun g b a wr => ∃ k q r : Nat, k + g = 2 ∧ a = .int .u64 (q : Int) ∧ b = .int .u64 (r : Int) ∧ r < 4294967296 ∧ (k = 0 ∨ k = 1 ∧ 2147483648 ≤ r) ∧ Hid (Gs 4294967296 y1 y0 r1 d0 q r) ∧ wr = w)
    case atStart => exact ⟨0, q, r, by omega, rfl, rfl, R0.out, Or.inl rfl, G0, rfl⟩
    case round =>
      clear G0 R0
      obtain ⟨k, q, r, hk, rfl, rfl, hr, hk2, G, rfl⟩ := hrel
      have qle : q < 8589934592 := by
        have e := G.out.e
        have b := NM.out.b1
        have u : r1 < 18446744073709551616 := Nat.lt_trans HUN.out HN.out
        rcases Nat.lt_or_ge q 8589934592 with x | x
        · exact x
        · exfalso
          have := Nat.mul_le_mul x b
          omega
      by_cases hq : 4294967296 ≤ q
      · have t1 : (4294967296 : Int) ≤ (q : Int) := by omega
        obtain ⟨dq, GD⟩ := G.out.down HP.out HU.out NM.out.bd0 (Or.inl hq)
        have s1 : IntKind.u64.wrap ((q : Int) - 1) = ((q - 1 : Nat) : Int) := by rw [IntKind.wrap_u64]; omega
        have s2 : IntKind.u64.wrap ((r : Int) + (y1 : Int)) = ((r + y1 : Nat) : Int) := by rw [IntKind.wrap_u64]; have := NM.out.b2; omega
        have HG := Lib.hid GD
        have kk : k = 0 ∧ 2147483648 ≤ r + y1 ∨ k = 1 ∧ 4294967296 ≤ r + y1 := by have := NM.out.b1; omega
        have gk0 : k < 2 := by omega
        have ql : q < 18446744073709551616 := by omega
        generalize q - 1 = q' at s1 HG
        generalize r + y1 = r' at s2 HG kk
        clear GD dq G
        by_cases hb : r' < 4294967296
        · have t3 : ¬ (4294967296 : Int) ≤ (r' : Int) := by omega
          have HK := Lib.hid (show r' < 4294967296 ∧ (k + 1 = 0 ∨ k + 1 = 1 ∧ 2147483648 ≤ r') from ⟨hb, Or.inr (by omega)⟩)
          clear hb kk hr hk2
          go_wp2_with fail
          go_roundg (gk - 1)
          case measure => omega
          case rel => exact ⟨k + 1, q', r', by omega, rfl, rfl, HK.out.1, HK.out.2, HG, rfl⟩
        · have t3 : (4294967296 : Int) ≤ (r' : Int) := by omega
          have E := Lib.hid (HG.out.broke HP.out HU.out HB0.out (by omega) (by decide))
          clear hb kk hr hk2 HG
          go_wp2_with fail
          go_meet
          exact ⟨⟨_, rfl, E⟩, rfl⟩
      · have t1 : ¬ (4294967296 : Int) ≤ (q : Int) := by omega
        have m1 : q * y0 ≤ 4294967296 * 4294967296 - 1 := by
          have := Nat.mul_le_mul (show q ≤ 4294967295 by omega) (show y0 ≤ 4294967295 by have := HB0.out; omega)
          omega
        have m2 : (q : Int) * (y0 : Int) = ((q * y0 : Nat) : Int) := (Int.natCast_mul _ _).symm
        generalize hqy : q * y0 = tt at m1 m2
        have m3 : IntKind.u64.wrap (tt : Int) = (tt : Int) := by rw [IntKind.wrap_u64]; omega
        have m4 : IntKind.u64.wrap (4294967296 * (r : Int)) = 4294967296 * (r : Int) := by rw [IntKind.wrap_u64]; omega
        have m5 : IntKind.u64.wrap (4294967296 * (r : Int) + (d0 : Int)) = 4294967296 * (r : Int) + (d0 : Int) := by rw [IntKind.wrap_u64]; have := NM.out.bd0; omega
        by_cases ht : 4294967296 * r + d0 < tt
        · have t2 : 4294967296 * (r : Int) + (d0 : Int) < (tt : Int) := by omega
          obtain ⟨dq, GD⟩ := G.out.down HP.out HU.out NM.out.bd0 (Or.inr (by rw [hqy]; exact ht))
          have s1 : IntKind.u64.wrap ((q : Int) - 1) = ((q - 1 : Nat) : Int) := by rw [IntKind.wrap_u64]; omega
          have s2 : IntKind.u64.wrap ((r : Int) + (y1 : Int)) = ((r + y1 : Nat) : Int) := by rw [IntKind.wrap_u64]; have := NM.out.b2; omega
          have HG := Lib.hid GD
          have kk : k = 0 ∧ 2147483648 ≤ r + y1 ∨ k = 1 ∧ 4294967296 ≤ r + y1 := by have := NM.out.b1; omega
          have gk0 : k < 2 := by omega
          have ql : q < 18446744073709551616 := by omega
          generalize q - 1 = q' at s1 HG
          generalize r + y1 = r' at s2 HG kk
          clear GD dq G
          by_cases hb : r' < 4294967296
          · have t3 : ¬ (4294967296 : Int) ≤ (r' : Int) := by omega
            have HK := Lib.hid (show r' < 4294967296 ∧ (k + 1 = 0 ∨ k + 1 = 1 ∧ 2147483648 ≤ r') from ⟨hb, Or.inr (by omega)⟩)
            clear hb kk hr hk2
            go_wp2_with fail
            go_roundg (gk - 1)
            case measure => omega
            case rel => exact ⟨k + 1, q', r', by omega, rfl, rfl, HK.out.1, HK.out.2, HG, rfl⟩
          · have t3 : (4294967296 : Int) ≤ (r' : Int) := by omega
            have E := Lib.hid (HG.out.broke HP.out HU.out HB0.out (by omega) (by decide))
            clear hb kk hr hk2 HG
            go_wp2_with fail
            go_meet
            exact ⟨⟨_, rfl, E⟩, rfl⟩
        · have t2 : ¬ 4294967296 * (r : Int) + (d0 : Int) < (tt : Int) := by omega
          have E := Lib.hid (G.out.done HP.out (by rw [hqy]; omega))
          clear hqy ht G hr hk2 m1 qle hq
          go_wp2_with fail
          go_meet
          exact ⟨⟨_, rfl, E⟩, rfl⟩
  obtain ⟨⟨Q0, rfl, HQ0⟩, hwc2⟩ := hcut
  rw [hwc2]
  clear hwc2
  have y00 : 0 < Y := by have := NM.out.half; have := NM.out.b1; omega
  obtain ⟨r0', hdm, hr0⟩ := dig NM.out.half HQ0.out y00
  have hq0 : Q0 < 4294967296 := by
    rw [HQ0.out]; exact digit_lt HU.out NM.out.bd0
  have sc := final_of (B := 4294967296) (X := h * 18446744073709551616 + l) (Nat.two_pow_pos s) NM.out.dv NM.out.all D1.out hdm hr0
  rw [HF.out.1, HF.out.2] at sc
  obtain ⟨rfl, rfl⟩ := sc
  have q1l := L1.out
  have eP : (Q0 : Int) * (Y : Int) = ((Y * Q0 : Nat) : Int) := by rw [Nat.mul_comm, Int.natCast_mul]
  generalize Y * Q0 = P at hdm eP
  obtain ⟨A, gA, hA⟩ : ∃ A : Nat, IntKind.u64.wrap ((r1 : Int) * 4294967296) = (A : Int) ∧ A = r1 * 4294967296 % 18446744073709551616 := ⟨_, by rw [IntKind.wrap_u64]; omega, rfl⟩
  obtain ⟨C, gC, hC⟩ : ∃ C : Nat, IntKind.u64.wrap ((A : Int) + (d0 : Int)) = (C : Int) ∧ C = (A + d0) % 18446744073709551616 := ⟨_, by rw [IntKind.wrap_u64]; omega, rfl⟩
  obtain ⟨E, gE, hE⟩ : ∃ E : Nat, IntKind.u64.wrap (P : Int) = (E : Int) ∧ E = P % 18446744073709551616 := ⟨_, by rw [IntKind.wrap_u64]; omega, rfl⟩
  have gR : IntKind.u64.wrap ((C : Int) - (E : Int)) = (r0' : Int) := by
    have := HN.out
    rw [IntKind.wrap_u64]; omega
  have gQ : IntKind.u64.wrap (Q0 : Int) = (Q0 : Int) := by rw [IntKind.wrap_u64]; omega
  obtain ⟨F, gF, hF⟩ : ∃ F : Nat, IntKind.u64.wrap ((Q1 : Int) * 4294967296) = (F : Int) ∧ F = Q1 * 4294967296 := ⟨_, by rw [IntKind.wrap_u64]; omega, rfl⟩
  obtain ⟨G, gG, hG⟩ : ∃ G : Nat, IntKind.u64.wrap ((F : Int) + (Q0 : Int)) = (G : Int) ∧ G = Q1 * 4294967296 + Q0 := ⟨_, by rw [IntKind.wrap_u64]; omega, rfl⟩
  have gS : (r0' : Int) / 2 ^ s = ((r0' / 2 ^ s : Nat) : Int) := by rw [Int.natCast_ediv, Int.natCast_pow]; rfl
  have HG2 := Lib.hid hG
  have HS := Lib.hid gS
  clear hdm hr0 hq0 hA hC hE hF hG q1l HF D1 gS y00
  go_step
  go_wp2_with fail
  go_returns
  refine ⟨?_, rfl⟩
  show Ending.returned (.tuple #[.int .u64 (G : Int), .int .u64 ((r0' : Int) / 2 ^ s)]) = _
  rw [← HG2.out, ← HS.out]
end Go.Proofs.YtkpignbmocpcaaaGreat.Dv
