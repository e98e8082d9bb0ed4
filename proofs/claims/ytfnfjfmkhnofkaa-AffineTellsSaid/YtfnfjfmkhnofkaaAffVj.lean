/-
  What the reference of layer 9 answers: Odd. Made by wip/gen/affodd.py.
-/
import Derived.Test.YtfnfjfmkhnofkaaAffRj
import Derived.Deep.RegionWith
import Derived.Deep.DeepCutAuto
namespace Go.Proofs.Ytfnfjfmkhnofkaa
open Go.RowKit G
set_option linter.unusedVariables false
set_option maxRecDepth 100000

/-- Two words are a number's. -/
def W2 (N : Nat) (p q : Int) : Prop := p = ((hiW N : Nat) : Int) ∧ q = ((loW N : Nat) : Int)
def AnsO (n : Nat) (w : World) (e : Ending) (w' : World) : Prop := ∃ p0 p1 : Int, W2 (od1 n 128) p0 p1 ∧ e = .returned (.tuple #[.agg #[.int .u64 p0, .int .u64 p1], .int .i64 0]) ∧ Below w.heap.size w w'
/-- One step: how it goes on. -/
inductive Grows (h l : Int) (n i : Nat) (p0 p1 : Int) (W : Int) : Prop where
  | keep (m0 m1 : Int) (M : TN 26 #[.agg #[.int .u64 h, .int .u64 l], .agg #[.int .u64 p0, .int .u64 p1]] m0 m1)
      (B : ∀ V : World, Calls Try.prog 25 #[.agg #[.int .u64 m0, .int .u64 m1], .int .i64 (i : Int)] V (fun e w' => e = .returned (.int .i64 W) ∧ Below V.heap.size V w')) (e : W2 (od1 n (i + 1)) p0 p1)
  | more (m0 m1 l0 l1 s0 s1 : Int) (c : Bool) (M : TN 26 #[.agg #[.int .u64 h, .int .u64 l], .agg #[.int .u64 p0, .int .u64 p1]] m0 m1)
      (B : ∀ V : World, Calls Try.prog 25 #[.agg #[.int .u64 m0, .int .u64 m1], .int .i64 (i : Int)] V (fun e w' => e = .returned (.int .i64 (1 - W)) ∧ Below V.heap.size V w'))
      (L : TN 28 #[.agg #[.int .u64 0, .int .u64 1], .int .i64 (i : Int)] l0 l1)
      (D : TNB 27 #[.agg #[.int .u64 p0, .int .u64 p1], .agg #[.int .u64 l0, .int .u64 l1]] s0 s1 c) (e : W2 (od1 n (i + 1)) s0 s1)
set_option maxHeartbeats 4000000 in
theorem roddEven (h l : Int) (hl : l % 2 = 0) (l0 : 0 ≤ l) : TNE 9 #[.agg #[.int .u64 h, .int .u64 l]] 0 0 1 := fun w => by
  have e2 : l.tmod 2 = 0 := by rw [Int.tmod_eq_emod_of_nonneg l0]; exact hl
  have U := R2.new w h l
  have z1 : (w.alloc (.cells #[.int .u64 h, .int .u64 l] 31)).heap.size = w.heap.size + 1 := Array.size_push _
  have LW := below_alloc (Below.refl w.heap.size w) (.cells #[.int .u64 h, .int .u64 l] 31)
  have H1 := Lib.hid (And.intro U (And.intro z1 LW))
  clear U z1 LW
  go_enter Try.func9, Try.ntmps9
  go_upto_region 1 with fail
  generalize w.alloc _ = V1 at H1 ⊢
  have UZ := R2.new V1 0 0
  have z2 : (V1.alloc (.cells #[.int .u64 0, .int .u64 0] 31)).heap.size = w.heap.size + 1 + 1 := (Array.size_push _).trans (by rw [H1.out.2.1])
  rw [H1.out.2.1] at UZ
  have LB := below_allocs V1 (.cells #[.int .u64 0, .int .u64 0] 31)
  have HK := Lib.hid (And.intro (H1.out.1.below LB) (And.intro UZ (And.intro z2 (below_then H1.out.2.2 LB))))
  clear UZ z2 LB H1
  generalize V1.alloc _ = V2 at HK ⊢
  obtain ⟨x1, x2⟩ := HK.out.1.cells
  obtain ⟨z1, z2⟩ := HK.out.2.1.cells
  obtain ⟨f1, f2⟩ := HK.out.2.1.free
  have HR := Lib.hid (R2.put (p' := 0) (q' := 0) HK.out.2.1)
  have HB : Hid (Below w.heap.size w ((V2.setCell ⟨w.heap.size + 1, 0, none⟩ (.int .u64 0)).setCell ⟨w.heap.size + 1, 1, none⟩ (.int .u64 0))) := Lib.hid (below_putR2 HK.out.2.2.2 (Nat.le_succ _) _ _)
  clear HK
  go_wp2_with fail
  generalize World.setCell (World.setCell V2 _ _) _ _ = V5 at HR HB ⊢
  obtain ⟨r1, r2⟩ := HR.out.cells
  try simp only [Exit.inBlock, Exit.then, Exit.noGoto]
  refine bodyPost_ret (by simp [results, Try.results9, go_sem, r1, r2]; try rfl) rfl ?_
  exact ⟨rfl, HB.out⟩
set_option maxHeartbeats 8000000 in
theorem roddMain (n : Nat) (h l : Int) (hl : l % 2 = 1) (l0 : 0 ≤ l)
    (ST : Hid (∀ (i : Nat) (p0 p1 : Int), i < 128 → W2 (od1 n i) p0 p1 → Grows h l n i p0 p1 (if i = 0 then 1 else 0))) (w : World) :
    Calls Try.prog 9 #[.agg #[.int .u64 h, .int .u64 l]] w (AnsO n w) := by
  have e2 : l.tmod 2 = 1 := by rw [Int.tmod_eq_emod_of_nonneg l0]; exact hl
  have U := R2.new w h l
  have z1 : (w.alloc (.cells #[.int .u64 h, .int .u64 l] 31)).heap.size = w.heap.size + 1 := Array.size_push _
  have LW := below_alloc (Below.refl w.heap.size w) (.cells #[.int .u64 h, .int .u64 l] 31)
  have H1 := Lib.hid (And.intro U (And.intro z1 LW))
  clear U z1 LW
  go_enter Try.func9, Try.ntmps9
  go_upto_region 1 with fail
  generalize w.alloc _ = V1 at H1 ⊢
  have UZ := R2.new V1 0 0
  have z2 : (V1.alloc (.cells #[.int .u64 0, .int .u64 0] 31)).heap.size = w.heap.size + 1 + 1 := (Array.size_push _).trans (by rw [H1.out.2.1])
  rw [H1.out.2.1] at UZ
  have LB := below_allocs V1 (.cells #[.int .u64 0, .int .u64 0] 31)
  have HK := Lib.hid (And.intro (H1.out.1.below LB) (And.intro UZ (And.intro z2 (below_then H1.out.2.2 LB))))
  clear UZ z2 LB H1
  generalize V1.alloc _ = V2 at HK ⊢
  obtain ⟨x1, x2⟩ := HK.out.1.cells
  go_upto_region 4 with fail
  clear x1 x2 e2 hl
  have UX := R2.new V2 0 0
  rw [HK.out.2.2.1] at UX ⊢
  have LB := below_allocs V2 (.cells #[.int .u64 0, .int .u64 0] 31)
  have HJ := Lib.hid (And.intro UX (And.intro (HK.out.1.below LB) (And.intro (HK.out.2.1.below LB) (below_then HK.out.2.2.2 LB))))
  clear HK UX LB
  generalize V2.alloc _ = V3 at HJ ⊢
  have hc : w.heap.size ≠ w.heap.size + 1 + 1 ∧ w.heap.size + 1 ≠ w.heap.size + 1 + 1 ∧ w.heap.size ≤ w.heap.size + 1 + 1 ∧ w.heap.size ≤ w.heap.size + 1 := by omega
  generalize w.heap.size + 1 + 1 = cx at HJ hc ⊢
  generalize w.heap.size + 1 = cz at HJ hc ⊢
  have Hc := Lib.hid hc
  clear hc
  go_wp2_with fail
  have F0 : Hid ((R2 V3 cx 0 0 ∧ R2 V3 w.heap.size h l ∧ R2 V3 cz 0 0 ∧ Below w.heap.size w V3) ∧ True) := Lib.hid ⟨HJ.out, trivial⟩
  clear HJ
  go_loopg [5] 128 (fun g z wr => ∃ i : Nat, i + g = 128 ∧ z = .int .i64 i ∧ ∃ p0 p1 : Int, W2 (od1 n i) p0 p1 ∧ Hid ((R2 wr cx p0 p1 ∧ R2 wr w.heap.size h l ∧ R2 wr cz 0 0 ∧ Below w.heap.size w wr) ∧ True))
  case atStart => exact ⟨0, by omega, rfl, 0, 0, (show W2 0 0 0 from ⟨rfl, rfl⟩), F0⟩
  case round =>
    obtain ⟨i, hg, rfl, p0, p1, hp, F⟩ := hrel
    clear F0
    by_cases hi : i < 128
    · have k0 : (i : Int) < 128 := by omega
      have G := ST.out i p0 p1 hi hp
      have w1 : IntKind.i64.wrap ((i : Int) + 1) = (i : Int) + 1 := by rw [IntKind.wrap_i64]; omega
      clear hp hi
      by_cases i0 : i = 0
      · rw [if_pos i0] at G
        have k1 : ((i : Int) == 0) = true := by rw [i0]; rfl
        clear i0
        rcases G with ⟨m0, m1, M, B, e⟩ | ⟨m0, m1, l0, l1, s0, s1, c, M, B, L, D, e⟩
        · obtain ⟨BX, BN, BZ, BW⟩ := F.out.1
          have HM := Lib.hid M
          have HC := Lib.hid B
          have HE := Lib.hid e
          obtain ⟨x1, x2⟩ := BX.cells
          obtain ⟨y1, y2⟩ := BN.cells
          clear BX BN BZ BW M B e
          go_wp2_with fail
          refine (HM.out _).mono ?_
          rintro e1 V1 ⟨rfl, hb⟩
          have K1 := Lib.hid (And.intro (F.out.1.1.below hb) (And.intro (F.out.1.2.1.below hb) (And.intro (F.out.1.2.2.1.below hb) (below_then F.out.1.2.2.2 hb))))
          clear x1 x2 y1 y2 hb F HM
          go_wp2_with fail
          refine (HC.out _).mono ?_
          rintro e1 V2 ⟨rfl, hb⟩
          have K2 := Lib.hid (And.intro (K1.out.1.below hb) (And.intro (K1.out.2.1.below hb) (And.intro (K1.out.2.2.1.below hb) (below_then K1.out.2.2.2 hb))))
          clear K1 hb HC
          go_wp2_with fail
          go_roundg (gk - 1)
          case measure => omega
          case rel => exact ⟨i + 1, by omega, by go_num, _, _, HE.out, Lib.hid ⟨⟨K2.out.1, K2.out.2.1, K2.out.2.2.1, K2.out.2.2.2⟩, trivial⟩⟩
        · obtain ⟨BX, BN, BZ, BW⟩ := F.out.1
          have HM := Lib.hid M
          have HC := Lib.hid B
          have HL := Lib.hid L
          have HD := Lib.hid D
          have HE := Lib.hid e
          obtain ⟨x1, x2⟩ := BX.cells
          obtain ⟨y1, y2⟩ := BN.cells
          clear BX BN BZ BW M B L D e
          go_wp2_with fail
          refine (HM.out _).mono ?_
          rintro e1 V1 ⟨rfl, hb⟩
          have K1 := Lib.hid (And.intro (F.out.1.1.below hb) (And.intro (F.out.1.2.1.below hb) (And.intro (F.out.1.2.2.1.below hb) (below_then F.out.1.2.2.2 hb))))
          clear x1 x2 y1 y2 hb F HM
          go_wp2_with fail
          refine (HC.out _).mono ?_
          rintro e1 V2 ⟨rfl, hb⟩
          have K2 := Lib.hid (And.intro (K1.out.1.below hb) (And.intro (K1.out.2.1.below hb) (And.intro (K1.out.2.2.1.below hb) (below_then K1.out.2.2.2 hb))))
          clear K1 hb HC
          go_upto_region 11 with fail
          have hX : Below V2.heap.size V2 V2 := Below.refl _ _
          obtain ⟨f1, f2⟩ := K2.out.1.cells
          obtain ⟨f3, f4⟩ := K2.out.1.free
          go_region_with (first
            | (go_at_call 28; (with_reducible refine (HL.out _).mono ?_); rintro e1 x1 ⟨rfl, hb⟩; replace hX := below_then (show Below V2.heap.size V2 _ by first | exact hX | exact hX.drew) hb; clear hb f1 f2 f3 f4; obtain ⟨f1, f2⟩ := (K2.out.1.below hX).cells; obtain ⟨f3, f4⟩ := (K2.out.1.below hX).free)
            | (go_at_call 27; (with_reducible refine (HD.out _).mono ?_); rintro e1 x2 ⟨rfl, hb⟩; replace hX := below_then hX hb; clear hb f1 f2 f3 f4; obtain ⟨f1, f2⟩ := (K2.out.1.below hX).cells; obtain ⟨f3, f4⟩ := (K2.out.1.below hX).free))
          all_goals
            have K3 := Lib.hid (And.intro (K2.out.1.below hX) (And.intro (K2.out.2.1.below hX) (And.intro (K2.out.2.2.1.below hX) (below_then K2.out.2.2.2 hX))))
            clear f1 f2 f3 f4 hX K2
            go_wp2_with fail
            go_roundg (gk - 1)
            case measure => omega
            case rel => exact ⟨i + 1, by omega, by go_num, _, _, HE.out, Lib.hid ⟨⟨R2.put K3.out.1, K3.out.2.1.far2 Hc.out.1 _ _, K3.out.2.2.1.far2 Hc.out.2.1 _ _, below_putR2 K3.out.2.2.2 Hc.out.2.2.1 _ _⟩, trivial⟩⟩
      · rw [if_neg i0] at G
        have k1 : ((i : Int) == 0) = false := by simpa using i0
        clear i0
        rcases G with ⟨m0, m1, M, B, e⟩ | ⟨m0, m1, l0, l1, s0, s1, c, M, B, L, D, e⟩
        · obtain ⟨BX, BN, BZ, BW⟩ := F.out.1
          have HM := Lib.hid M
          have HC := Lib.hid B
          have HE := Lib.hid e
          obtain ⟨x1, x2⟩ := BX.cells
          obtain ⟨y1, y2⟩ := BN.cells
          clear BX BN BZ BW M B e
          go_wp2_with fail
          refine (HM.out _).mono ?_
          rintro e1 V1 ⟨rfl, hb⟩
          have K1 := Lib.hid (And.intro (F.out.1.1.below hb) (And.intro (F.out.1.2.1.below hb) (And.intro (F.out.1.2.2.1.below hb) (below_then F.out.1.2.2.2 hb))))
          clear x1 x2 y1 y2 hb F HM
          go_wp2_with fail
          refine (HC.out _).mono ?_
          rintro e1 V2 ⟨rfl, hb⟩
          have K2 := Lib.hid (And.intro (K1.out.1.below hb) (And.intro (K1.out.2.1.below hb) (And.intro (K1.out.2.2.1.below hb) (below_then K1.out.2.2.2 hb))))
          clear K1 hb HC
          go_wp2_with fail
          go_roundg (gk - 1)
          case measure => omega
          case rel => exact ⟨i + 1, by omega, by go_num, _, _, HE.out, Lib.hid ⟨⟨K2.out.1, K2.out.2.1, K2.out.2.2.1, K2.out.2.2.2⟩, trivial⟩⟩
        · obtain ⟨BX, BN, BZ, BW⟩ := F.out.1
          have HM := Lib.hid M
          have HC := Lib.hid B
          have HL := Lib.hid L
          have HD := Lib.hid D
          have HE := Lib.hid e
          obtain ⟨x1, x2⟩ := BX.cells
          obtain ⟨y1, y2⟩ := BN.cells
          clear BX BN BZ BW M B L D e
          go_wp2_with fail
          refine (HM.out _).mono ?_
          rintro e1 V1 ⟨rfl, hb⟩
          have K1 := Lib.hid (And.intro (F.out.1.1.below hb) (And.intro (F.out.1.2.1.below hb) (And.intro (F.out.1.2.2.1.below hb) (below_then F.out.1.2.2.2 hb))))
          clear x1 x2 y1 y2 hb F HM
          go_wp2_with fail
          refine (HC.out _).mono ?_
          rintro e1 V2 ⟨rfl, hb⟩
          have K2 := Lib.hid (And.intro (K1.out.1.below hb) (And.intro (K1.out.2.1.below hb) (And.intro (K1.out.2.2.1.below hb) (below_then K1.out.2.2.2 hb))))
          clear K1 hb HC
          go_upto_region 11 with fail
          have hX : Below V2.heap.size V2 V2 := Below.refl _ _
          obtain ⟨f1, f2⟩ := K2.out.1.cells
          obtain ⟨f3, f4⟩ := K2.out.1.free
          go_region_with (first
            | (go_at_call 28; (with_reducible refine (HL.out _).mono ?_); rintro e1 x1 ⟨rfl, hb⟩; replace hX := below_then (show Below V2.heap.size V2 _ by first | exact hX | exact hX.drew) hb; clear hb f1 f2 f3 f4; obtain ⟨f1, f2⟩ := (K2.out.1.below hX).cells; obtain ⟨f3, f4⟩ := (K2.out.1.below hX).free)
            | (go_at_call 27; (with_reducible refine (HD.out _).mono ?_); rintro e1 x2 ⟨rfl, hb⟩; replace hX := below_then hX hb; clear hb f1 f2 f3 f4; obtain ⟨f1, f2⟩ := (K2.out.1.below hX).cells; obtain ⟨f3, f4⟩ := (K2.out.1.below hX).free))
          all_goals
            have K3 := Lib.hid (And.intro (K2.out.1.below hX) (And.intro (K2.out.2.1.below hX) (And.intro (K2.out.2.2.1.below hX) (below_then K2.out.2.2.2 hX))))
            clear f1 f2 f3 f4 hX K2
            go_wp2_with fail
            go_roundg (gk - 1)
            case measure => omega
            case rel => exact ⟨i + 1, by omega, by go_num, _, _, HE.out, Lib.hid ⟨⟨R2.put K3.out.1, K3.out.2.1.far2 Hc.out.1 _ _, K3.out.2.2.1.far2 Hc.out.2.1 _ _, below_putR2 K3.out.2.2.2 Hc.out.2.2.1 _ _⟩, trivial⟩⟩
    · have e128 : i = 128 := by omega
      have k0 : ¬ ((i : Int) < 128) := by omega
      rw [e128] at hp
      obtain ⟨⟨BX, BN, BZ, BW⟩, _⟩ := F.out
      have HP := Lib.hid hp
      have HR := Lib.hid (R2.put (p' := p0) (q' := p1) BZ)
      have HB : Hid (Below w.heap.size w ((wr.setCell ⟨cz, 0, none⟩ (.int .u64 p0)).setCell ⟨cz, 1, none⟩ (.int .u64 p1))) := Lib.hid (below_putR2 BW Hc.out.2.2.2 _ _)
      obtain ⟨x1, x2⟩ := BX.cells
      obtain ⟨z1, z2⟩ := BZ.cells
      obtain ⟨f1, f2⟩ := BZ.free
      clear F BX BN BZ BW hp e128 ST hg
      go_wp2_with fail
      generalize World.setCell (World.setCell wr _ _) _ _ = V9 at HR HB ⊢
      obtain ⟨r1, r2⟩ := HR.out.cells
      try simp only [Exit.inBlock, Exit.then, Exit.noGoto]
      refine bodyPost_ret (by simp [results, Try.results9, go_sem, r1, r2]; try rfl) rfl ?_
      exact ⟨p0, p1, HP.out, rfl, HB.out⟩
theorem yLeft1 (i : Nat) (hi : i < 128) : TN 28 #[.agg #[.int .u64 0, .int .u64 1], .int .i64 (i : Int)] ((hiW (2 ^ i) : Nat) : Int) ((loW (2 ^ i) : Nat) : Int) := fun W => by
  have q := Wd.rLeftN 1 i ⟨by decide, by decide⟩ W
  have lt : 2 ^ i < Q := by
    have := Nat.pow_lt_pow_right (show 1 < 2 by decide) hi
    exact this
  rw [show Wd.md (1 * 2 ^ (i : Int).toNat) = ((2 ^ i : Nat) : Int) by
    rw [Int.one_mul, Int.toNat_natCast, show (2 : Int) ^ i = ((2 ^ i : Nat) : Int) by rw [Int.natCast_pow]; rfl, md_nat, Nat.mod_eq_of_lt lt]] at q
  unfold Wd.N1 at q
  simp only [hi_nat, lo_nat] at q
  exact q
theorem yBitN {N : Nat} (h : N < Q) (i : Nat) (W : World) : Calls Try.prog 25 #[.agg #[.int .u64 ((hiW N : Nat) : Int), .int .u64 ((loW N : Nat) : Int)], .int .i64 (i : Int)] W (fun e w' => e = .returned (.int .i64 ((N / 2 ^ i % 2 : Nat) : Int)) ∧ Below W.heap.size W w') := by
  have q := Wd.rBitN (N : Int) i (rng_nat h) W
  unfold Wd.NI Wd.bitOf at q
  rw [if_neg (by omega), Int.toNat_natCast, show (N : Int) / 2 ^ i % 2 = ((N / 2 ^ i % 2 : Nat) : Int) by rw [Int.natCast_emod, Int.natCast_ediv, Int.natCast_pow]; rfl] at q
  simp only [hi_nat, lo_nat] at q
  exact q
theorem grows (n : Nat) (hn : n < Q) (ho : n % 2 = 1) (i : Nat) (p0 p1 : Int) (hi : i < 128) (hp : W2 (od1 n i) p0 p1) : Grows ((hiW n : Nat) : Int) ((loW n : Nat) : Int) n i p0 p1 (if i = 0 then 1 else 0) := by
  obtain ⟨rfl, rfl⟩ := hp
  have b := (od1_ok ho i (by omega)).1
  have lt : od1 n i < Q := Nat.lt_of_lt_of_le b (Nat.pow_le_pow_right (by decide) (by omega : i ≤ 128))
  have M := yMul hn lt
  have B := fun V => yBitN (N := n * od1 n i % Q) (Nat.mod_lt _ (by decide)) i V
  by_cases e : n * od1 n i % Q / 2 ^ i % 2 = (if i = 0 then 1 else 0)
  · refine .keep _ _ M (fun V => ?_) ?_
    · have := B V
      rw [e] at this
      rw [show (if i = 0 then (1 : Int) else 0) = (((if i = 0 then 1 else 0 : Nat)) : Int) by split <;> rfl]
      exact this
    · show W2 (od1 n (i + 1)) _ _
      rw [od1, if_pos e]
      exact ⟨rfl, rfl⟩
  · have l2 : 2 ^ i < Q := Nat.pow_lt_pow_right (show 1 < 2 by decide) hi
    have s2 : od1 n i + 2 ^ i < Q := by
      have : 2 ^ i + 2 ^ i ≤ Q := by
        have h2 : 2 ^ (i + 1) ≤ 2 ^ 128 := Nat.pow_le_pow_right (by decide) (by omega)
        rw [Nat.pow_succ] at h2
        have : Q = 2 ^ 128 := rfl
        omega
      omega
    have D := yAdd lt l2
    rw [Nat.mod_eq_of_lt s2] at D
    refine .more _ _ _ _ _ _ _ M (fun V => ?_) (yLeft1 i hi) D ?_
    · have := B V
      have z : n * od1 n i % Q / 2 ^ i % 2 = 1 - (if i = 0 then 1 else 0) := by
        split at e <;> rename_i h0
        · rw [if_pos h0]; omega
        · rw [if_neg h0]; omega
      rw [z] at this
      rw [show (1 : Int) - (if i = 0 then (1 : Int) else 0) = ((1 - (if i = 0 then 1 else 0) : Nat) : Int) by split <;> rfl]
      exact this
    · show W2 (od1 n (i + 1)) _ _
      rw [od1, if_neg e]
      exact ⟨rfl, rfl⟩
theorem lo_par (n : Nat) : ((loW n : Nat) : Int) % 2 = ((n % 2 : Nat) : Int) := by unfold loW; omega
theorem yOddY (n : Nat) (hn : n < Q) (ho : n % 2 = 1) : TNE 9 #[.agg #[.int .u64 ((hiW n : Nat) : Int), .int .u64 ((loW n : Nat) : Int)]] ((hiW (invQ n) : Nat) : Int) ((loW (invQ n) : Nat) : Int) 0 := fun w => by
  refine (roddMain n _ _ (by rw [lo_par, ho]; rfl) (by omega) (Lib.hid (grows n hn ho)) w).mono ?_
  rintro e w' ⟨p0, p1, ⟨rfl, rfl⟩, rfl, hb⟩
  rw [od1_inv ho]
  exact ⟨rfl, hb⟩
theorem yOddN (n : Nat) (ho : n % 2 = 0) : TNE 9 #[.agg #[.int .u64 ((hiW n : Nat) : Int), .int .u64 ((loW n : Nat) : Int)]] 0 0 1 :=
  roddEven _ _ (by rw [lo_par, ho]; rfl) (by omega)
end Go.Proofs.Ytfnfjfmkhnofkaa
/-
  The walk of AffineTells, from what affine's calls answer. Made by wip/gen/afftells.py.
-/
namespace Go.Proofs.Ytfnfjfmkhnofkaa
open Go.RowKit G
set_option linter.unusedVariables false
set_option maxRecDepth 100000

theorem r4_early {w v : World} (hb : Below (w.alloc (.cells #[.int .u64 0, .int .u64 0, .int .u64 0, .int .u64 0] 37)).heap.size (w.alloc (.cells #[.int .u64 0, .int .u64 0, .int .u64 0, .int .u64 0] 37)) v) : R4 v w.heap.size 0 0 0 0 := R4.below (R4.new w 0 0 0 0) hb
/-- Behind a region that lays one map of the reference. -/
def CutM (W0 : World) (b0 b1 b2 b3 : Int) (p : Value) (wr : World) : Prop := ∃ b, p = .pointer (some ⟨b, 0, none⟩) ∧ R4 wr b b0 b1 b2 b3 ∧ Below W0.heap.size W0 wr
section
variable {W0 x : World} {b : Nat} {b0 b1 b2 b3 : Int}
theorem CutM.of (hb : Below W0.heap.size W0 x) : CutM W0 b0 b1 b2 b3 (.pointer (some ⟨x.heap.size, 0, none⟩)) (x.alloc (.cells #[.int .u64 b0, .int .u64 b1, .int .u64 b2, .int .u64 b3] 37)) := ⟨_, rfl, R4.new x _ _ _ _, below_alloc hb _⟩
theorem CutM.early (hb : Below W0.heap.size W0 x) (le : W0.heap.size ≤ b) (z : R4 x b 0 0 0 0) : CutM W0 b0 b1 b2 b3 (.pointer (some ⟨b, 0, none⟩)) ((((x.setCell ⟨b, 0, none⟩ (.int .u64 b0)).setCell ⟨b, 1, none⟩ (.int .u64 b1)).setCell ⟨b, 2, none⟩ (.int .u64 b2)).setCell ⟨b, 3, none⟩ (.int .u64 b3)) := ⟨_, rfl, R4.put z, below_putR4 hb le⟩
end
/-- The two ways: A is even; A is odd. -/
inductive TWay (k i0 i1 i2 i3 b0 b1 b2 b3 : Int) : Prop where
  | even (e : k = 1) (ei : i0 = 0 ∧ i1 = 0 ∧ i2 = 0 ∧ i3 = 0)
  | odd (e : k = 0) (eb : b0 = 0 ∧ b1 = 1 ∧ b2 = 0 ∧ b3 = 0)
set_option maxHeartbeats 8000000 in
theorem atellsMain (aw : Hid (∀ W, Calls Try.prog 7 #[] W (Bl true W))) (m0 m1 m2 m3 n0 n1 n2 n3 x0 x1 o0 o1 ke i0 i1 i2 i3 k q0 q1 b0 b1 b2 b3 a0 a1 t0 t1 t2 t3 u0 u1 u2 u3 : Int) (w : World)
    (CO : Hid (TNE 8 #[.agg #[.int .u64 x0, .int .u64 x1]] o0 o1 ke))
    (CP : Hid (TNE 9 #[.agg #[.int .u64 x0, .int .u64 x1]] o0 o1 ke))
    (CI : Hid (TME 10 #[.agg #[.int .u64 m0, .int .u64 m1, .int .u64 m2, .int .u64 m3]] i0 i1 i2 i3 k))
    (CH : Hid (TNE 9 #[.agg #[.int .u64 m0, .int .u64 m1]] q0 q1 k))
    (CT : Hid (TM 11 #[.agg #[.int .u64 m0, .int .u64 m1, .int .u64 m2, .int .u64 m3], .agg #[.int .u64 i0, .int .u64 i1, .int .u64 i2, .int .u64 i3]] b0 b1 b2 b3))
    (A1 : Hid (TN 13 #[.agg #[.int .u64 m0, .int .u64 m1, .int .u64 m2, .int .u64 m3], .agg #[.int .u64 x0, .int .u64 x1]] a0 a1))
    (A2 : Hid (TN 14 #[.agg #[.int .u64 m0, .int .u64 m1, .int .u64 m2, .int .u64 m3], .agg #[.int .u64 x0, .int .u64 x1]] a0 a1))
    (T1 : Hid (TM 15 #[.agg #[.int .u64 m0, .int .u64 m1, .int .u64 m2, .int .u64 m3], .agg #[.int .u64 n0, .int .u64 n1, .int .u64 n2, .int .u64 n3]] t0 t1 t2 t3))
    (T2 : Hid (TM 11 #[.agg #[.int .u64 m0, .int .u64 m1, .int .u64 m2, .int .u64 m3], .agg #[.int .u64 n0, .int .u64 n1, .int .u64 n2, .int .u64 n3]] t0 t1 t2 t3))
    (P1 : Hid (TM 16 #[.agg #[.int .u64 m0, .int .u64 m1, .int .u64 m2, .int .u64 m3], .agg #[.int .u64 x0, .int .u64 x1]] u0 u1 u2 u3))
    (P2 : Hid (TM 17 #[.agg #[.int .u64 m0, .int .u64 m1, .int .u64 m2, .int .u64 m3], .agg #[.int .u64 x0, .int .u64 x1]] u0 u1 u2 u3))
    (hw : Hid (TWay k i0 i1 i2 i3 b0 b1 b2 b3)) (hk : Hid (ke = 0 ∨ ke = 1)) :
    Calls Try.prog 3 #[.agg #[.int .u64 m0, .int .u64 m1, .int .u64 m2, .int .u64 m3], .agg #[.int .u64 n0, .int .u64 n1, .int .u64 n2, .int .u64 n3], .agg #[.int .u64 x0, .int .u64 x1]] w (Bl true w) := by
  have hB : Below w.heap.size w w := Below.refl _ _
  have OM := Lib.hid (yOwn m0 m1 m2 m3)
  have ON := Lib.hid (yOwn n0 n1 n2 n3)
  have OI := Lib.hid (yOwn i0 i1 i2 i3)
  have OT := Lib.hid (yOwn t0 t1 t2 t3)
  have OU := Lib.hid (yOwn u0 u1 u2 u3)
  go_enter Try.func3, Try.ntmps3
  go_wp2_with fail
  have UM := F4.new w m0 m1 m2 m3 26
  have z1 : (w.alloc (.cells #[.int .u64 m0, .int .u64 m1, .int .u64 m2, .int .u64 m3] 26)).heap.size = w.heap.size + 1 := Array.size_push _
  replace hB := below_alloc hB (.cells #[.int .u64 m0, .int .u64 m1, .int .u64 m2, .int .u64 m3] 26)
  generalize w.alloc _ = V1 at UM hB z1 ⊢
  have UN := F4.new V1 n0 n1 n2 n3 26
  have z2 : (V1.alloc (.cells #[.int .u64 n0, .int .u64 n1, .int .u64 n2, .int .u64 n3] 26)).heap.size = w.heap.size + 1 + 1 := (Array.size_push _).trans (by rw [z1])
  rw [z1] at UN
  have LB := below_allocs V1 (.cells #[.int .u64 n0, .int .u64 n1, .int .u64 n2, .int .u64 n3] 26)
  replace UM := UM.below LB
  replace hB := below_then hB LB
  clear LB
  generalize V1.alloc _ = V2 at UM UN hB z2 ⊢
  have UX := CU.new V2 x0 x1 24
  rw [z2] at UX
  have LB := below_allocs V2 (.cells #[.int .u64 x0, .int .u64 x1] 24)
  replace UM := UM.below LB
  replace UN := UN.below LB
  replace hB := below_then hB LB
  clear LB z1 z2
  generalize V2.alloc _ = V3 at UM UN UX hB ⊢
  obtain ⟨cm, hcm⟩ : ∃ cm, cm = w.heap.size := ⟨_, rfl⟩
  have HW := Lib.hid hB
  rw [← hcm] at UM UN UX ⊢
  generalize cm + 1 + 1 = cx at UX ⊢
  generalize cm + 1 = cn at UN ⊢
  clear hcm hB
  have hB : Below w.heap.size w V3 := HW.out
  clear HW
  refine (aw.out _).mono ?_
  rintro e W0 ⟨rfl, hb⟩
  replace UM := UM.below hb
  replace UN := UN.below hb
  replace UX := UX.below hb
  replace hB := below_then hB hb
  clear hb
  obtain ⟨y1, y2⟩ := UX.c
  go_wp2_with fail
  clear y1 y2
  refine (CO.out _).mono ?_
  rintro e W1 ⟨rfl, hb⟩
  replace UM := UM.below hb
  replace UN := UN.below hb
  replace UX := UX.below hb
  replace hB := below_then hB hb
  clear hb
  go_upto_region 4 with fail
  have UO := CU.new W1 o0 o1 24
  have LB := below_allocs W1 (.cells #[.int .u64 o0, .int .u64 o1] 24)
  replace UM := UM.below LB
  replace UN := UN.below LB
  replace UX := UX.below LB
  replace hB := below_then hB LB
  clear LB
  generalize W1.alloc _ = V4 at UM UN UX UO hB ⊢
  generalize W1.heap.size = co at UO ⊢
  obtain ⟨y1, y2⟩ := UX.c
  go_wp2_with fail
  clear y1 y2
  refine (CP.out _).mono ?_
  rintro e W2 ⟨rfl, hb⟩
  replace UM := UM.below hb
  replace UN := UN.below hb
  replace UX := UX.below hb
  replace UO := UO.below hb
  replace hB := below_then hB hb
  clear hb
  go_upto_region 5 with fail
  have UP := CU.new W2 o0 o1 31
  have LB := below_allocs W2 (.cells #[.int .u64 o0, .int .u64 o1] 31)
  replace UM := UM.below LB
  replace UN := UN.below LB
  replace UX := UX.below LB
  replace UO := UO.below LB
  replace hB := below_then hB LB
  clear LB
  generalize W2.alloc _ = V5 at UM UN UX UO UP hB ⊢
  generalize W2.heap.size = cp at UP ⊢
  obtain ⟨y1, y2, y3, y4⟩ := UM
  have UM := F4.mk y1 y2 y3 y4
  go_wp2_with fail
  clear y1 y2 y3 y4
  refine (CI.out _).mono ?_
  rintro e W3 ⟨rfl, hb⟩
  replace UM := UM.below hb
  replace UN := UN.below hb
  replace UX := UX.below hb
  replace UO := UO.below hb
  replace UP := UP.below hb
  replace hB := below_then hB hb
  clear hb
  go_upto_region 6 with fail
  have UI := F4.new W3 i0 i1 i2 i3 26
  have LB := below_allocs W3 (.cells #[.int .u64 i0, .int .u64 i1, .int .u64 i2, .int .u64 i3] 26)
  replace UM := UM.below LB
  replace UN := UN.below LB
  replace UX := UX.below LB
  replace UO := UO.below LB
  replace UP := UP.below LB
  replace hB := below_then hB LB
  clear LB
  generalize W3.alloc _ = V6 at UM UN UX UO UP UI hB ⊢
  generalize W3.heap.size = ci at UI ⊢
  obtain ⟨y1, y2, y3, y4⟩ := UM
  have UM := F4.mk y1 y2 y3 y4
  go_wp2_with fail
  clear y1 y2 y3 y4
  refine (CH.out _).mono ?_
  rintro e W4 ⟨rfl, hb⟩
  replace UM := UM.below hb
  replace UN := UN.below hb
  replace UX := UX.below hb
  replace UO := UO.below hb
  replace UP := UP.below hb
  replace UI := UI.below hb
  replace hB := below_then hB hb
  clear hb
  go_upto_region 7 with fail
  have LB := below_allocs W4 (.cells #[.int .u64 q0, .int .u64 q1] 31)
  replace UM := UM.below LB
  replace UN := UN.below LB
  replace UX := UX.below LB
  replace UO := UO.below LB
  replace UP := UP.below LB
  replace UI := UI.below LB
  replace hB := below_then hB LB
  clear LB
  generalize W4.alloc _ = V8 at UM UN UX UO UP UI hB ⊢
  generalize W4.heap.size = cq at ⊢
  have HS := Lib.hid (And.intro UM UI)
  have HU := Lib.hid (And.intro UN (And.intro UX (And.intro UO (And.intro UP hB))))
  clear UM UN UX UO UP UI hB
  go_cut [15] (CutM V8 b0 b1 b2 b3)
  case first =>
    clear HU A1 A2 T1 T2 P1 P2 hw hk ON OT OU
    have hX : Below V8.heap.size V8 V8 := Below.refl _ _
    obtain ⟨f1, f2, f3, f4⟩ := HS.out.1.below hX
    obtain ⟨f5, f6, f7, f8⟩ := HS.out.2.below hX
    have l1 : cm < V8.heap.size := World.block_lt_of_cell? _ _ f1
    have l2 : ci < V8.heap.size := World.block_lt_of_cell? _ _ f5
    go_region_held3 (fun w' => w'.cell? ⟨cm, 0, none⟩ = some (.int .u64 m0) ∧ w'.cell? ⟨cm, 1, none⟩ = some (.int .u64 m1) ∧ w'.cell? ⟨cm, 2, none⟩ = some (.int .u64 m2) ∧ w'.cell? ⟨cm, 3, none⟩ = some (.int .u64 m3) ∧ w'.cell? ⟨ci, 0, none⟩ = some (.int .u64 i0) ∧ w'.cell? ⟨ci, 1, none⟩ = some (.int .u64 i1) ∧ w'.cell? ⟨ci, 2, none⟩ = some (.int .u64 i2) ∧ w'.cell? ⟨ci, 3, none⟩ = some (.int .u64 i3)) (go_keep) (first
      | (go_at_call 12; (with_reducible refine (OM.out _).mono ?_); rintro e1 x1 ⟨rfl, hb⟩; (first | (have za : R4 x1 V8.heap.size 0 0 0 0 := r4_early (w := World.drew V8) hb; obtain ⟨za0, za1, za2, za3⟩ := R4.cells za; obtain ⟨za4, za5, za6, za7⟩ := R4.free za; have za8 := R4.lt za) | skip); replace hX := below_then (show Below V8.heap.size V8 _ by first | exact hX | exact hX.drew | exact hX.alloc hX.size _ | exact hX.drew.alloc hX.drew.size _) hb; clear hb; have sx1 : V8.heap.size ≤ x1.heap.size := hX.size; have da1 : cm ≠ V8.heap.size := Nat.ne_of_lt l1; have da2 : V8.heap.size ≠ cm := Nat.ne_of_gt l1; have da3 : ci ≠ V8.heap.size := Nat.ne_of_lt l2; have da4 : V8.heap.size ≠ ci := Nat.ne_of_gt l2; clear f1 f2 f3 f4 f5 f6 f7 f8 l1 l2; obtain ⟨f1, f2, f3, f4⟩ := HS.out.1.below hX; obtain ⟨f5, f6, f7, f8⟩ := HS.out.2.below hX; have l1 : cm < x1.heap.size := World.block_lt_of_cell? _ _ f1; have l2 : ci < x1.heap.size := World.block_lt_of_cell? _ _ f5)
      | (go_at_call 12; (with_reducible refine (OI.out _).mono ?_); rintro e1 x2 ⟨rfl, hb⟩; (first | (have zc : R4 x2 x1.heap.size 0 0 0 0 := r4_early (w := x1) hb; obtain ⟨zc0, zc1, zc2, zc3⟩ := R4.cells zc; obtain ⟨zc4, zc5, zc6, zc7⟩ := R4.free zc; have zc8 := R4.lt zc) | skip); (first | (replace za := R4.below za (below_then (by first | exact Below.refl _ _ | exact below_allocs _ _) hb); obtain ⟨ya0, ya1, ya2, ya3⟩ := R4.cells za; obtain ⟨ya4, ya5, ya6, ya7⟩ := R4.free za; have ya8 := R4.lt za) | skip); replace hX := below_then (show Below V8.heap.size V8 _ by first | exact hX | exact hX.drew | exact hX.alloc hX.size _ | exact hX.drew.alloc hX.drew.size _) hb; clear hb; have sx2 : V8.heap.size ≤ x2.heap.size := hX.size; have db1 : cm ≠ x1.heap.size := Nat.ne_of_lt l1; have db2 : x1.heap.size ≠ cm := Nat.ne_of_gt l1; have db3 : ci ≠ x1.heap.size := Nat.ne_of_lt l2; have db4 : x1.heap.size ≠ ci := Nat.ne_of_gt l2; clear f1 f2 f3 f4 f5 f6 f7 f8 l1 l2; obtain ⟨f1, f2, f3, f4⟩ := HS.out.1.below hX; obtain ⟨f5, f6, f7, f8⟩ := HS.out.2.below hX; have l1 : cm < x2.heap.size := World.block_lt_of_cell? _ _ f1; have l2 : ci < x2.heap.size := World.block_lt_of_cell? _ _ f5)
      | (go_at_call 11; (with_reducible refine (CT.out _).mono ?_); rintro e1 x3 ⟨rfl, hb⟩; (first | (have ze : R4 x3 x2.heap.size 0 0 0 0 := r4_early (w := x2) hb; obtain ⟨ze0, ze1, ze2, ze3⟩ := R4.cells ze; obtain ⟨ze4, ze5, ze6, ze7⟩ := R4.free ze; have ze8 := R4.lt ze) | skip); (first | (replace za := R4.below za (below_then (by first | exact Below.refl _ _ | exact below_allocs _ _) hb); obtain ⟨yc0, yc1, yc2, yc3⟩ := R4.cells za; obtain ⟨yc4, yc5, yc6, yc7⟩ := R4.free za; have yc8 := R4.lt za) | skip); (first | (replace zc := R4.below zc (below_then (by first | exact Below.refl _ _ | exact below_allocs _ _) hb); obtain ⟨ye0, ye1, ye2, ye3⟩ := R4.cells zc; obtain ⟨ye4, ye5, ye6, ye7⟩ := R4.free zc; have ye8 := R4.lt zc) | skip); replace hX := below_then (show Below V8.heap.size V8 _ by first | exact hX | exact hX.drew | exact hX.alloc hX.size _ | exact hX.drew.alloc hX.drew.size _) hb; clear hb; have dc1 : cm ≠ x2.heap.size := Nat.ne_of_lt l1; have dc2 : x2.heap.size ≠ cm := Nat.ne_of_gt l1; have dc3 : ci ≠ x2.heap.size := Nat.ne_of_lt l2; have dc4 : x2.heap.size ≠ ci := Nat.ne_of_gt l2; clear f1 f2 f3 f4 f5 f6 f7 f8 l1 l2; obtain ⟨f1, f2, f3, f4⟩ := HS.out.1.below hX; obtain ⟨f5, f6, f7, f8⟩ := HS.out.2.below hX; have l1 : cm < x3.heap.size := World.block_lt_of_cell? _ _ f1; have l2 : ci < x3.heap.size := World.block_lt_of_cell? _ _ f5; have dd1 : cm ≠ x3.heap.size := Nat.ne_of_lt l1; have dd2 : x3.heap.size ≠ cm := Nat.ne_of_gt l1; have dd3 : ci ≠ x3.heap.size := Nat.ne_of_lt l2; have dd4 : x3.heap.size ≠ ci := Nat.ne_of_gt l2))
    all_goals
      go_wp2_with fail
      go_meet
      first
        | with_reducible exact CutM.of hX
        | with_reducible exact CutM.early hX (Nat.le_refl _) za
        | with_reducible exact CutM.early hX sx1 zc
        | with_reducible exact CutM.early hX sx2 ze
  obtain ⟨cb, rfl, BB, hX⟩ := hcut
  obtain ⟨V9, h9⟩ : ∃ x : World, x = wc := ⟨_, rfl⟩
  subst h9
  have K := Lib.hid (And.intro (HS.out.1.below hX) (And.intro (HS.out.2.below hX) (And.intro BB.f4 (And.intro (HU.out.1.below hX) (And.intro (HU.out.2.1.below hX) (And.intro (HU.out.2.2.1.below hX) (And.intro (HU.out.2.2.2.1.below hX) (below_then HU.out.2.2.2.2 hX))))))))
  clear HS HU BB hX CT OI
  go_upto_region 8 with fail
  go_cut [65] (fun v wr => v = .bool false ∧ wr = V9)
  case first =>
    clear A1 A2 T1 T2 P1 P2 hk ON OT OU OM
    obtain ⟨f1, f2, f3, f4⟩ := K.out.2.1
    obtain ⟨g1, g2, g3, g4⟩ := K.out.2.2.1
    rcases hw.out with ⟨rfl, rfl, rfl, rfl, rfl⟩ | ⟨rfl, rfl, rfl, rfl, rfl⟩
    · go_wp2
      go_meet
      exact ⟨rfl, rfl⟩
    · go_wp2
      go_meet
      exact ⟨rfl, rfl⟩
  obtain ⟨rfl, hwc⟩ := hcut
  subst hwc
  go_upto_region 10 with fail
  have eqk : ∀ W : World, True := fun _ => trivial
  clear eqk hw
  rcases hk.out with rfl | rfl
  all_goals
    refine wp_region_class (fun w' => Below wc.heap.size wc w') (by kernel_rfl) (by kernel_rfl) (Below.refl _ _).drew ?_
    iterate 42
      (refine WQ.yes ?_ (by rfl) (fun w' hC => ?_) ?_
       rotate_left
       · (obtain ⟨f1, f2, f3, f4⟩ := K.out.1.below hC
          obtain ⟨g1, g2, g3, g4⟩ := K.out.2.2.2.1.below hC
          obtain ⟨y1, y2⟩ := (K.out.2.2.2.2.1.below hC).c
          obtain ⟨v1, v2⟩ := (K.out.2.2.2.2.2.1.below hC).c
          obtain ⟨r1, r2⟩ := (K.out.2.2.2.2.2.2.1.below hC).c
          go_simp
          first
            | done
            | with_reducible rfl
            | exact ⟨rfl, rfl⟩
            | (go_at_call 13; first | (with_reducible exact quietA (A1.out _) hC))
            | (go_at_call 14; first | (with_reducible exact quietA (A2.out _) hC))
            | (go_at_call 12; first | (with_reducible exact quietA4 (OM.out _) hC) | (with_reducible exact quietA4 (ON.out _) hC) | (with_reducible exact quietA4 (OT.out _) hC) | (with_reducible exact quietA4 (OU.out _) hC))
            | (go_at_call 15; first | (with_reducible exact quietA4 (T1.out _) hC))
            | (go_at_call 11; first | (with_reducible exact quietA4 (T2.out _) hC))
            | (go_at_call 16; first | (with_reducible exact quietA4 (P1.out _) hC))
            | (go_at_call 17; first | (with_reducible exact quietA4 (P2.out _) hC)))
       (try simp only [Act.put, List.setIfInBounds_toArray, List.set_cons_zero, List.set_cons_succ]))
    refine WQ.nil ?_
    intro wz hX
    go_wp2
    go_ret
    exact ⟨rfl, below_then K.out.2.2.2.2.2.2.2 hX⟩
theorem affineTells (X : AX) (aw : Hid (∀ W, Calls Try.prog 7 #[] W (Bl true W))) (m n : Mp) {x0 x1 : Int} {x : Nat} (hm : m.Ok) (hn : n.Ok) (i : Wn x0 x1 x) (w : World) :
    Calls Try.prog 3 #[m.val, n.val, .agg #[.int .u64 x0, .int .u64 x1]] w (Bl true w) := by
  obtain ⟨rfl, rfl⟩ := i.of
  have hx : ∃ o0 o1 ke : Int, TNE 8 #[.agg #[.int .u64 ((hiW x : Nat) : Int), .int .u64 ((loW x : Nat) : Int)]] o0 o1 ke ∧ TNE 9 #[.agg #[.int .u64 ((hiW x : Nat) : Int), .int .u64 ((loW x : Nat) : Int)]] o0 o1 ke ∧ (ke = 0 ∨ ke = 1) := by
    rcases Nat.mod_two_eq_zero_or_one x with ev | od
    · exact ⟨0, 0, 1, fun W => X.oddN _ _ x W i ev, yOddN x ev, .inr rfl⟩
    · exact ⟨_, _, 0, fun W => X.oddY _ _ x W i od, yOddY x i.lt od, .inl rfl⟩
  have jA := wn_of hm.a
  have hA : ∃ i0 i1 i2 i3 k q0 q1 b0 b1 b2 b3 : Int, TME 10 #[m.val] i0 i1 i2 i3 k ∧ TNE 9 #[.agg #[.int .u64 ((hiW m.A : Nat) : Int), .int .u64 ((loW m.A : Nat) : Int)]] q0 q1 k ∧
      TM 11 #[m.val, .agg #[.int .u64 i0, .int .u64 i1, .int .u64 i2, .int .u64 i3]] b0 b1 b2 b3 ∧ TWay k i0 i1 i2 i3 b0 b1 b2 b3 := by
    rcases Nat.mod_two_eq_zero_or_one m.A with ev | od
    · exact ⟨0, 0, 0, 0, 1, 0, 0, _, _, _, _, fun W => X.invN m W hm ev, yOddN m.A ev, yThenM m Mp.zero hm Mp.Ok.zero, .even rfl ⟨rfl, rfl, rfl, rfl⟩⟩
    · have T := yThenM m (invM m) hm (invM_ok od)
      rw [then_inv od] at T
      exact ⟨_, _, _, _, 0, _, _, _, _, _, _, fun W => X.invY m W hm od, yOddY m.A hm.a od, T, .odd rfl ⟨rfl, rfl, rfl, rfl⟩⟩
  obtain ⟨o0, o1, ke, h1, h2, h3⟩ := hx
  obtain ⟨i0, i1, i2, i3, k, q0, q1, b0, b1, b2, b3, g1, g2, g3, g4⟩ := hA
  exact atellsMain aw _ _ _ _ _ _ _ _ _ _ _ _ _ _ _ _ _ _ _ _ _ _ _ _ _ _ _ _ _ _ _ _ _ _ w (Lib.hid h1) (Lib.hid h2) (Lib.hid g1) (Lib.hid g2) (Lib.hid g3) (Lib.hid fun W => X.at_ m _ _ x W hm i) (Lib.hid (yAtM m hm i.lt))
    (Lib.hid fun W => X.thn m n W hm hn) (Lib.hid (yThenM m n hm hn)) (Lib.hid fun W => X.pow m _ _ x W hm i) (Lib.hid (yPowerM m hm i.lt)) (Lib.hid g4) (Lib.hid h3)
end Go.Proofs.Ytfnfjfmkhnofkaa
