/-
  The walk of HalfTells, from what half's calls answer. Made by wip/gen/hftells.py.
-/
import Derived.Test.YtdmoedjjbhkdmaaHfTc
import Derived.Test.YtdmoedjjbhkdmaaHfTb
namespace Go.Proofs.Ytdmoedjjbhkdmaa
open Go.RowKit G
set_option linter.unusedVariables false
set_option maxRecDepth 100000

/-- The ways of the statement: words that may not be asked for; words. -/
inductive TWayH (y : Hw) (many : Int) (it : Nat → Hw) (row : Nat → List Nat) : Prop where
  | arg (hm : many < 0 ∨ 256 < many) (CW : Hid (∀ W, Calls Try.prog 9 #[y.val, .int .i64 many] W (NoH 1 W)))
  | some (k : Nat) (hk : k ≤ 256) (hm : many = (k : Int)) (CW : Hid (∀ W, Calls Try.prog 9 #[y.val, .int .i64 many] W (AnsRH (row k) (it k) W)))
set_option maxHeartbeats 16000000 in
theorem phtellsMain (aw : Hid (∀ W, Calls Try.prog 8 #[] W (Bl true W))) (y z f : Hw) (many v hn ln : Int) (c : Bk) (it : Nat → Hw) (row : Nat → List Nat) (w : World)
    (CU1 : Hid (TU 14 #[y.val] v)) (YU1 : Hid (TU 11 #[y.val] v)) (CS : Hid (TH 15 #[y.val] z)) (YS : Hid (TH 12 #[y.val] z))
    (CJ : Hid (TH 16 #[y.val, .agg #[.int .u64 hn, .int .u64 ln]] f)) (YF : Hid (TH 17 #[y.val, .agg #[.int .u64 hn, .int .u64 ln]] f)) (CB : Hid (TB 18 #[.agg #[.int .u64 y.h, .int .u64 y.l]] c)) (YB : Hid (TB 19 #[.agg #[.int .u64 y.h, .int .u64 y.l]] c))
    (OW : Hid (∀ z : Hw, TH 10 #[z.val] z)) (it0 : Hid (it 0 = y)) (row0 : Hid (row 0 = [])) (rlen : Hid (∀ j, (row j).length = j))
    (NX : Hid (∀ j : Nat, ∃ X : Nat, X < 18446744073709551616 ∧ TU 11 #[(it j).val] (X : Int) ∧ TH 12 #[(it j).val] (it (j + 1)) ∧ row (j + 1) = row j ++ [X])) (way : Hid (TWayH y many it row)) :
    Calls Try.prog 3 #[y.val, .int .i64 many, .agg #[.int .u64 hn, .int .u64 ln]] w (Bl true w) := by
  have hB : Below w.heap.size w w := Below.refl _ _
  go_enter Try.func3, Try.ntmps3
  go_wp2_with fail
  have Uy := K5.new 29 w y
  have LB := below_allocs w (.cells #[.int .u64 y.h, .int .u64 y.l, .int .u32 y.k, .int .u32 y.m, .bool y.s] 29)
  replace hB := below_then hB LB
  clear LB
  have z1 : (w.alloc (.cells #[.int .u64 y.h, .int .u64 y.l, .int .u32 y.k, .int .u32 y.m, .bool y.s] 29)).heap.size = w.heap.size + 1 := Array.size_push _
  generalize w.alloc _ = V1 at Uy hB z1 ⊢
  have Un := CU.new V1 hn ln 24
  have LB := below_allocs V1 (.cells #[.int .u64 hn, .int .u64 ln] 24)
  replace Uy := Uy.below LB
  replace hB := below_then hB LB
  clear LB
  have z2 : (V1.alloc (.cells #[.int .u64 hn, .int .u64 ln] 24)).heap.size = w.heap.size + 2 := (Array.size_push _).trans (by rw [z1])
  rw [z1] at Un
  generalize V1.alloc _ = V2 at Uy Un hB z2 ⊢
  clear z1 z2
  generalize w.heap.size + 1 = cn at Un ⊢
  obtain ⟨cy, hcy⟩ : ∃ c, c = w.heap.size := ⟨_, rfl⟩
  rw [← hcy] at Uy ⊢
  clear hcy
  refine (aw.out _).mono ?_
  rintro e W0 ⟨rfl, hb⟩
  replace Uy := Uy.below hb
  replace Un := Un.below hb
  replace hB := below_then hB hb
  clear hb
  clear aw
  rcases way.out with ⟨hm, CW⟩ | ⟨k, hk, rfl, CW⟩
  · clear way NX rlen row0 it0
    obtain ⟨x0, x1, x2, x3, x4⟩ := Uy.cells
    go_wp2_with fail
    clear x0 x1 x2 x3 x4
    refine (CW.out _).mono ?_
    rintro e e1 ⟨rfl, hb⟩
    replace Uy := Uy.below hb
    replace Un := Un.below hb
    replace hB := below_then hB hb
    clear hb
    go_upto_region 4 with fail
    have UY := K5.new 29 e1 (⟨0, 0, 0, 0, false⟩ : Hw)
    have LB := below_allocs e1 (.cells #[.int .u64 0, .int .u64 0, .int .u32 0, .int .u32 0, .bool false] 29)
    replace Uy := Uy.below LB
    replace Un := Un.below LB
    replace hB := below_then hB LB
    clear LB
    generalize e1.alloc _ = V5 at Uy Un UY hB  ⊢
    generalize e1.heap.size = cy2 at UY ⊢
    obtain ⟨y0, y1, y2, y3, y4⟩ := UY.cells
    have q1 := qK
    rcases hm with hm | hm
    · go_wp2_with fail
      clear y0 y1 y2 y3 y4 q1
      have H15 := Lib.hid (And.intro Uy Un)
      obtain ⟨V15, h15⟩ : ∃ x : World, x = V5 := ⟨_, rfl⟩
      subst h15
      have HB15 := Lib.hid hB
      clear Uy Un hB
      refine wp_region_class (fun w' => Below V15.heap.size V15 w') (by kernel_rfl) (by kernel_rfl) (Below.refl _ _).drew ?_
      iterate 36
        (refine WQ.yes ?_ (by rfl) (fun w' hC => ?_) ?_
         rotate_left
         · (obtain ⟨x0, x1, x2, x3, x4⟩ := (H15.out.1.below hC).cells
            obtain ⟨u0, u1⟩ := (H15.out.2.below hC).c
            have q1 := qK; have q2 := qP; have q4 := eqA
            go_simp
            first
              | done
              | with_reducible rfl
              | exact ⟨rfl, rfl⟩
              | (go_at_call 14; first | (with_reducible exact quietU (CU1.out _) hC))
              | (go_at_call 11; first | (with_reducible exact quietU (YU1.out _) hC))
              | (go_at_call 10; (with_reducible exact quietH (OW.out _ _) hC))
              | (go_at_call 15; first | (with_reducible exact quietH (CS.out _) hC))
              | (go_at_call 12; first | (with_reducible exact quietH (YS.out _) hC))
              | (go_at_call 16; first | (with_reducible exact quietH (CJ.out _) hC))
              | (go_at_call 17; first | (with_reducible exact quietH (YF.out _) hC))
              | (go_at_call 18; first | (with_reducible exact quiet4 (CB.out _) hC))
              | (go_at_call 19; first | (with_reducible exact quiet4 (YB.out _) hC)))
         (try simp only [Act.put, List.setIfInBounds_toArray, List.set_cons_zero, List.set_cons_succ]))
      refine WQ.nil ?_
      intro wz hX
      go_wp2
      go_ret
      exact ⟨rfl, below_then HB15.out hX⟩
    · have hm1 : ¬ many < 0 := by omega
      have hm2 : many > 256 := by omega
      go_wp2_with fail
      clear y0 y1 y2 y3 y4 q1
      have H15 := Lib.hid (And.intro Uy Un)
      obtain ⟨V15, h15⟩ : ∃ x : World, x = V5 := ⟨_, rfl⟩
      subst h15
      have HB15 := Lib.hid hB
      clear Uy Un hB
      refine wp_region_class (fun w' => Below V15.heap.size V15 w') (by kernel_rfl) (by kernel_rfl) (Below.refl _ _).drew ?_
      iterate 36
        (refine WQ.yes ?_ (by rfl) (fun w' hC => ?_) ?_
         rotate_left
         · (obtain ⟨x0, x1, x2, x3, x4⟩ := (H15.out.1.below hC).cells
            obtain ⟨u0, u1⟩ := (H15.out.2.below hC).c
            have q1 := qK; have q2 := qP; have q4 := eqA
            go_simp
            first
              | done
              | with_reducible rfl
              | exact ⟨rfl, rfl⟩
              | (go_at_call 14; first | (with_reducible exact quietU (CU1.out _) hC))
              | (go_at_call 11; first | (with_reducible exact quietU (YU1.out _) hC))
              | (go_at_call 10; (with_reducible exact quietH (OW.out _ _) hC))
              | (go_at_call 15; first | (with_reducible exact quietH (CS.out _) hC))
              | (go_at_call 12; first | (with_reducible exact quietH (YS.out _) hC))
              | (go_at_call 16; first | (with_reducible exact quietH (CJ.out _) hC))
              | (go_at_call 17; first | (with_reducible exact quietH (YF.out _) hC))
              | (go_at_call 18; first | (with_reducible exact quiet4 (CB.out _) hC))
              | (go_at_call 19; first | (with_reducible exact quiet4 (YB.out _) hC)))
         (try simp only [Act.put, List.setIfInBounds_toArray, List.set_cons_zero, List.set_cons_succ]))
      refine WQ.nil ?_
      intro wz hX
      go_wp2
      go_ret
      exact ⟨rfl, below_then HB15.out hX⟩
  · clear way
    have it0' := it0.out
    obtain ⟨x0, x1, x2, x3, x4⟩ := Uy.cells
    go_wp2_with fail
    clear x0 x1 x2 x3 x4
    refine (CW.out _).mono ?_
    rintro e e1 ⟨A, cap, rfl, P, hb⟩
    replace Uy := Uy.below hb
    replace Un := Un.below hb
    replace hB := below_then hB hb
    clear hb
    go_upto_region 4 with fail
    have UY := K5.new 29 e1 (it k)
    have LB := below_allocs e1 (.cells #[.int .u64 (it k).h, .int .u64 (it k).l, .int .u32 (it k).k, .int .u32 (it k).m, .bool (it k).s] 29)
    replace Uy := Uy.below LB
    replace Un := Un.below LB
    replace P := P.below LB
    replace hB := below_then hB LB
    clear LB
    generalize e1.alloc _ = V5 at Uy Un UY hB P ⊢
    generalize e1.heap.size = cy2 at UY ⊢
    have h0 : ¬ ((k : Int) < 0) := by omega
    have h1 : ¬ ((k : Int) > 256) := by omega
    have HG := Lib.hid (GrowW.start V5)
    have LB := below_allocs V5 (.cells #[] 22)
    have HP := Lib.hid (And.intro P (And.intro UY (And.intro Uy (And.intro Un hB))))
    obtain ⟨x0, x1, x2, x3, x4⟩ := (Uy.below LB).cells
    clear Uy Un UY P hB
    go_wp2_with fail
    clear x0 x1 x2 x3 x4 h0 h1
    refine (OW.out _ _).mono ?_
    rintro e e3 ⟨rfl, hb⟩
    have HG2 := Lib.hid (And.intro (HG.out.far hb) (Nat.le_trans LB.size hb.size))
    clear HG LB hb
    go_upto_region 8 with fail
    have L0 := Lib.hid (LH.of (HG2.out.1.far (below_allocs e3 (.cells #[.int .u64 y.h, .int .u64 y.l, .int .u32 y.k, .int .u32 y.m, .bool y.s] 37))) (K5.new 37 e3 y) HG2.out.2)
    generalize e3.alloc _ = V4 at L0 ⊢
    generalize e3.heap.size = cb at L0 ⊢
    clear HG2
    obtain ⟨i_0, hi, hz0, hz1, hz2⟩ := info_parts infoW
    have HI := Lib.hid hi
    have HZ0 := Lib.hid hz0
    have HZ1 := Lib.hid hz1
    have HZ2 := Lib.hid hz2
    clear hi hz0 hz1 hz2
    go_wp2_with fail
    go_loopg [10, 43] k (fun g v z wr => ∃ j : Nat, j + g = k ∧ z = .int .i64 (j : Int) ∧ Hid (LH V5 v cb (row j) (it j) wr))
    case atStart => exact ⟨0, by omega, rfl, by rw [row0.out, it0']; exact L0⟩
    case round =>
      obtain ⟨j, hg, rfl, L⟩ := hrel
      clear L0
      by_cases hlt : j < k
      · have pl : (j : Int) < (k : Int) := by omega
        obtain ⟨X, hX, HW, CS', er⟩ := NX.out j
        have HW := Lib.hid HW
        have CS' := Lib.hid CS'
        have ER := Lib.hid er
        have LU := Lib.hid (rlen.out j)
        have kb : j ≤ 900000 := by omega
        clear er
        generalize row j = us at L LU ER
        obtain ⟨pn, hpn⟩ : ∃ p, it (j + 1) = p := ⟨_, rfl⟩
        rw [hpn] at CS'
        have HPN := Lib.hid hpn
        clear hpn
        generalize it j = p at L HW CS'
        have BX := L.out.bx
        obtain ⟨x0, x1, x2, x3, x4⟩ := BX.cells
        clear BX
        go_wp2_with fail
        clear x0 x1 x2 x3 x4
        refine (HW.out _).mono ?_
        rintro e g1 ⟨rfl, hb⟩
        have L1 := Lib.hid (L.out.far hb)
        clear hb L
        have SZ1 := L1.out.below.size
        go_wp2_with (first
          | (at_builtin; refine wpList_append_own _ rfl _ _ 31 rfl V5.heap.size 22 i_0 (.int .u64 0) 1 8 Try.underlying31 HI.out HZ0.out HZ1.out HZ2.out rfl (by decide) _ _ _ rfl (owns_below L1.out.ow (below_alloc (Below.refl _ _) _)) ⟨g1.heap.size, 0, none⟩ 1 1 [.int .u64 (X : Int)] rfl rfl (new1 g1 _ _) (by simp [Value.oneCell']) (by rw [LU.out]; unfold maxLen; omega) (by rw [LU.out]; omega) (by simp; omega) ?_; intro v5 g2 hown hgrow _; have L2 := Lib.hid ((L1.out.far (w' := g1.alloc _) (below_alloc (Below.refl _ _) (.cells #[.int .u64 (X : Int)] 22))).word X hX hown hgrow); clear hown hgrow L1 SZ1; obtain ⟨x0, x1, x2, x3, x4⟩ := L2.out.bx.cells)
          | fail)
        refine (CS'.out _).mono ?_
        rintro e g4 ⟨rfl, hb⟩
        have L4 := Lib.hid (L2.out.far hb)
        clear hb L2
        clear x0 x1 x2 x3 x4
        have BX := L4.out.bx
        obtain ⟨x0, x1, x2, x3, x4⟩ := BX.cells
        obtain ⟨f0, f1, f2, f3, f4⟩ := BX.free
        clear BX
        go_wp2_with fail
        go_roundg (gk - 1)
        case measure => omega
        case rel => exact ⟨j + 1, by omega, by go_num, by rw [ER.out, HPN.out]; exact Lib.hid (L4.out.put pn)⟩
      · obtain rfl : j = k := by omega
        have pl : ¬ ((j : Int) < (j : Int)) := by omega
        have LU := Lib.hid (rlen.out j)
        generalize row j = us at L LU HP
        generalize it j = p at L HP
        obtain ⟨A2, c2, rfl, P2⟩ := Pol.of_owns L.out.wd L.out.ow
        have HE := Lib.hid (And.intro (HP.out.1.below L.out.below) (And.intro (HP.out.2.1.below L.out.below) (And.intro L.out.bx P2)))
        have Uy := HP.out.2.2.1.below L.out.below
        have Un := HP.out.2.2.2.1.below L.out.below
        have hB := below_then HP.out.2.2.2.2 L.out.below
        clear L HP P2
        have hle : us.length ≤ 50000 := by rw [LU.out]; omega
        obtain ⟨V7, h7⟩ : ∃ x : World, x = wr := ⟨_, rfl⟩
        subst h7
        rw [← LU.out] at *
        have HUn := Lib.hid (And.intro Uy (And.intro Un hB))
        clear Uy Un hB
        go_wp2_with fail
        refine wp_region_class (fun w' => Below V7.heap.size V7 w') (by kernel_rfl) (by kernel_rfl) (Below.refl _ _).drew ?_
        iterate 14
          (refine WQ.yes ?_ (by rfl) (fun w' hC => ?_) ?_
           rotate_left
           · (obtain ⟨x0, x1, x2, x3, x4⟩ := (HE.out.2.1.below hC).cells
              obtain ⟨u0, u1, u2, u3, u4⟩ := (HE.out.2.2.1.below hC).cells
              have q1 := qK; have q2 := qP
              go_simp
              first
                | done
                | with_reducible rfl
                | exact ⟨rfl, rfl⟩
                | (go_at_call 10; (with_reducible exact quietH (OW.out _ _) hC))
                | (go_at_call 13; (exact quietB (gWords true (HE.out.1.below hC) (HE.out.2.2.2.below hC) rfl rfl (sameL_selfH _) hle) hC)))
           (try simp only [Act.put, List.setIfInBounds_toArray, List.set_cons_zero, List.set_cons_succ]))
        refine WQ.nil ?_
        intro wz hX
        have Uy := HUn.out.1.below hX
        have Un := HUn.out.2.1.below hX
        have hB := below_then HUn.out.2.2 hX
        clear HUn HE hX
        go_wp2_with fail
        have H15 := Lib.hid (And.intro Uy Un)
        obtain ⟨V15, h15⟩ : ∃ x : World, x = wz := ⟨_, rfl⟩
        subst h15
        have HB15 := Lib.hid hB
        clear Uy Un hB
        refine wp_region_class (fun w' => Below V15.heap.size V15 w') (by kernel_rfl) (by kernel_rfl) (Below.refl _ _).drew ?_
        iterate 36
          (refine WQ.yes ?_ (by rfl) (fun w' hC => ?_) ?_
           rotate_left
           · (obtain ⟨x0, x1, x2, x3, x4⟩ := (H15.out.1.below hC).cells
              obtain ⟨u0, u1⟩ := (H15.out.2.below hC).c
              have q1 := qK; have q2 := qP; have q4 := eqA
              go_simp
              first
                | done
                | with_reducible rfl
                | exact ⟨rfl, rfl⟩
                | (go_at_call 14; first | (with_reducible exact quietU (CU1.out _) hC))
                | (go_at_call 11; first | (with_reducible exact quietU (YU1.out _) hC))
                | (go_at_call 10; (with_reducible exact quietH (OW.out _ _) hC))
                | (go_at_call 15; first | (with_reducible exact quietH (CS.out _) hC))
                | (go_at_call 12; first | (with_reducible exact quietH (YS.out _) hC))
                | (go_at_call 16; first | (with_reducible exact quietH (CJ.out _) hC))
                | (go_at_call 17; first | (with_reducible exact quietH (YF.out _) hC))
                | (go_at_call 18; first | (with_reducible exact quiet4 (CB.out _) hC))
                | (go_at_call 19; first | (with_reducible exact quiet4 (YB.out _) hC)))
           (try simp only [Act.put, List.setIfInBounds_toArray, List.set_cons_zero, List.set_cons_succ]))
        refine WQ.nil ?_
        intro wz hX
        go_wp2
        go_ret
        exact ⟨rfl, below_then HB15.out hX⟩
end Go.Proofs.Ytdmoedjjbhkdmaa
