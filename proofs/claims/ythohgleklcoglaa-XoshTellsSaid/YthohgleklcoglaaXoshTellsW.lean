/-
  The statement's own walk: a state's word, the next one, so many words and bits, or why there are none. Made by wip/gen/xoshtells.py.
-/
import Derived.Test.YthohgleklcoglaaXshT
namespace Go.Proofs.Ythohgleklcoglaa
open Go.RowKit G
set_option linter.unusedVariables false

/-- What stands behind the great test. -/
def CutQ (W0 : World) (v : Value) (wr : World) : Prop := v = .bool false ∧ Below W0.heap.size W0 wr
theorem lst_start (w : World) (s : St) : LSt w (.slice (some ⟨w.heap.size, 0, none⟩) 0 0) (.slice (some ⟨w.heap.size + 1, 0, none⟩) 0 0) (w.heap.size + 1 + 1) [] [] s (((w.alloc (.cells #[] 22)).alloc (.cells #[] 4)).alloc (.cells #[.int .u64 (s.a : Int), .int .u64 (s.b : Int), .int .u64 (s.c : Int), .int .u64 (s.d : Int)] 23)) := by
  have s1 : (w.alloc (.cells #[] 22)).heap.size = w.heap.size + 1 := Array.size_push _
  have s2 : ((w.alloc (.cells #[] 22)).alloc (.cells #[] 4)).heap.size = w.heap.size + 1 + 1 := (Array.size_push _).trans (by rw [s1])
  have l1 := below_alloc (Below.refl w.heap.size w) (.cells #[] 22)
  have h5 : (w.alloc (.cells #[] 22)).ownsRow w.heap.size 22 1 (.slice (some ⟨w.heap.size, 0, none⟩) 0 0) 0 [] := World.ownsRow_made w #[] 0 (Nat.le_refl _) (by decide) rfl
  have h6 : ((w.alloc (.cells #[] 22)).alloc (.cells #[] 4)).ownsRow w.heap.size 4 1 (.slice (some ⟨(w.alloc (.cells #[] 22)).heap.size, 0, none⟩) 0 0) 0 [] := World.ownsRow_made (w.alloc (.cells #[] 22)) #[] 0 (by rw [s1]; omega) (by decide) rfl
  rw [s1] at h6
  have hx := Bx.new ((w.alloc (.cells #[] 22)).alloc (.cells #[] 4)) s 23
  rw [s2] at hx
  exact ⟨owns_below (owns_below h5 (below_alloc (Below.refl _ _) _)) (below_alloc (Below.refl _ _) _), owns_below h6 (below_alloc (Below.refl _ _) _), hx, (fun y hy => by cases hy), below_alloc (below_alloc l1 _) _, by omega⟩
set_option maxRecDepth 100000 in
set_option maxHeartbeats 8000000 in
theorem tellsW (a b c d : Nat) (many : Int) (hs : (⟨a, b, c, d⟩ : St).Ok) (w : World) :
    Calls Try.prog 3 #[.agg #[.int .u64 (a : Int), .int .u64 (b : Int), .int .u64 (c : Int), .int .u64 (d : Int)], .int .i64 many] w (Bl true w) := by
  have hB : Below w.heap.size w w := Below.refl _ _
  have J1 := Lib.hid (cWord ⟨a, b, c, d⟩ hs)
  have J2 := Lib.hid (rWord ⟨a, b, c, d⟩ hs)
  have J3 := Lib.hid (cStep ⟨a, b, c, d⟩ hs)
  have J4 := Lib.hid (rStep ⟨a, b, c, d⟩ hs)
  generalize wordS ⟨a, b, c, d⟩ = X at J1 J2
  generalize stepS ⟨a, b, c, d⟩ = S' at J3 J4
  obtain ⟨a1, b1, c1, d1⟩ := S'
  go_enter Try.func3, Try.ntmps3
  go_wp2_with fail
  have U1 := C4.new w a b c d 24
  replace hB := below_alloc hB (.cells #[.int .u64 (a : Int), .int .u64 (b : Int), .int .u64 (c : Int), .int .u64 (d : Int)] 24)
  generalize World.alloc _ _ = V at U1 hB ⊢
  refine (awake7 _).mono ?_
  rintro e W0 ⟨rfl, hb⟩
  replace U1 := U1.below hb
  replace hB := below_then hB hb
  clear hb
  go_wp2_with fail
  go_cut [50] (CutQ W0)
  case first =>
    have q : ∀ W, Sem.run Try.prog (Op.equalIn 10000 23 (.agg #[.int .u64 (a1 : Int), .int .u64 (b1 : Int), .int .u64 (c1 : Int), .int .u64 (d1 : Int)]) (.agg #[.int .u64 (a1 : Int), .int .u64 (b1 : Int), .int .u64 (c1 : Int), .int .u64 (d1 : Int)])) W = .ok true W := fun W => by
      have := sameR ⟨a1, b1, c1, d1⟩ ⟨a1, b1, c1, d1⟩ W
      rwa [decide_eq_true rfl] at this
    have HQ := Lib.hid q
    clear q hB
    have HR := Lib.hid (cRight ⟨a, b, c, d⟩)
    by_cases ha : 0 < a
    · skip
      have J5 : Hid (∀ W, Calls Try.prog 12 #[.agg #[.int .u64 (a : Int), .int .u64 (b : Int), .int .u64 (c : Int), .int .u64 (d : Int)]] W (fun e w' => e = .returned (.bool true) ∧ Below W.heap.size W w')) := Lib.hid (fun W => by
        have := HR.out W
        rwa [decide_eq_false (fun e => by have := congrArg St.a e; simp only [St.zero] at this; omega)] at this)
      have pa : (0 : Int) < (a : Int) := by omega
      clear HR hs
      refine wp_region_class (fun w' => Below W0.heap.size W0 w') (by kernel_rfl) (by kernel_rfl) (Below.refl _ _).drew ?_
      iterate 35
        (first
         | (refine WQ.yes ?_ (by rfl) (fun w' hC => ?_) ?_
            rotate_left
            · (obtain ⟨x1, x2, x3, x4⟩ := U1.below hC
               have q := HQ.out w'
               go_simp
               first | done | with_reducible rfl | exact ⟨rfl, rfl⟩ | (go_at_call 8; (with_reducible exact quietU (J1.out _) hC)) | (go_at_call 9; (with_reducible exact quietU (J2.out _) hC)) | (go_at_call 10; (with_reducible exact quietA4 (J3.out _) hC)) | (go_at_call 11; (with_reducible exact quietA4 (J4.out _) hC)) | (go_at_call 12; (with_reducible exact quietB (J5.out _) hC)))
            (try simp only [Act.put, List.setIfInBounds_toArray, List.set_cons_zero, List.set_cons_succ]))
         | (refine WQ.no (by rfl) ?_
            (try simp only [Act.put, List.setIfInBounds_toArray, List.set_cons_zero, List.set_cons_succ])))
      refine WQ.nil ?_
      intro wz hX
      go_wp2_with fail
      go_meet
      exact ⟨rfl, hX⟩
    · skip
      by_cases hb : 0 < b
      · skip
        have J5 : Hid (∀ W, Calls Try.prog 12 #[.agg #[.int .u64 (a : Int), .int .u64 (b : Int), .int .u64 (c : Int), .int .u64 (d : Int)]] W (fun e w' => e = .returned (.bool true) ∧ Below W.heap.size W w')) := Lib.hid (fun W => by
          have := HR.out W
          rwa [decide_eq_false (fun e => by have := congrArg St.b e; simp only [St.zero] at this; omega)] at this)
        have na : ¬ (0 : Int) < (a : Int) := by omega
        have pb : (0 : Int) < (b : Int) := by omega
        clear HR hs
        refine wp_region_class (fun w' => Below W0.heap.size W0 w') (by kernel_rfl) (by kernel_rfl) (Below.refl _ _).drew ?_
        iterate 35
          (first
           | (refine WQ.yes ?_ (by rfl) (fun w' hC => ?_) ?_
              rotate_left
              · (obtain ⟨x1, x2, x3, x4⟩ := U1.below hC
                 have q := HQ.out w'
                 go_simp
                 first | done | with_reducible rfl | exact ⟨rfl, rfl⟩ | (go_at_call 8; (with_reducible exact quietU (J1.out _) hC)) | (go_at_call 9; (with_reducible exact quietU (J2.out _) hC)) | (go_at_call 10; (with_reducible exact quietA4 (J3.out _) hC)) | (go_at_call 11; (with_reducible exact quietA4 (J4.out _) hC)) | (go_at_call 12; (with_reducible exact quietB (J5.out _) hC)))
              (try simp only [Act.put, List.setIfInBounds_toArray, List.set_cons_zero, List.set_cons_succ]))
           | (refine WQ.no (by rfl) ?_
              (try simp only [Act.put, List.setIfInBounds_toArray, List.set_cons_zero, List.set_cons_succ])))
        refine WQ.nil ?_
        intro wz hX
        go_wp2_with fail
        go_meet
        exact ⟨rfl, hX⟩
      · skip
        by_cases hc : 0 < c
        · skip
          have J5 : Hid (∀ W, Calls Try.prog 12 #[.agg #[.int .u64 (a : Int), .int .u64 (b : Int), .int .u64 (c : Int), .int .u64 (d : Int)]] W (fun e w' => e = .returned (.bool true) ∧ Below W.heap.size W w')) := Lib.hid (fun W => by
            have := HR.out W
            rwa [decide_eq_false (fun e => by have := congrArg St.c e; simp only [St.zero] at this; omega)] at this)
          have na : ¬ (0 : Int) < (a : Int) := by omega
          have nb : ¬ (0 : Int) < (b : Int) := by omega
          have pc : (0 : Int) < (c : Int) := by omega
          clear HR hs
          refine wp_region_class (fun w' => Below W0.heap.size W0 w') (by kernel_rfl) (by kernel_rfl) (Below.refl _ _).drew ?_
          iterate 35
            (first
             | (refine WQ.yes ?_ (by rfl) (fun w' hC => ?_) ?_
                rotate_left
                · (obtain ⟨x1, x2, x3, x4⟩ := U1.below hC
                   have q := HQ.out w'
                   go_simp
                   first | done | with_reducible rfl | exact ⟨rfl, rfl⟩ | (go_at_call 8; (with_reducible exact quietU (J1.out _) hC)) | (go_at_call 9; (with_reducible exact quietU (J2.out _) hC)) | (go_at_call 10; (with_reducible exact quietA4 (J3.out _) hC)) | (go_at_call 11; (with_reducible exact quietA4 (J4.out _) hC)) | (go_at_call 12; (with_reducible exact quietB (J5.out _) hC)))
                (try simp only [Act.put, List.setIfInBounds_toArray, List.set_cons_zero, List.set_cons_succ]))
             | (refine WQ.no (by rfl) ?_
                (try simp only [Act.put, List.setIfInBounds_toArray, List.set_cons_zero, List.set_cons_succ])))
          refine WQ.nil ?_
          intro wz hX
          go_wp2_with fail
          go_meet
          exact ⟨rfl, hX⟩
        · skip
          by_cases hd : 0 < d
          · skip
            have J5 : Hid (∀ W, Calls Try.prog 12 #[.agg #[.int .u64 (a : Int), .int .u64 (b : Int), .int .u64 (c : Int), .int .u64 (d : Int)]] W (fun e w' => e = .returned (.bool true) ∧ Below W.heap.size W w')) := Lib.hid (fun W => by
              have := HR.out W
              rwa [decide_eq_false (fun e => by have := congrArg St.d e; simp only [St.zero] at this; omega)] at this)
            have na : ¬ (0 : Int) < (a : Int) := by omega
            have nb : ¬ (0 : Int) < (b : Int) := by omega
            have nc : ¬ (0 : Int) < (c : Int) := by omega
            have pd : (0 : Int) < (d : Int) := by omega
            clear HR hs
            refine wp_region_class (fun w' => Below W0.heap.size W0 w') (by kernel_rfl) (by kernel_rfl) (Below.refl _ _).drew ?_
            iterate 35
              (first
               | (refine WQ.yes ?_ (by rfl) (fun w' hC => ?_) ?_
                  rotate_left
                  · (obtain ⟨x1, x2, x3, x4⟩ := U1.below hC
                     have q := HQ.out w'
                     go_simp
                     first | done | with_reducible rfl | exact ⟨rfl, rfl⟩ | (go_at_call 8; (with_reducible exact quietU (J1.out _) hC)) | (go_at_call 9; (with_reducible exact quietU (J2.out _) hC)) | (go_at_call 10; (with_reducible exact quietA4 (J3.out _) hC)) | (go_at_call 11; (with_reducible exact quietA4 (J4.out _) hC)) | (go_at_call 12; (with_reducible exact quietB (J5.out _) hC)))
                  (try simp only [Act.put, List.setIfInBounds_toArray, List.set_cons_zero, List.set_cons_succ]))
               | (refine WQ.no (by rfl) ?_
                  (try simp only [Act.put, List.setIfInBounds_toArray, List.set_cons_zero, List.set_cons_succ])))
            refine WQ.nil ?_
            intro wz hX
            go_wp2_with fail
            go_meet
            exact ⟨rfl, hX⟩
          · skip
            have J5 : Hid (∀ W, Calls Try.prog 12 #[.agg #[.int .u64 (a : Int), .int .u64 (b : Int), .int .u64 (c : Int), .int .u64 (d : Int)]] W (fun e w' => e = .returned (.bool false) ∧ Below W.heap.size W w')) := Lib.hid (fun W => by
              have := HR.out W
              rwa [decide_eq_true (St.same (by simp only [St.zero]; omega) (by simp only [St.zero]; omega) (by simp only [St.zero]; omega) (by simp only [St.zero]; omega))] at this)
            have na : ¬ (0 : Int) < (a : Int) := by omega
            have nb : ¬ (0 : Int) < (b : Int) := by omega
            have nc : ¬ (0 : Int) < (c : Int) := by omega
            have nd : ¬ (0 : Int) < (d : Int) := by omega
            clear HR hs
            refine wp_region_class (fun w' => Below W0.heap.size W0 w') (by kernel_rfl) (by kernel_rfl) (Below.refl _ _).drew ?_
            iterate 35
              (first
               | (refine WQ.yes ?_ (by rfl) (fun w' hC => ?_) ?_
                  rotate_left
                  · (obtain ⟨x1, x2, x3, x4⟩ := U1.below hC
                     have q := HQ.out w'
                     go_simp
                     first | done | with_reducible rfl | exact ⟨rfl, rfl⟩ | (go_at_call 8; (with_reducible exact quietU (J1.out _) hC)) | (go_at_call 9; (with_reducible exact quietU (J2.out _) hC)) | (go_at_call 10; (with_reducible exact quietA4 (J3.out _) hC)) | (go_at_call 11; (with_reducible exact quietA4 (J4.out _) hC)) | (go_at_call 12; (with_reducible exact quietB (J5.out _) hC)))
                  (try simp only [Act.put, List.setIfInBounds_toArray, List.set_cons_zero, List.set_cons_succ]))
               | (refine WQ.no (by rfl) ?_
                  (try simp only [Act.put, List.setIfInBounds_toArray, List.set_cons_zero, List.set_cons_succ])))
            refine WQ.nil ?_
            intro wz hX
            go_wp2_with fail
            go_meet
            exact ⟨rfl, hX⟩
  obtain ⟨rfl, hb⟩ := hcut
  replace U1 := U1.below hb
  replace hB := below_then hB hb
  clear hb J1 J2 J3 J4
  have UC := Lib.hid U1
  have HBC := Lib.hid hB
  clear hB
  go_upto_region 6 with fail
  have L0 := Lib.hid (lst_start wc ⟨a, b, c, d⟩)
  have LB : Below wc.heap.size wc ((wc.alloc (.cells #[] 22)).alloc (.cells #[] 4)) := below_alloc (below_alloc (Below.refl _ _) _) _
  replace U1 := U1.below LB
  obtain ⟨x1, x2, x3, x4⟩ := id U1
  clear LB
  have hV : ((wc.alloc (.cells #[] 22)).alloc (.cells #[] 4)).heap.size = wc.heap.size + 1 + 1 := (Array.size_push _).trans (by rw [show (wc.alloc (.cells #[] 22)).heap.size = wc.heap.size + 1 from Array.size_push _])
  generalize World.alloc (World.alloc wc _) _ = V1 at L0 U1 x1 x2 x3 x4 hV ⊢
  rw [← hV] at L0
  clear hV
  go_wp2_with fail
  clear x1 x2 x3 x4
  clear U1
  try simp only at L0
  generalize World.alloc V1 _ = V2 at L0 ⊢
  generalize V1.heap.size = b7 at L0 ⊢
  by_cases hk : 0 ≤ many ∧ many ≤ 2048
  · skip
    obtain ⟨k, rfl⟩ := Int.eq_ofNat_of_zero_le hk.1
    have hk2 : k ≤ 2048 := by omega
    have OK := Lib.hid hs.iter
    obtain ⟨i0, hi, hz0, hz1, hz2⟩ := info_parts infoW
    have HI := Lib.hid hi
    have HZ0 := Lib.hid hz0
    have HZ1 := Lib.hid hz1
    have HZ2 := Lib.hid hz2
    clear hi hz0 hz1 hz2
    obtain ⟨b0, bi, bz0, bz1, bz2⟩ := info_parts infoB
    have BI := Lib.hid bi
    have BZ0 := Lib.hid bz0
    have BZ1 := Lib.hid bz1
    have BZ2 := Lib.hid bz2
    clear bi bz0 bz1 bz2 hk
    go_loopg [5, 6, 8] k (fun g z5 z6 z8 wr => ∃ j : Nat, j + g = k ∧ z8 = .int .i64 j ∧ Hid (LSt wc z5 z6 b7 (rowS ⟨a, b, c, d⟩ (min j 256)) (bitsS ⟨a, b, c, d⟩ j) (iterS ⟨a, b, c, d⟩ j) wr))
    case atStart => exact ⟨0, by omega, rfl, L0⟩
    case round =>
      obtain ⟨j, hg, rfl, L⟩ := hrel
      clear L0
      by_cases hlt : j < k
      · have kl : (j : Int) < (k : Int) := by omega
        have kk : (k : Int) ≤ 2048 := by omega
        by_cases hlow : j < 256
        · have jl : (j : Int) < 256 := by omega
          rcases Nat.mod_two_eq_zero_or_one (iterS ⟨a, b, c, d⟩ j).a with hm | hm
          · skip
            have EU := Lib.hid (show rowS ⟨a, b, c, d⟩ (min (j + 1) 256) = rowS ⟨a, b, c, d⟩ (min j 256) ++ [wordS (iterS ⟨a, b, c, d⟩ j)] from by rw [Nat.min_eq_left (by omega), Nat.min_eq_left (by omega)]; rfl)
            have EL := Lib.hid (show bitsS ⟨a, b, c, d⟩ (j + 1) = bitsS ⟨a, b, c, d⟩ j ++ [false] from by rw [bitsS]; unfold bitS; rw [hm]; rfl)
            have ES := Lib.hid (show iterS ⟨a, b, c, d⟩ (j + 1) = stepS (iterS ⟨a, b, c, d⟩ j) from rfl)
            have HW := Lib.hid (rWord (iterS ⟨a, b, c, d⟩ j) (OK.out j))
            have HS := Lib.hid (rStep (iterS ⟨a, b, c, d⟩ j) (OK.out j))
            have hX := wordS_lt (iterS ⟨a, b, c, d⟩ j)
            have LU := Lib.hid (rowS_len ⟨a, b, c, d⟩ (min j 256))
            have LL := Lib.hid (bitsS_len ⟨a, b, c, d⟩ j)
            have hmin : min j 256 ≤ 256 := Nat.min_le_right _ _
            obtain ⟨p0, p1, p2, p3⟩ := L.out.bx.cells
            generalize rowS ⟨a, b, c, d⟩ (min j 256) = us at EU LU L
            generalize bitsS ⟨a, b, c, d⟩ j = ls at EL LL L
            generalize iterS ⟨a, b, c, d⟩ j = S at EU ES HW HS hX L hm p0 p1 p2 p3
            generalize wordS S = X at EU HW hX
            generalize stepS S = T at ES HS
            obtain ⟨s0, s1, s2, s3⟩ := S
            obtain ⟨n0, n1, n2, n3⟩ := T
            simp only at hm p0 p1 p2 p3
            have hm1 : (s0 : Int) % 2 = 0 := by omega
            clear hm
            go_wp2_with fail
            refine (HW.out _).mono ?_
            rintro e g1 ⟨rfl, hb⟩
            have L1 := Lib.hid (L.out.far hb)
            clear hb p0 p1 p2 p3 L
            have SZ1 := L1.out.below.size
            go_wp2_with (first
              | (at_builtin; refine wpList_append_own _ rfl _ _ 31 rfl wc.heap.size 22 i0 (.int .u64 0) 1 8 Try.underlying31 HI.out HZ0.out HZ1.out HZ2.out rfl (by decide) _ _ _ rfl (owns_below L1.out.ow (below_alloc (Below.refl _ _) _)) ⟨g1.heap.size, 0, none⟩ 1 1 [.int .u64 (X : Int)] rfl rfl (new1 g1 _ _) (by simp [Value.oneCell']) (by rw [LU.out]; unfold maxLen; omega) (by rw [LU.out]; omega) (by simp; omega) ?_; intro v5 g2 hown hgrow _; have L2 := Lib.hid ((L1.out.far (w' := g1.alloc _) (below_alloc (Below.refl _ _) (.cells #[.int .u64 (X : Int)] 22))).word X hX hown hgrow); clear hown hgrow L1 SZ1; obtain ⟨p0, p1, p2, p3⟩ := L2.out.bx.cells; have SZ2 := L2.out.below.size)
              | (at_builtin; refine wpList_append_own _ rfl _ _ 32 rfl wc.heap.size 4 b0 (.bool false) 1 1 Try.underlying32 BI.out BZ0.out BZ1.out BZ2.out rfl (by decide) _ _ _ rfl (owns_below L2.out.ob (below_alloc (Below.refl _ _) _)) ⟨g2.heap.size, 0, none⟩ 1 1 [.bool false] rfl rfl (new1 g2 _ _) (by simp [Value.oneCell']) (by rw [LL.out]; unfold maxLen; omega) (by rw [LL.out]; omega) (by simp; omega) ?_; intro v6 g3 hown hgrow _; have L3 := Lib.hid ((L2.out.far (w' := g2.alloc _) (below_alloc (Below.refl _ _) (.cells #[.bool false] 4))).bit false hown hgrow); clear hown hgrow L2 SZ2 p0 p1 p2 p3; obtain ⟨p0, p1, p2, p3⟩ := L3.out.bx.cells)
              | fail)
            refine (HS.out _).mono ?_
            rintro e g4 ⟨rfl, hb⟩
            have L4 := Lib.hid (L3.out.far hb)
            clear hb p0 p1 p2 p3 L3
            obtain ⟨c0, c1, c2, c3⟩ := L4.out.bx.cells
            obtain ⟨f0, f1, f2, f3⟩ := L4.out.bx.free
            go_wp2_with fail
            go_roundg (gk - 1)
            case measure => omega
            case rel => exact ⟨j + 1, by omega, by go_num, by rw [EU.out, EL.out, ES.out]; exact Lib.hid (L4.out.put ⟨n0, n1, n2, n3⟩)⟩
          · skip
            have EU := Lib.hid (show rowS ⟨a, b, c, d⟩ (min (j + 1) 256) = rowS ⟨a, b, c, d⟩ (min j 256) ++ [wordS (iterS ⟨a, b, c, d⟩ j)] from by rw [Nat.min_eq_left (by omega), Nat.min_eq_left (by omega)]; rfl)
            have EL := Lib.hid (show bitsS ⟨a, b, c, d⟩ (j + 1) = bitsS ⟨a, b, c, d⟩ j ++ [true] from by rw [bitsS]; unfold bitS; rw [hm]; rfl)
            have ES := Lib.hid (show iterS ⟨a, b, c, d⟩ (j + 1) = stepS (iterS ⟨a, b, c, d⟩ j) from rfl)
            have HW := Lib.hid (rWord (iterS ⟨a, b, c, d⟩ j) (OK.out j))
            have HS := Lib.hid (rStep (iterS ⟨a, b, c, d⟩ j) (OK.out j))
            have hX := wordS_lt (iterS ⟨a, b, c, d⟩ j)
            have LU := Lib.hid (rowS_len ⟨a, b, c, d⟩ (min j 256))
            have LL := Lib.hid (bitsS_len ⟨a, b, c, d⟩ j)
            have hmin : min j 256 ≤ 256 := Nat.min_le_right _ _
            obtain ⟨p0, p1, p2, p3⟩ := L.out.bx.cells
            generalize rowS ⟨a, b, c, d⟩ (min j 256) = us at EU LU L
            generalize bitsS ⟨a, b, c, d⟩ j = ls at EL LL L
            generalize iterS ⟨a, b, c, d⟩ j = S at EU ES HW HS hX L hm p0 p1 p2 p3
            generalize wordS S = X at EU HW hX
            generalize stepS S = T at ES HS
            obtain ⟨s0, s1, s2, s3⟩ := S
            obtain ⟨n0, n1, n2, n3⟩ := T
            simp only at hm p0 p1 p2 p3
            have hm1 : (s0 : Int) % 2 = 1 := by omega
            clear hm
            go_wp2_with fail
            refine (HW.out _).mono ?_
            rintro e g1 ⟨rfl, hb⟩
            have L1 := Lib.hid (L.out.far hb)
            clear hb p0 p1 p2 p3 L
            have SZ1 := L1.out.below.size
            go_wp2_with (first
              | (at_builtin; refine wpList_append_own _ rfl _ _ 31 rfl wc.heap.size 22 i0 (.int .u64 0) 1 8 Try.underlying31 HI.out HZ0.out HZ1.out HZ2.out rfl (by decide) _ _ _ rfl (owns_below L1.out.ow (below_alloc (Below.refl _ _) _)) ⟨g1.heap.size, 0, none⟩ 1 1 [.int .u64 (X : Int)] rfl rfl (new1 g1 _ _) (by simp [Value.oneCell']) (by rw [LU.out]; unfold maxLen; omega) (by rw [LU.out]; omega) (by simp; omega) ?_; intro v5 g2 hown hgrow _; have L2 := Lib.hid ((L1.out.far (w' := g1.alloc _) (below_alloc (Below.refl _ _) (.cells #[.int .u64 (X : Int)] 22))).word X hX hown hgrow); clear hown hgrow L1 SZ1; obtain ⟨p0, p1, p2, p3⟩ := L2.out.bx.cells; have SZ2 := L2.out.below.size)
              | (at_builtin; refine wpList_append_own _ rfl _ _ 32 rfl wc.heap.size 4 b0 (.bool false) 1 1 Try.underlying32 BI.out BZ0.out BZ1.out BZ2.out rfl (by decide) _ _ _ rfl (owns_below L2.out.ob (below_alloc (Below.refl _ _) _)) ⟨g2.heap.size, 0, none⟩ 1 1 [.bool true] rfl rfl (new1 g2 _ _) (by simp [Value.oneCell']) (by rw [LL.out]; unfold maxLen; omega) (by rw [LL.out]; omega) (by simp; omega) ?_; intro v6 g3 hown hgrow _; have L3 := Lib.hid ((L2.out.far (w' := g2.alloc _) (below_alloc (Below.refl _ _) (.cells #[.bool true] 4))).bit true hown hgrow); clear hown hgrow L2 SZ2 p0 p1 p2 p3; obtain ⟨p0, p1, p2, p3⟩ := L3.out.bx.cells)
              | fail)
            refine (HS.out _).mono ?_
            rintro e g4 ⟨rfl, hb⟩
            have L4 := Lib.hid (L3.out.far hb)
            clear hb p0 p1 p2 p3 L3
            obtain ⟨c0, c1, c2, c3⟩ := L4.out.bx.cells
            obtain ⟨f0, f1, f2, f3⟩ := L4.out.bx.free
            go_wp2_with fail
            go_roundg (gk - 1)
            case measure => omega
            case rel => exact ⟨j + 1, by omega, by go_num, by rw [EU.out, EL.out, ES.out]; exact Lib.hid (L4.out.put ⟨n0, n1, n2, n3⟩)⟩
        · have jl : ¬ (j : Int) < 256 := by omega
          rcases Nat.mod_two_eq_zero_or_one (iterS ⟨a, b, c, d⟩ j).a with hm | hm
          · skip
            have EU := Lib.hid (show rowS ⟨a, b, c, d⟩ (min (j + 1) 256) = rowS ⟨a, b, c, d⟩ (min j 256) from by rw [Nat.min_eq_right (by omega), Nat.min_eq_right (by omega)])
            have EL := Lib.hid (show bitsS ⟨a, b, c, d⟩ (j + 1) = bitsS ⟨a, b, c, d⟩ j ++ [false] from by rw [bitsS]; unfold bitS; rw [hm]; rfl)
            have ES := Lib.hid (show iterS ⟨a, b, c, d⟩ (j + 1) = stepS (iterS ⟨a, b, c, d⟩ j) from rfl)
            have HW := Lib.hid (rWord (iterS ⟨a, b, c, d⟩ j) (OK.out j))
            have HS := Lib.hid (rStep (iterS ⟨a, b, c, d⟩ j) (OK.out j))
            have hX := wordS_lt (iterS ⟨a, b, c, d⟩ j)
            have LU := Lib.hid (rowS_len ⟨a, b, c, d⟩ (min j 256))
            have LL := Lib.hid (bitsS_len ⟨a, b, c, d⟩ j)
            have hmin : min j 256 ≤ 256 := Nat.min_le_right _ _
            obtain ⟨p0, p1, p2, p3⟩ := L.out.bx.cells
            generalize rowS ⟨a, b, c, d⟩ (min j 256) = us at EU LU L
            generalize bitsS ⟨a, b, c, d⟩ j = ls at EL LL L
            generalize iterS ⟨a, b, c, d⟩ j = S at EU ES HW HS hX L hm p0 p1 p2 p3
            generalize wordS S = X at EU HW hX
            generalize stepS S = T at ES HS
            obtain ⟨s0, s1, s2, s3⟩ := S
            obtain ⟨n0, n1, n2, n3⟩ := T
            simp only at hm p0 p1 p2 p3
            have hm1 : (s0 : Int) % 2 = 0 := by omega
            clear hm
            obtain ⟨g2, hg2⟩ : ∃ g : World, g = wr := ⟨_, rfl⟩
            subst hg2
            have L2 := L
            have SZ2 := L2.out.below.size
            go_wp2_with (first
              | (at_builtin; refine wpList_append_own _ rfl _ _ 32 rfl wc.heap.size 4 b0 (.bool false) 1 1 Try.underlying32 BI.out BZ0.out BZ1.out BZ2.out rfl (by decide) _ _ _ rfl (owns_below L2.out.ob (below_alloc (Below.refl _ _) _)) ⟨g2.heap.size, 0, none⟩ 1 1 [.bool false] rfl rfl (new1 g2 _ _) (by simp [Value.oneCell']) (by rw [LL.out]; unfold maxLen; omega) (by rw [LL.out]; omega) (by simp; omega) ?_; intro v6 g3 hown hgrow _; have L3 := Lib.hid ((L2.out.far (w' := g2.alloc _) (below_alloc (Below.refl _ _) (.cells #[.bool false] 4))).bit false hown hgrow); clear hown hgrow L2 SZ2 p0 p1 p2 p3; obtain ⟨p0, p1, p2, p3⟩ := L3.out.bx.cells)
              | fail)
            refine (HS.out _).mono ?_
            rintro e g4 ⟨rfl, hb⟩
            have L4 := Lib.hid (L3.out.far hb)
            clear hb p0 p1 p2 p3 L3
            obtain ⟨c0, c1, c2, c3⟩ := L4.out.bx.cells
            obtain ⟨f0, f1, f2, f3⟩ := L4.out.bx.free
            go_wp2_with fail
            go_roundg (gk - 1)
            case measure => omega
            case rel => exact ⟨j + 1, by omega, by go_num, by rw [EU.out, EL.out, ES.out]; exact Lib.hid (L4.out.put ⟨n0, n1, n2, n3⟩)⟩
          · skip
            have EU := Lib.hid (show rowS ⟨a, b, c, d⟩ (min (j + 1) 256) = rowS ⟨a, b, c, d⟩ (min j 256) from by rw [Nat.min_eq_right (by omega), Nat.min_eq_right (by omega)])
            have EL := Lib.hid (show bitsS ⟨a, b, c, d⟩ (j + 1) = bitsS ⟨a, b, c, d⟩ j ++ [true] from by rw [bitsS]; unfold bitS; rw [hm]; rfl)
            have ES := Lib.hid (show iterS ⟨a, b, c, d⟩ (j + 1) = stepS (iterS ⟨a, b, c, d⟩ j) from rfl)
            have HW := Lib.hid (rWord (iterS ⟨a, b, c, d⟩ j) (OK.out j))
            have HS := Lib.hid (rStep (iterS ⟨a, b, c, d⟩ j) (OK.out j))
            have hX := wordS_lt (iterS ⟨a, b, c, d⟩ j)
            have LU := Lib.hid (rowS_len ⟨a, b, c, d⟩ (min j 256))
            have LL := Lib.hid (bitsS_len ⟨a, b, c, d⟩ j)
            have hmin : min j 256 ≤ 256 := Nat.min_le_right _ _
            obtain ⟨p0, p1, p2, p3⟩ := L.out.bx.cells
            generalize rowS ⟨a, b, c, d⟩ (min j 256) = us at EU LU L
            generalize bitsS ⟨a, b, c, d⟩ j = ls at EL LL L
            generalize iterS ⟨a, b, c, d⟩ j = S at EU ES HW HS hX L hm p0 p1 p2 p3
            generalize wordS S = X at EU HW hX
            generalize stepS S = T at ES HS
            obtain ⟨s0, s1, s2, s3⟩ := S
            obtain ⟨n0, n1, n2, n3⟩ := T
            simp only at hm p0 p1 p2 p3
            have hm1 : (s0 : Int) % 2 = 1 := by omega
            clear hm
            obtain ⟨g2, hg2⟩ : ∃ g : World, g = wr := ⟨_, rfl⟩
            subst hg2
            have L2 := L
            have SZ2 := L2.out.below.size
            go_wp2_with (first
              | (at_builtin; refine wpList_append_own _ rfl _ _ 32 rfl wc.heap.size 4 b0 (.bool false) 1 1 Try.underlying32 BI.out BZ0.out BZ1.out BZ2.out rfl (by decide) _ _ _ rfl (owns_below L2.out.ob (below_alloc (Below.refl _ _) _)) ⟨g2.heap.size, 0, none⟩ 1 1 [.bool true] rfl rfl (new1 g2 _ _) (by simp [Value.oneCell']) (by rw [LL.out]; unfold maxLen; omega) (by rw [LL.out]; omega) (by simp; omega) ?_; intro v6 g3 hown hgrow _; have L3 := Lib.hid ((L2.out.far (w' := g2.alloc _) (below_alloc (Below.refl _ _) (.cells #[.bool true] 4))).bit true hown hgrow); clear hown hgrow L2 SZ2 p0 p1 p2 p3; obtain ⟨p0, p1, p2, p3⟩ := L3.out.bx.cells)
              | fail)
            refine (HS.out _).mono ?_
            rintro e g4 ⟨rfl, hb⟩
            have L4 := Lib.hid (L3.out.far hb)
            clear hb p0 p1 p2 p3 L3
            obtain ⟨c0, c1, c2, c3⟩ := L4.out.bx.cells
            obtain ⟨f0, f1, f2, f3⟩ := L4.out.bx.free
            go_wp2_with fail
            go_roundg (gk - 1)
            case measure => omega
            case rel => exact ⟨j + 1, by omega, by go_num, by rw [EU.out, EL.out, ES.out]; exact Lib.hid (L4.out.put ⟨n0, n1, n2, n3⟩)⟩
      · obtain rfl : j = k := by omega
        have kl : ¬ (j : Int) < (j : Int) := by omega
        have k0 : ¬ (j : Int) < 0 := by omega
        have k1 : (0 : Int) ≤ (j : Int) := by omega
        have k2 : (j : Int) ≤ 2048 := by omega
        have k3 : ¬ (j : Int) > 2048 := by omega
        obtain ⟨A5, c5, rfl, P5⟩ := Pol.of_owns L.out.wd L.out.ow
        obtain ⟨A6, c6, rfl, R6⟩ := GrowB.brs ⟨L.out.ob, L.out.below⟩
        have B7 := C4.of L.out.bx
        replace U1 := UC.out.below L.out.below
        replace hB := below_then HBC.out L.out.below
        clear L UC HBC
        have JB := Lib.hid (bitsYes ⟨a, b, c, d⟩ hs j hk2)
        have LB6 := Lib.hid (show (bitsS ⟨a, b, c, d⟩ j).length ≤ 1000000 from by rw [bitsS_len]; omega)
        by_cases hz : (⟨a, b, c, d⟩ : St) = St.zero
        · skip
          have JW : Hid (∀ W, Calls Try.prog 13 #[.agg #[.int .u64 (a : Int), .int .u64 (b : Int), .int .u64 (c : Int), .int .u64 (d : Int)], .int .i64 (j : Int)] W (fun e w' => e = .returned (.tuple #[.slice none 0 0, .agg #[.int .u64 0, .int .u64 0, .int .u64 0, .int .u64 0], .int .i64 3]) ∧ Below W.heap.size W w')) := Lib.hid (fun W => by
            have := wordsZero (j : Int) W
            rw [← hz] at this
            exact this)
          have J6 : Hid (∀ W, Calls Try.prog 12 #[.agg #[.int .u64 (a : Int), .int .u64 (b : Int), .int .u64 (c : Int), .int .u64 (d : Int)]] W (fun e w' => e = .returned (.bool false) ∧ Below W.heap.size W w')) := Lib.hid (fun W => by
            have := cRight ⟨a, b, c, d⟩ W
            rwa [decide_eq_true hz] at this)
          clear hz hs
          obtain ⟨x1, x2, x3, x4⟩ := id U1
          go_wp2_with fail
          clear x1 x2 x3 x4
          refine (JW.out _).mono ?_
          rintro e e1 ⟨rfl, hb⟩
          replace U1 := U1.below hb
          replace B7 := B7.below hb
          replace P5 := P5.below hb
          replace R6 := R6.below hb
          replace hB := below_then hB hb
          clear hb
          go_upto_region 15 with fail
          have U3 := C4.new e1 0 0 0 0 24
          have LB : Below e1.heap.size e1 (e1.alloc (.cells #[.int .u64 0, .int .u64 0, .int .u64 0, .int .u64 0] 24)) := below_alloc (Below.refl _ _) _
          replace U1 := U1.below LB
          replace B7 := B7.below LB
          replace P5 := P5.below LB
          replace R6 := R6.below LB
          replace hB := below_then hB LB
          clear LB
          generalize World.alloc _ _ = f1 at U1 B7 P5 R6 U3 hB ⊢
          obtain ⟨x1, x2, x3, x4⟩ := id U1
          go_wp2_with fail
          clear x1 x2 x3 x4
          refine (JB.out _).mono ?_
          rintro e e2 ⟨A2, k2, rfl, R2, hb⟩
          replace U1 := U1.below hb
          replace B7 := B7.below hb
          replace P5 := P5.below hb
          replace R6 := R6.below hb
          replace U3 := U3.below hb
          replace hB := below_then hB hb
          clear hb
          go_wp2_with fail
          refine (gSameB true R2 R6 rfl rfl (by unfold sameB; exact decide_eq_true rfl) LB6.out).mono ?_
          rintro e e3 ⟨rfl, hb⟩
          replace U1 := U1.below hb
          replace B7 := B7.below hb
          replace P5 := P5.below hb
          replace U3 := U3.below hb
          replace hB := below_then hB hb
          clear hb
          clear R2 R6
          go_upto_region 18 with fail
          obtain ⟨x1, x2, x3, x4⟩ := id U1
          go_wp2_with fail
          clear x1 x2 x3 x4
          refine (J6.out _).mono ?_
          rintro e e4 ⟨rfl, hb⟩
          replace U1 := U1.below hb
          replace B7 := B7.below hb
          replace P5 := P5.below hb
          replace U3 := U3.below hb
          replace hB := below_then hB hb
          clear hb
          obtain ⟨z1, z2, z3, z4⟩ := id U3
          have q : ∀ W, Sem.run Try.prog (Op.equalIn 10000 24 (.agg #[.int .u64 0, .int .u64 0, .int .u64 0, .int .u64 0]) (.agg #[.int .u64 0, .int .u64 0, .int .u64 0, .int .u64 0])) W = .ok true W := fun W => sameS St.zero St.zero W
          go_wp2
          go_ret
          exact ⟨rfl, hB⟩
        · by_cases hbig : 256 < j
          · have k4 : (256 : Int) < (j : Int) := by omega
            have JW : Hid (∀ W, Calls Try.prog 13 #[.agg #[.int .u64 (a : Int), .int .u64 (b : Int), .int .u64 (c : Int), .int .u64 (d : Int)], .int .i64 (j : Int)] W (fun e w' => e = .returned (.tuple #[.slice none 0 0, .agg #[.int .u64 0, .int .u64 0, .int .u64 0, .int .u64 0], .int .i64 1]) ∧ Below W.heap.size W w')) := Lib.hid (fun W => wordsArg ⟨a, b, c, d⟩ (j : Int) hz (by omega) W)
            have J6 : Hid (∀ W, Calls Try.prog 12 #[.agg #[.int .u64 (a : Int), .int .u64 (b : Int), .int .u64 (c : Int), .int .u64 (d : Int)]] W (fun e w' => e = .returned (.bool true) ∧ Below W.heap.size W w')) := Lib.hid (fun W => by
              have := cRight ⟨a, b, c, d⟩ W
              rwa [decide_eq_false hz] at this)
            clear hz hs
            obtain ⟨x1, x2, x3, x4⟩ := id U1
            go_wp2_with fail
            clear x1 x2 x3 x4
            refine (JW.out _).mono ?_
            rintro e e1 ⟨rfl, hb⟩
            replace U1 := U1.below hb
            replace B7 := B7.below hb
            replace P5 := P5.below hb
            replace R6 := R6.below hb
            replace hB := below_then hB hb
            clear hb
            go_upto_region 15 with fail
            have U3 := C4.new e1 0 0 0 0 24
            have LB : Below e1.heap.size e1 (e1.alloc (.cells #[.int .u64 0, .int .u64 0, .int .u64 0, .int .u64 0] 24)) := below_alloc (Below.refl _ _) _
            replace U1 := U1.below LB
            replace B7 := B7.below LB
            replace P5 := P5.below LB
            replace R6 := R6.below LB
            replace hB := below_then hB LB
            clear LB
            generalize World.alloc _ _ = f1 at U1 B7 P5 R6 U3 hB ⊢
            obtain ⟨x1, x2, x3, x4⟩ := id U1
            go_wp2_with fail
            clear x1 x2 x3 x4
            refine (JB.out _).mono ?_
            rintro e e2 ⟨A2, k2, rfl, R2, hb⟩
            replace U1 := U1.below hb
            replace B7 := B7.below hb
            replace P5 := P5.below hb
            replace R6 := R6.below hb
            replace U3 := U3.below hb
            replace hB := below_then hB hb
            clear hb
            go_wp2_with fail
            refine (gSameB true R2 R6 rfl rfl (by unfold sameB; exact decide_eq_true rfl) LB6.out).mono ?_
            rintro e e3 ⟨rfl, hb⟩
            replace U1 := U1.below hb
            replace B7 := B7.below hb
            replace P5 := P5.below hb
            replace U3 := U3.below hb
            replace hB := below_then hB hb
            clear hb
            clear R2 R6
            go_upto_region 18 with fail
            obtain ⟨x1, x2, x3, x4⟩ := id U1
            go_wp2_with fail
            clear x1 x2 x3 x4
            refine (J6.out _).mono ?_
            rintro e e4 ⟨rfl, hb⟩
            replace U1 := U1.below hb
            replace B7 := B7.below hb
            replace P5 := P5.below hb
            replace U3 := U3.below hb
            replace hB := below_then hB hb
            clear hb
            obtain ⟨z1, z2, z3, z4⟩ := id U3
            have q : ∀ W, Sem.run Try.prog (Op.equalIn 10000 24 (.agg #[.int .u64 0, .int .u64 0, .int .u64 0, .int .u64 0]) (.agg #[.int .u64 0, .int .u64 0, .int .u64 0, .int .u64 0])) W = .ok true W := fun W => sameS St.zero St.zero W
            go_wp2
            go_ret
            exact ⟨rfl, hB⟩
          · have k4 : ¬ (256 : Int) < (j : Int) := by omega
            have JW := Lib.hid (wordsYes ⟨a, b, c, d⟩ hs j hz (by omega))
            have J6 : Hid (∀ W, Calls Try.prog 12 #[.agg #[.int .u64 (a : Int), .int .u64 (b : Int), .int .u64 (c : Int), .int .u64 (d : Int)]] W (fun e w' => e = .returned (.bool true) ∧ Below W.heap.size W w')) := Lib.hid (fun W => by
              have := cRight ⟨a, b, c, d⟩ W
              rwa [decide_eq_false hz] at this)
            have L5 := Lib.hid (show (rowS ⟨a, b, c, d⟩ j).length ≤ 50000 from by rw [rowS_len]; omega)
            rw [Nat.min_eq_left (by omega)] at P5 ⊢
            generalize rowS ⟨a, b, c, d⟩ j = us at JW P5 L5 ⊢
            generalize iterS ⟨a, b, c, d⟩ j = Y at JW B7
            obtain ⟨y0, y1, y2, y3⟩ := Y
            clear hz hs
            obtain ⟨x1, x2, x3, x4⟩ := id U1
            go_wp2_with fail
            clear x1 x2 x3 x4
            refine (JW.out _).mono ?_
            rintro e e1 ⟨A1, k1, rfl, P1, hb⟩
            replace U1 := U1.below hb
            replace B7 := B7.below hb
            replace P5 := P5.below hb
            replace R6 := R6.below hb
            replace hB := below_then hB hb
            clear hb
            go_upto_region 15 with fail
            have U3 := C4.new e1 y0 y1 y2 y3 24
            have LB : Below e1.heap.size e1 (e1.alloc (.cells #[.int .u64 (y0 : Int), .int .u64 (y1 : Int), .int .u64 (y2 : Int), .int .u64 (y3 : Int)] 24)) := below_alloc (Below.refl _ _) _
            replace U1 := U1.below LB
            replace B7 := B7.below LB
            replace P5 := P5.below LB
            replace R6 := R6.below LB
            replace P1 := P1.below LB
            replace hB := below_then hB LB
            clear LB
            generalize World.alloc _ _ = f1 at U1 B7 P5 R6 P1 U3 hB ⊢
            obtain ⟨x1, x2, x3, x4⟩ := id U1
            go_wp2_with fail
            clear x1 x2 x3 x4
            refine (JB.out _).mono ?_
            rintro e e2 ⟨A2, k2, rfl, R2, hb⟩
            replace U1 := U1.below hb
            replace B7 := B7.below hb
            replace P5 := P5.below hb
            replace R6 := R6.below hb
            replace P1 := P1.below hb
            replace U3 := U3.below hb
            replace hB := below_then hB hb
            clear hb
            go_wp2_with fail
            refine (gSameB true R2 R6 rfl rfl (by unfold sameB; exact decide_eq_true rfl) LB6.out).mono ?_
            rintro e e3 ⟨rfl, hb⟩
            replace U1 := U1.below hb
            replace B7 := B7.below hb
            replace P5 := P5.below hb
            replace P1 := P1.below hb
            replace U3 := U3.below hb
            replace hB := below_then hB hb
            clear hb
            clear R2 R6
            go_upto_region 18 with fail
            obtain ⟨x1, x2, x3, x4⟩ := id U1
            go_wp2_with fail
            clear x1 x2 x3 x4
            refine (J6.out _).mono ?_
            rintro e e4 ⟨rfl, hb⟩
            replace U1 := U1.below hb
            replace B7 := B7.below hb
            replace P5 := P5.below hb
            replace P1 := P1.below hb
            replace U3 := U3.below hb
            replace hB := below_then hB hb
            clear hb
            obtain ⟨z1, z2, z3, z4⟩ := id U3
            obtain ⟨x1, x2, x3, x4⟩ := id B7
            go_wp2_with fail
            clear x1 x2 x3 x4 z1 z2 z3 z4
            refine (gWords true P1 P5 rfl rfl (by unfold sameL; simp) L5.out).mono ?_
            rintro e e5 ⟨rfl, hb⟩
            replace U3 := U3.below hb
            replace B7 := B7.below hb
            replace hB := below_then hB hb
            clear hb
            have q : ∀ W, Sem.run Try.prog (Op.equalIn 10000 23 (.agg #[.int .u64 (y0 : Int), .int .u64 (y1 : Int), .int .u64 (y2 : Int), .int .u64 (y3 : Int)]) (.agg #[.int .u64 (y0 : Int), .int .u64 (y1 : Int), .int .u64 (y2 : Int), .int .u64 (y3 : Int)])) W = .ok true W := fun W => by
              have := sameR ⟨y0, y1, y2, y3⟩ ⟨y0, y1, y2, y3⟩ W
              rwa [decide_eq_true rfl] at this
            obtain ⟨x1, x2, x3, x4⟩ := id B7
            obtain ⟨z1, z2, z3, z4⟩ := id U3
            go_wp2
            go_ret
            exact ⟨rfl, hB⟩
  · have U1 := UC.out.below L0.out.below
    have hB := below_then HBC.out L0.out.below
    clear L0 UC HBC
    by_cases h1 : many < 0
    · have h2 : ¬ (0 : Int) < many := by omega
      go_loopg [8] 0 (fun g z wr => z = .int .i64 0 ∧ wr = V2)
      case atStart => exact ⟨rfl, rfl⟩
      case round =>
        obtain ⟨rfl, rfl⟩ := hrel
        have JB := Lib.hid (bitsArg ⟨a, b, c, d⟩ many (by omega))
        by_cases hz : (⟨a, b, c, d⟩ : St) = St.zero
        · skip
          have JW : Hid (∀ W, Calls Try.prog 13 #[.agg #[.int .u64 (a : Int), .int .u64 (b : Int), .int .u64 (c : Int), .int .u64 (d : Int)], .int .i64 many] W (fun e w' => e = .returned (.tuple #[.slice none 0 0, .agg #[.int .u64 0, .int .u64 0, .int .u64 0, .int .u64 0], .int .i64 3]) ∧ Below W.heap.size W w')) := Lib.hid (fun W => by
            have := wordsZero many W
            rw [← hz] at this
            exact this)
          have J6 : Hid (∀ W, Calls Try.prog 12 #[.agg #[.int .u64 (a : Int), .int .u64 (b : Int), .int .u64 (c : Int), .int .u64 (d : Int)]] W (fun e w' => e = .returned (.bool false) ∧ Below W.heap.size W w')) := Lib.hid (fun W => by
            have := cRight ⟨a, b, c, d⟩ W
            rwa [decide_eq_true hz] at this)
          clear hz h1
          obtain ⟨x1, x2, x3, x4⟩ := id U1
          go_wp2_with fail
          clear x1 x2 x3 x4
          refine (JW.out _).mono ?_
          rintro e e1 ⟨rfl, hb⟩
          replace U1 := U1.below hb
          replace hB := below_then hB hb
          clear hb
          go_upto_region 15 with fail
          have U3 := C4.new e1 0 0 0 0 24
          have LB : Below e1.heap.size e1 (e1.alloc (.cells #[.int .u64 0, .int .u64 0, .int .u64 0, .int .u64 0] 24)) := below_alloc (Below.refl _ _) _
          replace U1 := U1.below LB
          replace hB := below_then hB LB
          clear LB
          generalize World.alloc _ _ = f1 at U1 U3 hB ⊢
          obtain ⟨x1, x2, x3, x4⟩ := id U1
          go_wp2_with fail
          clear x1 x2 x3 x4
          refine (JB.out _).mono ?_
          rintro e e3 ⟨rfl, hb⟩
          replace U1 := U1.below hb
          replace U3 := U3.below hb
          replace hB := below_then hB hb
          clear hb
          go_upto_region 18 with fail
          obtain ⟨x1, x2, x3, x4⟩ := id U1
          go_wp2_with fail
          clear x1 x2 x3 x4
          refine (J6.out _).mono ?_
          rintro e e4 ⟨rfl, hb⟩
          replace U1 := U1.below hb
          replace U3 := U3.below hb
          replace hB := below_then hB hb
          clear hb
          obtain ⟨z1, z2, z3, z4⟩ := id U3
          have q : ∀ W, Sem.run Try.prog (Op.equalIn 10000 24 (.agg #[.int .u64 0, .int .u64 0, .int .u64 0, .int .u64 0]) (.agg #[.int .u64 0, .int .u64 0, .int .u64 0, .int .u64 0])) W = .ok true W := fun W => sameS St.zero St.zero W
          go_wp2
          go_ret
          exact ⟨rfl, hB⟩
        · skip
          have JW : Hid (∀ W, Calls Try.prog 13 #[.agg #[.int .u64 (a : Int), .int .u64 (b : Int), .int .u64 (c : Int), .int .u64 (d : Int)], .int .i64 many] W (fun e w' => e = .returned (.tuple #[.slice none 0 0, .agg #[.int .u64 0, .int .u64 0, .int .u64 0, .int .u64 0], .int .i64 1]) ∧ Below W.heap.size W w')) := Lib.hid (fun W => wordsArg ⟨a, b, c, d⟩ many hz (by omega) W)
          have J6 : Hid (∀ W, Calls Try.prog 12 #[.agg #[.int .u64 (a : Int), .int .u64 (b : Int), .int .u64 (c : Int), .int .u64 (d : Int)]] W (fun e w' => e = .returned (.bool true) ∧ Below W.heap.size W w')) := Lib.hid (fun W => by
            have := cRight ⟨a, b, c, d⟩ W
            rwa [decide_eq_false hz] at this)
          clear hz h1
          obtain ⟨x1, x2, x3, x4⟩ := id U1
          go_wp2_with fail
          clear x1 x2 x3 x4
          refine (JW.out _).mono ?_
          rintro e e1 ⟨rfl, hb⟩
          replace U1 := U1.below hb
          replace hB := below_then hB hb
          clear hb
          go_upto_region 15 with fail
          have U3 := C4.new e1 0 0 0 0 24
          have LB : Below e1.heap.size e1 (e1.alloc (.cells #[.int .u64 0, .int .u64 0, .int .u64 0, .int .u64 0] 24)) := below_alloc (Below.refl _ _) _
          replace U1 := U1.below LB
          replace hB := below_then hB LB
          clear LB
          generalize World.alloc _ _ = f1 at U1 U3 hB ⊢
          obtain ⟨x1, x2, x3, x4⟩ := id U1
          go_wp2_with fail
          clear x1 x2 x3 x4
          refine (JB.out _).mono ?_
          rintro e e3 ⟨rfl, hb⟩
          replace U1 := U1.below hb
          replace U3 := U3.below hb
          replace hB := below_then hB hb
          clear hb
          go_upto_region 18 with fail
          obtain ⟨x1, x2, x3, x4⟩ := id U1
          go_wp2_with fail
          clear x1 x2 x3 x4
          refine (J6.out _).mono ?_
          rintro e e4 ⟨rfl, hb⟩
          replace U1 := U1.below hb
          replace U3 := U3.below hb
          replace hB := below_then hB hb
          clear hb
          obtain ⟨z1, z2, z3, z4⟩ := id U3
          have q : ∀ W, Sem.run Try.prog (Op.equalIn 10000 24 (.agg #[.int .u64 0, .int .u64 0, .int .u64 0, .int .u64 0]) (.agg #[.int .u64 0, .int .u64 0, .int .u64 0, .int .u64 0])) W = .ok true W := fun W => sameS St.zero St.zero W
          go_wp2
          go_ret
          exact ⟨rfl, hB⟩
    · have h2 : (0 : Int) < many := by omega
      have h3 : ¬ many ≤ 2048 := by omega
      have h4 : many > 2048 := by omega
      have h5 : many > 256 := by omega
      have h6 : 0 ≤ many := by omega
      go_loopg [8] 0 (fun g z wr => z = .int .i64 0 ∧ wr = V2)
      case atStart => exact ⟨rfl, rfl⟩
      case round =>
        obtain ⟨rfl, rfl⟩ := hrel
        have JB := Lib.hid (bitsArg ⟨a, b, c, d⟩ many (by omega))
        by_cases hz : (⟨a, b, c, d⟩ : St) = St.zero
        · skip
          have JW : Hid (∀ W, Calls Try.prog 13 #[.agg #[.int .u64 (a : Int), .int .u64 (b : Int), .int .u64 (c : Int), .int .u64 (d : Int)], .int .i64 many] W (fun e w' => e = .returned (.tuple #[.slice none 0 0, .agg #[.int .u64 0, .int .u64 0, .int .u64 0, .int .u64 0], .int .i64 3]) ∧ Below W.heap.size W w')) := Lib.hid (fun W => by
            have := wordsZero many W
            rw [← hz] at this
            exact this)
          have J6 : Hid (∀ W, Calls Try.prog 12 #[.agg #[.int .u64 (a : Int), .int .u64 (b : Int), .int .u64 (c : Int), .int .u64 (d : Int)]] W (fun e w' => e = .returned (.bool false) ∧ Below W.heap.size W w')) := Lib.hid (fun W => by
            have := cRight ⟨a, b, c, d⟩ W
            rwa [decide_eq_true hz] at this)
          clear hz h1
          obtain ⟨x1, x2, x3, x4⟩ := id U1
          go_wp2_with fail
          clear x1 x2 x3 x4
          refine (JW.out _).mono ?_
          rintro e e1 ⟨rfl, hb⟩
          replace U1 := U1.below hb
          replace hB := below_then hB hb
          clear hb
          go_upto_region 15 with fail
          have U3 := C4.new e1 0 0 0 0 24
          have LB : Below e1.heap.size e1 (e1.alloc (.cells #[.int .u64 0, .int .u64 0, .int .u64 0, .int .u64 0] 24)) := below_alloc (Below.refl _ _) _
          replace U1 := U1.below LB
          replace hB := below_then hB LB
          clear LB
          generalize World.alloc _ _ = f1 at U1 U3 hB ⊢
          obtain ⟨x1, x2, x3, x4⟩ := id U1
          go_wp2_with fail
          clear x1 x2 x3 x4
          refine (JB.out _).mono ?_
          rintro e e3 ⟨rfl, hb⟩
          replace U1 := U1.below hb
          replace U3 := U3.below hb
          replace hB := below_then hB hb
          clear hb
          go_upto_region 18 with fail
          obtain ⟨x1, x2, x3, x4⟩ := id U1
          go_wp2_with fail
          clear x1 x2 x3 x4
          refine (J6.out _).mono ?_
          rintro e e4 ⟨rfl, hb⟩
          replace U1 := U1.below hb
          replace U3 := U3.below hb
          replace hB := below_then hB hb
          clear hb
          obtain ⟨z1, z2, z3, z4⟩ := id U3
          have q : ∀ W, Sem.run Try.prog (Op.equalIn 10000 24 (.agg #[.int .u64 0, .int .u64 0, .int .u64 0, .int .u64 0]) (.agg #[.int .u64 0, .int .u64 0, .int .u64 0, .int .u64 0])) W = .ok true W := fun W => sameS St.zero St.zero W
          go_wp2
          go_ret
          exact ⟨rfl, hB⟩
        · skip
          have JW : Hid (∀ W, Calls Try.prog 13 #[.agg #[.int .u64 (a : Int), .int .u64 (b : Int), .int .u64 (c : Int), .int .u64 (d : Int)], .int .i64 many] W (fun e w' => e = .returned (.tuple #[.slice none 0 0, .agg #[.int .u64 0, .int .u64 0, .int .u64 0, .int .u64 0], .int .i64 1]) ∧ Below W.heap.size W w')) := Lib.hid (fun W => wordsArg ⟨a, b, c, d⟩ many hz (by omega) W)
          have J6 : Hid (∀ W, Calls Try.prog 12 #[.agg #[.int .u64 (a : Int), .int .u64 (b : Int), .int .u64 (c : Int), .int .u64 (d : Int)]] W (fun e w' => e = .returned (.bool true) ∧ Below W.heap.size W w')) := Lib.hid (fun W => by
            have := cRight ⟨a, b, c, d⟩ W
            rwa [decide_eq_false hz] at this)
          clear hz h1
          obtain ⟨x1, x2, x3, x4⟩ := id U1
          go_wp2_with fail
          clear x1 x2 x3 x4
          refine (JW.out _).mono ?_
          rintro e e1 ⟨rfl, hb⟩
          replace U1 := U1.below hb
          replace hB := below_then hB hb
          clear hb
          go_upto_region 15 with fail
          have U3 := C4.new e1 0 0 0 0 24
          have LB : Below e1.heap.size e1 (e1.alloc (.cells #[.int .u64 0, .int .u64 0, .int .u64 0, .int .u64 0] 24)) := below_alloc (Below.refl _ _) _
          replace U1 := U1.below LB
          replace hB := below_then hB LB
          clear LB
          generalize World.alloc _ _ = f1 at U1 U3 hB ⊢
          obtain ⟨x1, x2, x3, x4⟩ := id U1
          go_wp2_with fail
          clear x1 x2 x3 x4
          refine (JB.out _).mono ?_
          rintro e e3 ⟨rfl, hb⟩
          replace U1 := U1.below hb
          replace U3 := U3.below hb
          replace hB := below_then hB hb
          clear hb
          go_upto_region 18 with fail
          obtain ⟨x1, x2, x3, x4⟩ := id U1
          go_wp2_with fail
          clear x1 x2 x3 x4
          refine (J6.out _).mono ?_
          rintro e e4 ⟨rfl, hb⟩
          replace U1 := U1.below hb
          replace U3 := U3.below hb
          replace hB := below_then hB hb
          clear hb
          obtain ⟨z1, z2, z3, z4⟩ := id U3
          have q : ∀ W, Sem.run Try.prog (Op.equalIn 10000 24 (.agg #[.int .u64 0, .int .u64 0, .int .u64 0, .int .u64 0]) (.agg #[.int .u64 0, .int .u64 0, .int .u64 0, .int .u64 0])) W = .ok true W := fun W => sameS St.zero St.zero W
          go_wp2
          go_ret
          exact ⟨rfl, hB⟩
theorem xoshTells (s : St) (many : Int) (hs : s.Ok) (w : World) : Calls Try.prog 3 #[s.val, .int .i64 many] w (Bl true w) := tellsW s.a s.b s.c s.d many hs w
end Go.Proofs.Ythohgleklcoglaa
