/-
  The walk of PhiloxTells, from what philox's calls answer. Made by wip/gen/phtells.py.
-/
import Derived.Test.YtfockbhicmdehaaPhS
namespace Go.Proofs.Ytfockbhicmdehaa
open Go.RowKit
set_option linter.unusedVariables false
set_option maxRecDepth 100000

/-- Behind a region that tells a bool. -/
def CutG (W0 : World) (b : Bool) (v : Value) (wr : World) : Prop := v = .bool b ∧ Below W0.heap.size W0 wr
theorem CutG.of {W0 wr : World} {b : Bool} (h : Below W0.heap.size W0 wr) : CutG W0 b (.bool b) wr := ⟨rfl, h⟩
inductive PhWay (b : Bk) (k : Ky) (rounds : Int) : Prop where
  | no (hn : rounds < 0 ∨ 100 < rounds) (CM : Hid (T4E 14 #[.agg #[.int .u32 (b.a : Int), .int .u32 (b.b : Int), .int .u32 (b.c : Int), .int .u32 (b.d : Int)], .agg #[.int .u32 (k.k : Int), .int .u32 (k.m : Int)], .int .i64 rounds] 0 0 0 0 1)) (CU : Hid (T4E 15 #[.agg #[.int .u32 (b.a : Int), .int .u32 (b.b : Int), .int .u32 (b.c : Int), .int .u32 (b.d : Int)], .agg #[.int .u32 (k.k : Int), .int .u32 (k.m : Int)], .int .i64 rounds] 0 0 0 0 1))
  | yes (n : Nat) (h : n ≤ 100) (e : rounds = (n : Int)) (m u : Bk) (CM : Hid (TE 14 #[.agg #[.int .u32 (b.a : Int), .int .u32 (b.b : Int), .int .u32 (b.c : Int), .int .u32 (b.d : Int)], .agg #[.int .u32 (k.k : Int), .int .u32 (k.m : Int)], .int .i64 rounds] m 0)) (CU : Hid (TE 15 #[.agg #[.int .u32 (b.a : Int), .int .u32 (b.b : Int), .int .u32 (b.c : Int), .int .u32 (b.d : Int)], .agg #[.int .u32 (k.k : Int), .int .u32 (k.m : Int)], .int .i64 rounds] u 0))
      (RM : Hid (TB 13 #[.agg #[.int .u32 (b.a : Int), .int .u32 (b.b : Int), .int .u32 (b.c : Int), .int .u32 (b.d : Int)], .agg #[.int .u32 (k.k : Int), .int .u32 (k.m : Int)], .int .i64 rounds] m)) (RU : Hid (TB 13 #[.agg #[.int .u32 (u.a : Int), .int .u32 (u.b : Int), .int .u32 (u.c : Int), .int .u32 (u.d : Int)], .agg #[.int .u32 (k.k : Int), .int .u32 (k.m : Int)], .int .i64 rounds] b))
set_option maxHeartbeats 8000000 in
theorem ptellsMain (aw : Hid (∀ W, Calls Try.prog 7 #[] W (Bl true W))) (b r o : Bk) (k kn : Ky) (rounds : Int) (w : World)
    (C1 : Hid (TB 8 #[.agg #[.int .u32 (b.a : Int), .int .u32 (b.b : Int), .int .u32 (b.c : Int), .int .u32 (b.d : Int)], .agg #[.int .u32 (k.k : Int), .int .u32 (k.m : Int)]] r)) (R1 : Hid (TB 9 #[.agg #[.int .u32 (b.a : Int), .int .u32 (b.b : Int), .int .u32 (b.c : Int), .int .u32 (b.d : Int)], .agg #[.int .u32 (k.k : Int), .int .u32 (k.m : Int)]] r)) (C2 : Hid (TK 10 #[.agg #[.int .u32 (k.k : Int), .int .u32 (k.m : Int)]] kn)) (R2 : Hid (TK 11 #[.agg #[.int .u32 (k.k : Int), .int .u32 (k.m : Int)]] kn))
    (C3 : Hid (TB 12 #[.agg #[.int .u32 (b.a : Int), .int .u32 (b.b : Int), .int .u32 (b.c : Int), .int .u32 (b.d : Int)], .agg #[.int .u32 (k.k : Int), .int .u32 (k.m : Int)]] o)) (R3 : Hid (TB 13 #[.agg #[.int .u32 (b.a : Int), .int .u32 (b.b : Int), .int .u32 (b.c : Int), .int .u32 (b.d : Int)], .agg #[.int .u32 (k.k : Int), .int .u32 (k.m : Int)], .int .i64 10] o)) (way : Hid (PhWay b k rounds)) :
    Calls Try.prog 3 #[.agg #[.int .u32 (b.a : Int), .int .u32 (b.b : Int), .int .u32 (b.c : Int), .int .u32 (b.d : Int)], .agg #[.int .u32 (k.k : Int), .int .u32 (k.m : Int)], .int .i64 rounds] w (Bl true w) := by
  have hB : Below w.heap.size w w := Below.refl _ _
  go_enter Try.func3, Try.ntmps3
  go_wp2_with fail
  have Ub := B4.new 24 w (b.a : Int) (b.b : Int) (b.c : Int) (b.d : Int)
  have LB := below_allocs w (.cells #[.int .u32 (b.a : Int), .int .u32 (b.b : Int), .int .u32 (b.c : Int), .int .u32 (b.d : Int)] 24)
  replace hB := below_then hB LB
  clear LB
  have z1 : (w.alloc (.cells #[.int .u32 (b.a : Int), .int .u32 (b.b : Int), .int .u32 (b.c : Int), .int .u32 (b.d : Int)] 24)).heap.size = w.heap.size + 1 := Array.size_push _
  generalize w.alloc _ = V1 at Ub hB z1 ⊢
  have Uk := B2.new 26 V1 (k.k : Int) (k.m : Int)
  have LB := below_allocs V1 (.cells #[.int .u32 (k.k : Int), .int .u32 (k.m : Int)] 26)
  replace Ub := Ub.below LB
  replace hB := below_then hB LB
  clear LB
  have z2 : (V1.alloc (.cells #[.int .u32 (k.k : Int), .int .u32 (k.m : Int)] 26)).heap.size = w.heap.size + 2 := (Array.size_push _).trans (by rw [z1])
  rw [z1] at Uk
  generalize V1.alloc _ = V2 at Ub Uk hB z2 ⊢
  clear z1 z2
  generalize w.heap.size + 1 = ck at Uk ⊢
  obtain ⟨cb, hcb⟩ : ∃ c, c = w.heap.size := ⟨_, rfl⟩
  rw [← hcb] at Ub ⊢
  clear hcb
  refine (aw.out _).mono ?_
  rintro e W0 ⟨rfl, hb⟩
  replace Ub := Ub.below hb
  replace Uk := Uk.below hb
  replace hB := below_then hB hb
  clear hb
  clear aw
  go_wp2_with fail
  have HS := Lib.hid (And.intro Ub Uk)
  go_cut [35] (CutG W0 false)
  case first =>
    clear way
    refine wp_region_class (fun w' => Below W0.heap.size W0 w') (by kernel_rfl) (by kernel_rfl) (Below.refl _ _).drew ?_
    iterate 23
      (refine WQ.yes ?_ (by rfl) (fun w' hC => ?_) ?_
       rotate_left
       · (obtain ⟨x0, x1, x2, x3⟩ := (HS.out.1.below hC).cells
          obtain ⟨v0, v1⟩ := (HS.out.2.below hC).cells
          have q1 := eqA; have q2 := eqP; have q3 := eqB; have q4 := eqK
          go_simp
          first
            | done
            | with_reducible rfl
            | exact ⟨rfl, rfl⟩
            | (go_at_call 8; first | (with_reducible exact quiet4 (C1.out _) hC))
            | (go_at_call 9; first | (with_reducible exact quiet4 (R1.out _) hC))
            | (go_at_call 10; first | (with_reducible exact quiet2 (C2.out _) hC))
            | (go_at_call 11; first | (with_reducible exact quiet2 (R2.out _) hC))
            | (go_at_call 12; first | (with_reducible exact quiet4 (C3.out _) hC))
            | (go_at_call 13; first | (with_reducible exact quiet4 (R3.out _) hC)))
       (try simp only [Act.put, List.setIfInBounds_toArray, List.set_cons_zero, List.set_cons_succ]))
    refine WQ.nil ?_
    intro wz hX
    go_wp2
    go_meet
    exact CutG.of hX
  obtain ⟨rfl, hb⟩ := hcut
  replace Ub := Ub.below hb
  replace Uk := Uk.below hb
  replace hB := below_then hB hb
  clear hb HS C1 C2 C3 R1 R2 R3
  obtain ⟨Y0, hY0⟩ : ∃ x : World, x = wc := ⟨_, rfl⟩
  subst hY0
  rcases way.out with ⟨hn, CM, CU⟩ | ⟨k', hk', hn, m, u, CM, CU, RM, RU⟩
  · clear way
    obtain ⟨x0, x1, x2, x3⟩ := Ub.cells
    obtain ⟨v0, v1⟩ := Uk.cells
    go_wp2_with fail
    clear x0 x1 x2 x3 v0 v1
    refine (CM.out _).mono ?_
    rintro e e1 ⟨rfl, hb⟩
    replace Ub := Ub.below hb
    replace Uk := Uk.below hb
    replace hB := below_then hB hb
    clear hb
    go_upto_region 6 with fail
    have Um := B4.new 24 e1 0 0 0 0
    have LB := below_allocs e1 (.cells #[.int .u32 0, .int .u32 0, .int .u32 0, .int .u32 0] 24)
    replace Ub := Ub.below LB
    replace Uk := Uk.below LB
    replace hB := below_then hB LB
    clear LB
    generalize e1.alloc _ = Y1 at Ub Uk Um hB ⊢
    generalize e1.heap.size = cm at Um ⊢
    obtain ⟨x0, x1, x2, x3⟩ := Ub.cells
    obtain ⟨v0, v1⟩ := Uk.cells
    go_wp2_with fail
    clear x0 x1 x2 x3 v0 v1
    refine (CU.out _).mono ?_
    rintro e e2 ⟨rfl, hb⟩
    replace Ub := Ub.below hb
    replace Uk := Uk.below hb
    replace Um := Um.below hb
    replace hB := below_then hB hb
    clear hb
    go_upto_region 7 with fail
    have Uu := B4.new 24 e2 0 0 0 0
    have LB := below_allocs e2 (.cells #[.int .u32 0, .int .u32 0, .int .u32 0, .int .u32 0] 24)
    replace Ub := Ub.below LB
    replace Uk := Uk.below LB
    replace Um := Um.below LB
    replace hB := below_then hB LB
    clear LB
    generalize e2.alloc _ = Y2 at Ub Uk Um Uu hB ⊢
    generalize e2.heap.size = cu at Uu ⊢
    have q1 := eqA
    have q2 := eqP
    have q3 := eqB
    have q4 := eqK
    obtain ⟨m0, m1, m2, m3⟩ := Um.cells
    obtain ⟨u0, u1, u2, u3⟩ := Uu.cells
    rcases hn with hn | hn
    · go_wp2
      go_ret
      exact ⟨rfl, hB⟩
    · have h1 : ¬ rounds < 0 := by omega
      have h2 : rounds > 100 := by omega
      go_wp2
      go_ret
      exact ⟨rfl, hB⟩
  · clear way
    subst hn
    obtain ⟨x0, x1, x2, x3⟩ := Ub.cells
    obtain ⟨v0, v1⟩ := Uk.cells
    go_wp2_with fail
    clear x0 x1 x2 x3 v0 v1
    refine (CM.out _).mono ?_
    rintro e e1 ⟨rfl, hb⟩
    replace Ub := Ub.below hb
    replace Uk := Uk.below hb
    replace hB := below_then hB hb
    clear hb
    go_upto_region 6 with fail
    have Um := B4.new 24 e1 (m.a : Int) (m.b : Int) (m.c : Int) (m.d : Int)
    have LB := below_allocs e1 (.cells #[.int .u32 (m.a : Int), .int .u32 (m.b : Int), .int .u32 (m.c : Int), .int .u32 (m.d : Int)] 24)
    replace Ub := Ub.below LB
    replace Uk := Uk.below LB
    replace hB := below_then hB LB
    clear LB
    generalize e1.alloc _ = Y1 at Ub Uk Um hB ⊢
    generalize e1.heap.size = cm at Um ⊢
    obtain ⟨x0, x1, x2, x3⟩ := Ub.cells
    obtain ⟨v0, v1⟩ := Uk.cells
    go_wp2_with fail
    clear x0 x1 x2 x3 v0 v1
    refine (CU.out _).mono ?_
    rintro e e2 ⟨rfl, hb⟩
    replace Ub := Ub.below hb
    replace Uk := Uk.below hb
    replace Um := Um.below hb
    replace hB := below_then hB hb
    clear hb
    go_upto_region 7 with fail
    have Uu := B4.new 24 e2 (u.a : Int) (u.b : Int) (u.c : Int) (u.d : Int)
    have LB := below_allocs e2 (.cells #[.int .u32 (u.a : Int), .int .u32 (u.b : Int), .int .u32 (u.c : Int), .int .u32 (u.d : Int)] 24)
    replace Ub := Ub.below LB
    replace Uk := Uk.below LB
    replace Um := Um.below LB
    replace hB := below_then hB LB
    clear LB
    generalize e2.alloc _ = Y2 at Ub Uk Um Uu hB ⊢
    generalize e2.heap.size = cu at Uu ⊢
    have h1 : ¬ ((k' : Int) < 0) := by omega
    have h2 : ¬ ((k' : Int) > 100) := by omega
    go_wp2_with fail
    have HS := Lib.hid (And.intro (And.intro Ub Uk) (And.intro Um Uu))
    refine wp_region_class (fun w' => Below Y2.heap.size Y2 w') (by kernel_rfl) (by kernel_rfl) (Below.refl _ _).drew ?_
    iterate 24
      (refine WQ.yes ?_ (by rfl) (fun w' hC => ?_) ?_
       rotate_left
       · (obtain ⟨x0, x1, x2, x3⟩ := (HS.out.1.1.below hC).cells
          obtain ⟨v0, v1⟩ := (HS.out.1.2.below hC).cells
          obtain ⟨m0, m1, m2, m3⟩ := (HS.out.2.1.below hC).cells
          obtain ⟨u0, u1, u2, u3⟩ := (HS.out.2.2.below hC).cells
          have q1 := eqA; have q2 := eqP; have q3 := eqB; have q4 := eqK
          go_simp
          first
            | done
            | with_reducible rfl
            | exact ⟨rfl, rfl⟩
            | (go_at_call 13; first | (with_reducible exact quiet4 (RM.out _) hC) | (with_reducible exact quiet4 (RU.out _) hC)))
       (try simp only [Act.put, List.setIfInBounds_toArray, List.set_cons_zero, List.set_cons_succ]))
    refine WQ.nil ?_
    intro wz hX
    go_wp2
    go_ret
    exact ⟨rfl, below_then hB hX⟩
theorem philoxTells (X : HX) (aw : Hid (∀ W, Calls Try.prog 7 #[] W (Bl true W))) (b : Bk) (k : Ky) (hb : b.Ok) (hk : k.Ok) (rounds : Int) (w : World) : Calls Try.prog 3 #[b.val, k.val, .int .i64 rounds] w (Bl true w) := by
  refine ptellsMain aw b _ _ k _ rounds w (Lib.hid (X.round b k hb hk)) (Lib.hid (rRound b k hb hk)) (Lib.hid (X.next k hk)) (Lib.hid (rNext k hk)) (Lib.hid (X.out b k hb hk)) (Lib.hid (rMix b k hb hk 10 (by decide))) (Lib.hid ?_)
  by_cases h : rounds < 0 ∨ 100 < rounds
  · exact .no h (Lib.hid (X.mixN b k rounds hb hk h)) (Lib.hid (X.unmixN b k rounds hb hk h))
  · obtain ⟨n, rfl⟩ := Int.eq_ofNat_of_zero_le (show 0 ≤ rounds by omega)
    have hn : n ≤ 100 := by omega
    have RU := rMix (unmixB b k n) k (unmixB_ok hk n hb) hk n (by omega)
    rw [mix_unmix hk n hb] at RU
    exact .yes n hn rfl _ _ (Lib.hid (X.mixY b k n hb hk hn)) (Lib.hid (X.unmixY b k n hb hk hn)) (Lib.hid (rMix b k hb hk n (by omega))) (Lib.hid RU)
end Go.Proofs.Ytfockbhicmdehaa
