/-
  The walk of PhiloxBack, from what philox's calls answer. Made by wip/gen/phtells.py.
-/
import Derived.Test.YtfockbhicmdehaaPhTellsW
namespace Go.Proofs.Ytfockbhicmdehaa
open Go.RowKit
set_option linter.unusedVariables false
set_option maxRecDepth 100000

inductive BackWay (b : Bk) (k : Ky) (n : Nat) : Prop where
  | no (hn : 100 < n)
  | yes (hn : n ≤ 100) (m u r v : Bk) (CM : Hid (TE 14 #[.agg #[.int .u32 (b.a : Int), .int .u32 (b.b : Int), .int .u32 (b.c : Int), .int .u32 (b.d : Int)], .agg #[.int .u32 (k.k : Int), .int .u32 (k.m : Int)], .int .i64 (n : Int)] m 0)) (CU : Hid (TE 15 #[.agg #[.int .u32 (m.a : Int), .int .u32 (m.b : Int), .int .u32 (m.c : Int), .int .u32 (m.d : Int)], .agg #[.int .u32 (k.k : Int), .int .u32 (k.m : Int)], .int .i64 (n : Int)] b 0))
      (CV : Hid (TE 15 #[.agg #[.int .u32 (b.a : Int), .int .u32 (b.b : Int), .int .u32 (b.c : Int), .int .u32 (b.d : Int)], .agg #[.int .u32 (k.k : Int), .int .u32 (k.m : Int)], .int .i64 (n : Int)] u 0)) (CW : Hid (TE 14 #[.agg #[.int .u32 (u.a : Int), .int .u32 (u.b : Int), .int .u32 (u.c : Int), .int .u32 (u.d : Int)], .agg #[.int .u32 (k.k : Int), .int .u32 (k.m : Int)], .int .i64 (n : Int)] b 0))
      (C1 : Hid (TB 8 #[.agg #[.int .u32 (b.a : Int), .int .u32 (b.b : Int), .int .u32 (b.c : Int), .int .u32 (b.d : Int)], .agg #[.int .u32 (k.k : Int), .int .u32 (k.m : Int)]] r)) (C2 : Hid (TB 16 #[.agg #[.int .u32 (r.a : Int), .int .u32 (r.b : Int), .int .u32 (r.c : Int), .int .u32 (r.d : Int)], .agg #[.int .u32 (k.k : Int), .int .u32 (k.m : Int)]] b)) (D1 : Hid (TB 16 #[.agg #[.int .u32 (b.a : Int), .int .u32 (b.b : Int), .int .u32 (b.c : Int), .int .u32 (b.d : Int)], .agg #[.int .u32 (k.k : Int), .int .u32 (k.m : Int)]] v)) (D2 : Hid (TB 8 #[.agg #[.int .u32 (v.a : Int), .int .u32 (v.b : Int), .int .u32 (v.c : Int), .int .u32 (v.d : Int)], .agg #[.int .u32 (k.k : Int), .int .u32 (k.m : Int)]] b))
set_option maxHeartbeats 8000000 in
theorem pbackMain (aw : Hid (∀ W, Calls Try.prog 7 #[] W (Bl true W))) (b : Bk) (k : Ky) (n : Nat) (hn : n < 256) (w : World) (way : Hid (BackWay b k n)) :
    Calls Try.prog 4 #[.agg #[.int .u32 (b.a : Int), .int .u32 (b.b : Int), .int .u32 (b.c : Int), .int .u32 (b.d : Int)], .agg #[.int .u32 (k.k : Int), .int .u32 (k.m : Int)], .int .u8 (n : Int)] w (Bl true w) := by
  have hB : Below w.heap.size w w := Below.refl _ _
  go_enter Try.func4, Try.ntmps4
  go_wp2_with fail
  have Ub := B4.new 24 w (b.a : Int) (b.b : Int) (b.c : Int) (b.d : Int)
  have LB := below_allocs w (.cells #[.int .u32 (b.a : Int), .int .u32 (b.b : Int), .int .u32 (b.c : Int), .int .u32 (b.d : Int)] 24)
  replace hB := below_then hB LB
  clear LB
  have z1 : (w.alloc (.cells #[.int .u32 (b.a : Int), .int .u32 (b.b : Int), .int .u32 (b.c : Int), .int .u32 (b.d : Int)] 24)).heap.size = w.heap.size + 1 := Array.size_push _
  generalize w.alloc _ = V1 at Ub hB z1 ⊢
  have Uk := B2.new 26 V1 (k.k : Int) (k.m : Int)
  have LB := below_allocs V1 (.cells #[.int .u32 (k.k : Int), .int .u32 (k.m : Int)] 26)
  replace Ub := Ub.below LB
  replace hB := below_then hB LB
  clear LB
  have z2 : (V1.alloc (.cells #[.int .u32 (k.k : Int), .int .u32 (k.m : Int)] 26)).heap.size = w.heap.size + 2 := (Array.size_push _).trans (by rw [z1])
  rw [z1] at Uk
  generalize V1.alloc _ = V2 at Ub Uk hB z2 ⊢
  clear z1 z2
  generalize w.heap.size + 1 = ck at Uk ⊢
  obtain ⟨cb, hcb⟩ : ∃ c, c = w.heap.size := ⟨_, rfl⟩
  rw [← hcb] at Ub ⊢
  clear hcb
  refine (aw.out _).mono ?_
  rintro e W0 ⟨rfl, hb⟩
  replace Ub := Ub.below hb
  replace Uk := Uk.below hb
  replace hB := below_then hB hb
  clear hb
  clear aw
  have wn : IntKind.i64.wrap (n : Int) = (n : Int) := by rw [IntKind.wrap_i64]; omega
  rcases way.out with ⟨hn⟩ | ⟨hn, m, u, r, v, CM, CU, CV, CW, C1, C2, D1, D2⟩
  · have h1 : (n : Int) > 100 := by omega
    go_wp2
    go_ret
    exact ⟨rfl, hB⟩
  · have h1 : ¬ ((n : Int) > 100) := by omega
    clear way
    obtain ⟨x0, x1, x2, x3⟩ := Ub.cells
    obtain ⟨v0, v1⟩ := Uk.cells
    go_wp2_with fail
    clear x0 x1 x2 x3 v0 v1
    refine (CM.out _).mono ?_
    rintro e e1 ⟨rfl, hb⟩
    replace Ub := Ub.below hb
    replace Uk := Uk.below hb
    replace hB := below_then hB hb
    clear hb
    go_upto_region 6 with fail
    have Um := B4.new 24 e1 (m.a : Int) (m.b : Int) (m.c : Int) (m.d : Int)
    have LB := below_allocs e1 (.cells #[.int .u32 (m.a : Int), .int .u32 (m.b : Int), .int .u32 (m.c : Int), .int .u32 (m.d : Int)] 24)
    replace Ub := Ub.below LB
    replace Uk := Uk.below LB
    replace hB := below_then hB LB
    clear LB
    generalize e1.alloc _ = Y1 at Ub Uk Um hB ⊢
    generalize e1.heap.size = cm at Um ⊢
    obtain ⟨x0, x1, x2, x3⟩ := Um.cells
    obtain ⟨v0, v1⟩ := Uk.cells
    go_wp2_with fail
    clear x0 x1 x2 x3 v0 v1
    refine (CU.out _).mono ?_
    rintro e e2 ⟨rfl, hb⟩
    replace Ub := Ub.below hb
    replace Uk := Uk.below hb
    replace Um := Um.below hb
    replace hB := below_then hB hb
    clear hb
    go_upto_region 7 with fail
    have Uu := B4.new 24 e2 (b.a : Int) (b.b : Int) (b.c : Int) (b.d : Int)
    have LB := below_allocs e2 (.cells #[.int .u32 (b.a : Int), .int .u32 (b.b : Int), .int .u32 (b.c : Int), .int .u32 (b.d : Int)] 24)
    replace Ub := Ub.below LB
    replace Uk := Uk.below LB
    replace Um := Um.below LB
    replace hB := below_then hB LB
    clear LB
    generalize e2.alloc _ = Y2 at Ub Uk Um Uu hB ⊢
    generalize e2.heap.size = cu at Uu ⊢
    obtain ⟨x0, x1, x2, x3⟩ := Ub.cells
    obtain ⟨v0, v1⟩ := Uk.cells
    go_wp2_with fail
    clear x0 x1 x2 x3 v0 v1
    refine (CV.out _).mono ?_
    rintro e e3 ⟨rfl, hb⟩
    replace Ub := Ub.below hb
    replace Uk := Uk.below hb
    replace Um := Um.below hb
    replace Uu := Uu.below hb
    replace hB := below_then hB hb
    clear hb
    go_upto_region 8 with fail
    have Un := B4.new 24 e3 (u.a : Int) (u.b : Int) (u.c : Int) (u.d : Int)
    have LB := below_allocs e3 (.cells #[.int .u32 (u.a : Int), .int .u32 (u.b : Int), .int .u32 (u.c : Int), .int .u32 (u.d : Int)] 24)
    replace Ub := Ub.below LB
    replace Uk := Uk.below LB
    replace Um := Um.below LB
    replace Uu := Uu.below LB
    replace hB := below_then hB LB
    clear LB
    generalize e3.alloc _ = Y3 at Ub Uk Um Uu Un hB ⊢
    generalize e3.heap.size = cn at Un ⊢
    obtain ⟨x0, x1, x2, x3⟩ := Un.cells
    obtain ⟨v0, v1⟩ := Uk.cells
    go_wp2_with fail
    clear x0 x1 x2 x3 v0 v1
    refine (CW.out _).mono ?_
    rintro e e4 ⟨rfl, hb⟩
    replace Ub := Ub.below hb
    replace Uk := Uk.below hb
    replace Um := Um.below hb
    replace Uu := Uu.below hb
    replace Un := Un.below hb
    replace hB := below_then hB hb
    clear hb
    go_upto_region 9 with fail
    have Uv := B4.new 24 e4 (b.a : Int) (b.b : Int) (b.c : Int) (b.d : Int)
    have LB := below_allocs e4 (.cells #[.int .u32 (b.a : Int), .int .u32 (b.b : Int), .int .u32 (b.c : Int), .int .u32 (b.d : Int)] 24)
    replace Ub := Ub.below LB
    replace Uk := Uk.below LB
    replace Um := Um.below LB
    replace Uu := Uu.below LB
    replace Un := Un.below LB
    replace hB := below_then hB LB
    clear LB
    generalize e4.alloc _ = Y4 at Ub Uk Um Uu Un Uv hB ⊢
    generalize e4.heap.size = cv at Uv ⊢
    have HS := Lib.hid (And.intro (And.intro Ub Uk) (And.intro Uu Uv))
    clear Um Un
    refine wp_region_class (fun w' => Below Y4.heap.size Y4 w') (by kernel_rfl) (by kernel_rfl) (Below.refl _ _).drew ?_
    iterate 43
      (refine WQ.yes ?_ (by rfl) (fun w' hC => ?_) ?_
       rotate_left
       · (obtain ⟨x0, x1, x2, x3⟩ := (HS.out.1.1.below hC).cells
          obtain ⟨v0, v1⟩ := (HS.out.1.2.below hC).cells
          obtain ⟨m0, m1, m2, m3⟩ := (HS.out.2.1.below hC).cells
          obtain ⟨u0, u1, u2, u3⟩ := (HS.out.2.2.below hC).cells
          have q1 := eqA; have q2 := eqP; have q3 := eqB; have q4 := eqK
          go_simp
          first
            | done
            | with_reducible rfl
            | exact ⟨rfl, rfl⟩
            | (go_at_call 8; first | (with_reducible exact quiet4 (C1.out _) hC) | (with_reducible exact quiet4 (D2.out _) hC))
            | (go_at_call 16; first | (with_reducible exact quiet4 (C2.out _) hC) | (with_reducible exact quiet4 (D1.out _) hC)))
       (try simp only [Act.put, List.setIfInBounds_toArray, List.set_cons_zero, List.set_cons_succ]))
    refine WQ.nil ?_
    intro wz hX
    go_wp2
    go_ret
    exact ⟨rfl, below_then hB hX⟩
theorem philoxBack (X : HX) (aw : Hid (∀ W, Calls Try.prog 7 #[] W (Bl true W))) (b : Bk) (k : Ky) (hb : b.Ok) (hk : k.Ok) (n : Nat) (hn : n < 256) (w : World) : Calls Try.prog 4 #[b.val, k.val, .int .u8 (n : Int)] w (Bl true w) := by
  refine pbackMain aw b k n hn w (Lib.hid ?_)
  by_cases h : n ≤ 100
  · have CU := X.unmixY (mixB b k n) k n (mixB_ok hb hk n) hk h
    rw [unmix_mix hb hk n] at CU
    have CW := X.mixY (unmixB b k n) k n (unmixB_ok hk n hb) hk h
    rw [mix_unmix hk n hb] at CW
    have C2 := X.unround (roundB b k) k (roundB_ok hb hk) hk
    rw [unround_round hb k] at C2
    have D2 := X.round (unroundB b k) k (unroundB_ok hb hk) hk
    rw [round_unround hb k] at D2
    exact .yes h _ _ _ _ (Lib.hid (X.mixY b k n hb hk h)) (Lib.hid CU) (Lib.hid (X.unmixY b k n hb hk h)) (Lib.hid CW) (Lib.hid (X.round b k hb hk)) (Lib.hid C2) (Lib.hid (X.unround b k hb hk)) (Lib.hid D2)
  · exact .no (by omega)
end Go.Proofs.Ytfockbhicmdehaa
