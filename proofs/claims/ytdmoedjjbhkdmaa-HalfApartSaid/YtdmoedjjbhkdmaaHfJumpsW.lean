/-
  The walk of HalfJumps, from what half's calls answer. Made by wip/gen/hfw.py.
-/
import Derived.Test.YtdmoedjjbhkdmaaHfStepsW
namespace Go.Proofs.Ytdmoedjjbhkdmaa
open Go.RowKit G
set_option linter.unusedVariables false
set_option maxRecDepth 100000

inductive JumpWay (y : Hw) (hn ln hm lm sh sl : Int) (over : Bool) : Prop where
  | over (e : over = true)
  | fits (e : over = false) (u v : Hw) (J1 : Hid (TH 16 #[y.val, .agg #[.int .u64 hn, .int .u64 ln]] u)) (J2 : Hid (TH 16 #[u.val, .agg #[.int .u64 hm, .int .u64 lm]] v)) (J3 : Hid (TH 16 #[y.val, .agg #[.int .u64 sh, .int .u64 sl]] v))
set_option maxHeartbeats 16000000 in
theorem pjumpsMain (aw : Hid (∀ W, Calls Try.prog 8 #[] W (Bl true W))) (y z : Hw) (hn ln hm lm sh sl : Int) (over : Bool) (w : World) (A : Hid (TNB 24 #[.agg #[.int .u64 hn, .int .u64 ln], .agg #[.int .u64 hm, .int .u64 lm]] sh sl over))
    (OF : Hid (TN 20 #[.int .u64 1] 0 1)) (C1 : Hid (TH 15 #[y.val] z)) (K1 : Hid (TH 16 #[y.val, .agg #[.int .u64 0, .int .u64 1]] z)) (K0 : Hid (TH 16 #[y.val, .agg #[.int .u64 0, .int .u64 0]] y))
    (way : Hid (JumpWay y hn ln hm lm sh sl over)) :
    Calls Try.prog 6 #[y.val, .agg #[.int .u64 hn, .int .u64 ln], .agg #[.int .u64 hm, .int .u64 lm]] w (Bl true w) := by
  have hB : Below w.heap.size w w := Below.refl _ _
  go_enter Try.func6, Try.ntmps6
  go_wp2_with fail
  have Uy := K5.new 29 w y
  have LB := below_allocs w (.cells #[.int .u64 y.h, .int .u64 y.l, .int .u32 y.k, .int .u32 y.m, .bool y.s] 29)
  replace hB := below_then hB LB
  clear LB
  have z1 : (w.alloc (.cells #[.int .u64 y.h, .int .u64 y.l, .int .u32 y.k, .int .u32 y.m, .bool y.s] 29)).heap.size = w.heap.size + 1 := Array.size_push _
  generalize w.alloc _ = V1 at Uy hB z1 ⊢
  have Un := CU.new V1 hn ln 24
  have LB := below_allocs V1 (.cells #[.int .u64 hn, .int .u64 ln] 24)
  replace Uy := Uy.below LB
  replace hB := below_then hB LB
  clear LB
  have z2 : (V1.alloc (.cells #[.int .u64 hn, .int .u64 ln] 24)).heap.size = w.heap.size + 2 := (Array.size_push _).trans (by rw [z1])
  rw [z1] at Un
  generalize V1.alloc _ = V2 at Uy Un hB z2 ⊢
  have Um := CU.new V2 hm lm 24
  have LB := below_allocs V2 (.cells #[.int .u64 hm, .int .u64 lm] 24)
  replace Uy := Uy.below LB
  replace Un := Un.below LB
  replace hB := below_then hB LB
  clear LB
  have z3 : (V2.alloc (.cells #[.int .u64 hm, .int .u64 lm] 24)).heap.size = w.heap.size + 3 := (Array.size_push _).trans (by rw [z2])
  rw [z2] at Um
  generalize V2.alloc _ = V3 at Uy Un Um hB z3 ⊢
  clear z1 z2 z3
  generalize w.heap.size + 2 = cm at Um ⊢
  generalize w.heap.size + 1 = cn at Un ⊢
  obtain ⟨cy, hcy⟩ : ∃ c, c = w.heap.size := ⟨_, rfl⟩
  rw [← hcy] at Uy ⊢
  clear hcy
  refine (aw.out _).mono ?_
  rintro e W0 ⟨rfl, hb⟩
  replace Uy := Uy.below hb
  replace Un := Un.below hb
  replace Um := Um.below hb
  replace hB := below_then hB hb
  clear hb
  clear aw
  obtain ⟨a0, a1⟩ := Un.c
  obtain ⟨b0, b1⟩ := Um.c
  go_wp2_with fail
  clear a0 a1 b0 b1
  refine (A.out _).mono ?_
  rintro e e1 ⟨rfl, hb⟩
  replace Uy := Uy.below hb
  replace Un := Un.below hb
  replace Um := Um.below hb
  replace hB := below_then hB hb
  clear hb
  have Us := CU.new e1 sh sl 24
  have LB := below_allocs e1 (.cells #[.int .u64 sh, .int .u64 sl] 24)
  replace Uy := Uy.below LB
  replace Un := Un.below LB
  replace Um := Um.below LB
  replace hB := below_then hB LB
  clear LB A
  go_upto_region 4 with fail
  generalize e1.alloc _ = Y1 at Uy Un Um Us hB ⊢
  generalize e1.heap.size = cs at Us ⊢
  have HS := Lib.hid (And.intro Uy (And.intro Un (And.intro Um Us)))
  rcases way.out with ⟨rfl⟩ | ⟨rfl, u, v, J1, J2, J3⟩
  · clear way
    refine wp_region_class (fun w' => Below Y1.heap.size Y1 w') (by kernel_rfl) (by kernel_rfl) (Below.refl _ _).drew ?_
    iterate 2
      (refine WQ.yes ?_ (by rfl) (fun w' hC => ?_) ?_
       rotate_left
       · (obtain ⟨x0, x1, x2, x3, x4⟩ := (HS.out.1.below hC).cells
          obtain ⟨a0, a1⟩ := (HS.out.2.1.below hC).c
          obtain ⟨b0, b1⟩ := (HS.out.2.2.1.below hC).c
          obtain ⟨d0, d1⟩ := (HS.out.2.2.2.below hC).c
          have q1 := qK; have q2 := qP; have q3 := eqB
          go_simp
          first
            | done
            | with_reducible rfl
            | exact ⟨rfl, rfl⟩
            | (go_at_call 20; first | (with_reducible exact quietA (OF.out _) hC))
            | (go_at_call 15; first | (with_reducible exact quietH (C1.out _) hC))
            | (go_at_call 16; first | (with_reducible exact quietH (K1.out _) hC) | (with_reducible exact quietH (K0.out _) hC)))
       (try simp only [Act.put, List.setIfInBounds_toArray, List.set_cons_zero, List.set_cons_succ]))
    iterate 9
      (refine WQ.no (by rfl) ?_
       (try simp only [Act.put, List.setIfInBounds_toArray, List.set_cons_zero, List.set_cons_succ]))
    iterate 17
      (refine WQ.yes ?_ (by rfl) (fun w' hC => ?_) ?_
       rotate_left
       · (obtain ⟨x0, x1, x2, x3, x4⟩ := (HS.out.1.below hC).cells
          obtain ⟨a0, a1⟩ := (HS.out.2.1.below hC).c
          obtain ⟨b0, b1⟩ := (HS.out.2.2.1.below hC).c
          obtain ⟨d0, d1⟩ := (HS.out.2.2.2.below hC).c
          have q1 := qK; have q2 := qP; have q3 := eqB
          go_simp
          first
            | done
            | with_reducible rfl
            | exact ⟨rfl, rfl⟩
            | (go_at_call 20; first | (with_reducible exact quietA (OF.out _) hC))
            | (go_at_call 15; first | (with_reducible exact quietH (C1.out _) hC))
            | (go_at_call 16; first | (with_reducible exact quietH (K1.out _) hC) | (with_reducible exact quietH (K0.out _) hC)))
       (try simp only [Act.put, List.setIfInBounds_toArray, List.set_cons_zero, List.set_cons_succ]))
    refine WQ.nil ?_
    intro wz hX
    go_wp2
    go_ret
    exact ⟨rfl, below_then hB hX⟩
  · clear way
    refine wp_region_class (fun w' => Below Y1.heap.size Y1 w') (by kernel_rfl) (by kernel_rfl) (Below.refl _ _).drew ?_
    iterate 28
      (refine WQ.yes ?_ (by rfl) (fun w' hC => ?_) ?_
       rotate_left
       · (obtain ⟨x0, x1, x2, x3, x4⟩ := (HS.out.1.below hC).cells
          obtain ⟨a0, a1⟩ := (HS.out.2.1.below hC).c
          obtain ⟨b0, b1⟩ := (HS.out.2.2.1.below hC).c
          obtain ⟨d0, d1⟩ := (HS.out.2.2.2.below hC).c
          have q1 := qK; have q2 := qP; have q3 := eqB
          go_simp
          first
            | done
            | with_reducible rfl
            | exact ⟨rfl, rfl⟩
            | (go_at_call 20; first | (with_reducible exact quietA (OF.out _) hC))
            | (go_at_call 15; first | (with_reducible exact quietH (C1.out _) hC))
            | (go_at_call 16; first | (with_reducible exact quietH (J1.out _) hC) | (with_reducible exact quietH (J2.out _) hC) | (with_reducible exact quietH (J3.out _) hC) | (with_reducible exact quietH (K1.out _) hC) | (with_reducible exact quietH (K0.out _) hC)))
       (try simp only [Act.put, List.setIfInBounds_toArray, List.set_cons_zero, List.set_cons_succ]))
    refine WQ.nil ?_
    intro wz hX
    go_wp2
    go_ret
    exact ⟨rfl, below_then hB hX⟩
theorem halfJumps (X : HF) (aw : Hid (∀ W, Calls Try.prog 8 #[] W (Bl true W))) (x : Hs) (n m : Nat) (hx : x.Ok) (hn : n < 340282366920938463463374607431768211456) (hm : m < 340282366920938463463374607431768211456) (w : World) : Calls Try.prog 6 #[x.val, U n, U m] w (Bl true w) := by
  have K1 := X.jump x 1 hx (by decide)
  rw [u_small (by decide), jumpH_one hx] at K1
  have K0 := X.jump x 0 hx (by decide)
  rw [u_small (by decide), jumpH_zero hx] at K0
  refine pjumpsMain aw x.w (stepH x).w _ _ _ _ _ _ _ w (Lib.hid (cAddU hn hm)) (Lib.hid (of_small (n := 1) (by decide))) (Lib.hid (X.step x hx)) (Lib.hid K1) (Lib.hid K0) (Lib.hid ?_)
  by_cases h : 340282366920938463463374607431768211456 ≤ n + m
  · exact .over (decide_eq_true h)
  · have J2 := X.jump (jumpH x n) m (jumpH_ok hx n) hm
    rw [jumpH_add] at J2
    have J3 := X.jump x (n + m) hx (by omega)
    rw [Nat.mod_eq_of_lt (by omega)]
    exact .fits (decide_eq_false h) (jumpH x n).w (jumpH x (n + m)).w (Lib.hid (X.jump x n hx hn)) (Lib.hid J2) (Lib.hid J3)
end Go.Proofs.Ytdmoedjjbhkdmaa
