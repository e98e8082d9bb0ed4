/-
  The walk of PhiloxApart, from what philox's calls answer. Made by wip/gen/phtells.py.
-/
import Derived.Test.YtfockbhicmdehaaPhTellsW
namespace Go.Proofs.Ytfockbhicmdehaa
open Go.RowKit
set_option linter.unusedVariables false
set_option maxRecDepth 100000

theorem same_iff (x y : Bk) : ((x.a : Int) == (y.a : Int) && ((x.b : Int) == (y.b : Int) && ((x.c : Int) == (y.c : Int) && (x.d : Int) == (y.d : Int)))) = true ↔ x = y := by
  simp only [Bool.and_eq_true, beq_iff_eq]
  constructor
  · rintro ⟨h1, h2, h3, h4⟩
    exact Bk.same (by omega) (by omega) (by omega) (by omega)
  · rintro rfl; exact ⟨rfl, rfl, rfl, rfl⟩
theorem sameB (x y : Bk) (e : Bool) (h : x = y ↔ e = true) (W : World) : Sem.run Try.prog (Op.equalIn 10000 24 (.agg #[.int .u32 (x.a : Int), .int .u32 (x.b : Int), .int .u32 (x.c : Int), .int .u32 (x.d : Int)]) (.agg #[.int .u32 (y.a : Int), .int .u32 (y.b : Int), .int .u32 (y.c : Int), .int .u32 (y.d : Int)])) W = .ok e W := by
  rw [eqB]
  have := same_iff x y
  generalize ((x.a : Int) == (y.a : Int) && ((x.b : Int) == (y.b : Int) && ((x.c : Int) == (y.c : Int) && (x.d : Int) == (y.d : Int)))) = z at this ⊢
  cases z <;> cases e <;> simp_all
set_option maxHeartbeats 8000000 in
theorem papartMain (aw : Hid (∀ W, Calls Try.prog 7 #[] W (Bl true W))) (a b o1 o2 r1 r2 : Bk) (k : Ky) (e : Bool) (w : World)
    (O1 : Hid (TB 12 #[.agg #[.int .u32 (a.a : Int), .int .u32 (a.b : Int), .int .u32 (a.c : Int), .int .u32 (a.d : Int)], .agg #[.int .u32 (k.k : Int), .int .u32 (k.m : Int)]] o1)) (O2 : Hid (TB 12 #[.agg #[.int .u32 (b.a : Int), .int .u32 (b.b : Int), .int .u32 (b.c : Int), .int .u32 (b.d : Int)], .agg #[.int .u32 (k.k : Int), .int .u32 (k.m : Int)]] o2)) (R1 : Hid (TB 8 #[.agg #[.int .u32 (a.a : Int), .int .u32 (a.b : Int), .int .u32 (a.c : Int), .int .u32 (a.d : Int)], .agg #[.int .u32 (k.k : Int), .int .u32 (k.m : Int)]] r1)) (R2 : Hid (TB 8 #[.agg #[.int .u32 (b.a : Int), .int .u32 (b.b : Int), .int .u32 (b.c : Int), .int .u32 (b.d : Int)], .agg #[.int .u32 (k.k : Int), .int .u32 (k.m : Int)]] r2))
    (E1 : Hid (∀ W : World, Sem.run Try.prog (Op.equalIn 10000 24 (.agg #[.int .u32 (a.a : Int), .int .u32 (a.b : Int), .int .u32 (a.c : Int), .int .u32 (a.d : Int)]) (.agg #[.int .u32 (b.a : Int), .int .u32 (b.b : Int), .int .u32 (b.c : Int), .int .u32 (b.d : Int)])) W = .ok e W)) (E2 : Hid (∀ W : World, Sem.run Try.prog (Op.equalIn 10000 24 (.agg #[.int .u32 (o1.a : Int), .int .u32 (o1.b : Int), .int .u32 (o1.c : Int), .int .u32 (o1.d : Int)]) (.agg #[.int .u32 (o2.a : Int), .int .u32 (o2.b : Int), .int .u32 (o2.c : Int), .int .u32 (o2.d : Int)])) W = .ok e W)) (E3 : Hid (∀ W : World, Sem.run Try.prog (Op.equalIn 10000 24 (.agg #[.int .u32 (r1.a : Int), .int .u32 (r1.b : Int), .int .u32 (r1.c : Int), .int .u32 (r1.d : Int)]) (.agg #[.int .u32 (r2.a : Int), .int .u32 (r2.b : Int), .int .u32 (r2.c : Int), .int .u32 (r2.d : Int)])) W = .ok e W)) :
    Calls Try.prog 5 #[.agg #[.int .u32 (a.a : Int), .int .u32 (a.b : Int), .int .u32 (a.c : Int), .int .u32 (a.d : Int)], .agg #[.int .u32 (b.a : Int), .int .u32 (b.b : Int), .int .u32 (b.c : Int), .int .u32 (b.d : Int)], .agg #[.int .u32 (k.k : Int), .int .u32 (k.m : Int)]] w (Bl true w) := by
  have hB : Below w.heap.size w w := Below.refl _ _
  go_enter Try.func5, Try.ntmps5
  go_wp2_with fail
  have Ua := B4.new 24 w (a.a : Int) (a.b : Int) (a.c : Int) (a.d : Int)
  have LB := below_allocs w (.cells #[.int .u32 (a.a : Int), .int .u32 (a.b : Int), .int .u32 (a.c : Int), .int .u32 (a.d : Int)] 24)
  replace hB := below_then hB LB
  clear LB
  have z1 : (w.alloc (.cells #[.int .u32 (a.a : Int), .int .u32 (a.b : Int), .int .u32 (a.c : Int), .int .u32 (a.d : Int)] 24)).heap.size = w.heap.size + 1 := Array.size_push _
  generalize w.alloc _ = V1 at Ua hB z1 ⊢
  have Ub := B4.new 24 V1 (b.a : Int) (b.b : Int) (b.c : Int) (b.d : Int)
  have LB := below_allocs V1 (.cells #[.int .u32 (b.a : Int), .int .u32 (b.b : Int), .int .u32 (b.c : Int), .int .u32 (b.d : Int)] 24)
  replace Ua := Ua.below LB
  replace hB := below_then hB LB
  clear LB
  have z2 : (V1.alloc (.cells #[.int .u32 (b.a : Int), .int .u32 (b.b : Int), .int .u32 (b.c : Int), .int .u32 (b.d : Int)] 24)).heap.size = w.heap.size + 2 := (Array.size_push _).trans (by rw [z1])
  rw [z1] at Ub
  generalize V1.alloc _ = V2 at Ua Ub hB z2 ⊢
  have Uk := B2.new 26 V2 (k.k : Int) (k.m : Int)
  have LB := below_allocs V2 (.cells #[.int .u32 (k.k : Int), .int .u32 (k.m : Int)] 26)
  replace Ua := Ua.below LB
  replace Ub := Ub.below LB
  replace hB := below_then hB LB
  clear LB
  have z3 : (V2.alloc (.cells #[.int .u32 (k.k : Int), .int .u32 (k.m : Int)] 26)).heap.size = w.heap.size + 3 := (Array.size_push _).trans (by rw [z2])
  rw [z2] at Uk
  generalize V2.alloc _ = V3 at Ua Ub Uk hB z3 ⊢
  clear z1 z2 z3
  generalize w.heap.size + 2 = ck at Uk ⊢
  generalize w.heap.size + 1 = cb at Ub ⊢
  obtain ⟨ca, hca⟩ : ∃ c, c = w.heap.size := ⟨_, rfl⟩
  rw [← hca] at Ua ⊢
  clear hca
  refine (aw.out _).mono ?_
  rintro e W0 ⟨rfl, hb⟩
  replace Ua := Ua.below hb
  replace Ub := Ub.below hb
  replace Uk := Uk.below hb
  replace hB := below_then hB hb
  clear hb
  clear aw
  go_wp2_with fail
  have HS := Lib.hid (And.intro Ua (And.intro Ub Uk))
  have HB := Lib.hid hB
  clear Ua Ub Uk hB
  cases e
  all_goals
    refine wp_region_class (fun w' => Below W0.heap.size W0 w') (by kernel_rfl) (by kernel_rfl) (Below.refl _ _).drew ?_
    iterate 25
      (refine WQ.yes ?_ (by rfl) (fun w' hC => ?_) ?_
       rotate_left
       · (obtain ⟨x0, x1, x2, x3⟩ := (HS.out.1.below hC).cells
          obtain ⟨u0, u1, u2, u3⟩ := (HS.out.2.1.below hC).cells
          obtain ⟨v0, v1⟩ := (HS.out.2.2.below hC).cells
          have q1 := E1.out w'
          have q2 := E2.out w'
          have q3 := E3.out w'
          go_simp
          first
            | done
            | with_reducible rfl
            | exact ⟨rfl, rfl⟩
            | (go_at_call 12; first | (with_reducible exact quiet4 (O1.out _) hC) | (with_reducible exact quiet4 (O2.out _) hC))
            | (go_at_call 8; first | (with_reducible exact quiet4 (R1.out _) hC) | (with_reducible exact quiet4 (R2.out _) hC)))
       (try simp only [Act.put, List.setIfInBounds_toArray, List.set_cons_zero, List.set_cons_succ]))
    refine WQ.nil ?_
    intro wz hX
    have hB := HB.out
    go_wp2
    go_ret
    exact ⟨rfl, below_then hB hX⟩
theorem philoxApart (X : HX) (aw : Hid (∀ W, Calls Try.prog 7 #[] W (Bl true W))) (a b : Bk) (k : Ky) (ha : a.Ok) (hb : b.Ok) (hk : k.Ok) (w : World) : Calls Try.prog 5 #[a.val, b.val, k.val] w (Bl true w) := by
  obtain ⟨e, he⟩ : ∃ e : Bool, a = b ↔ e = true := by
    by_cases h : a = b
    · exact ⟨true, by simp [h]⟩
    · exact ⟨false, by simp [h]⟩
  exact papartMain aw a b _ _ _ _ k e w (Lib.hid (X.out a k ha hk)) (Lib.hid (X.out b k hb hk)) (Lib.hid (X.round a k ha hk)) (Lib.hid (X.round b k hb hk)) (Lib.hid (sameB a b e he))
    (Lib.hid (sameB _ _ e (Iff.trans ⟨mix_inj ha hb hk 10, fun h => by rw [h]⟩ he))) (Lib.hid (sameB _ _ e (Iff.trans ⟨round_inj ha hb, fun h => by rw [h]⟩ he)))
end Go.Proofs.Ytfockbhicmdehaa
