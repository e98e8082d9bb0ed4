/-
  The walk of AffineBack, from what affine's calls answer.
-/
import Derived.Test.YtfnfjfmkhnofkaaAffThenW
import Derived.Deep.DeepCutAuto
namespace Go.Proofs.Ytfnfjfmkhnofkaa
open Go.RowKit G
set_option linter.unusedVariables false
set_option maxRecDepth 100000

/-- A call that tells a map, or a number, and an error's number: its words named. -/
abbrev TME (f : FuncId) (args : Array Value) (p q r s k : Int) : Prop := ∀ W : World, Calls Try.prog f args W (fun e w' => e = .returned (.tuple #[.agg #[.int .u64 p, .int .u64 q, .int .u64 r, .int .u64 s], .int .i64 k]) ∧ Below W.heap.size W w')
abbrev TNE (f : FuncId) (args : Array Value) (h l k : Int) : Prop := ∀ W : World, Calls Try.prog f args W (fun e w' => e = .returned (.tuple #[.agg #[.int .u64 h, .int .u64 l], .int .i64 k]) ∧ Below W.heap.size W w')
/-- The two ways: A is even; A is odd. -/
inductive BackWay (a0 a1 a2 a3 h l i0 i1 i2 i3 o0 o1 k b : Int) : Prop where
  | even (ek : k = 1) (eb : b = 0) (ei : i0 = 0 ∧ i1 = 0 ∧ i2 = 0 ∧ i3 = 0) (eo : o0 = 0 ∧ o1 = 0)
  | odd (ek : k = 0) (eb : b = 1) (y0 y1 z0 z1 : Int)
      (P1 : Hid (TN 13 #[.agg #[.int .u64 a0, .int .u64 a1, .int .u64 a2, .int .u64 a3], .agg #[.int .u64 h, .int .u64 l]] y0 y1))
      (P2 : Hid (TN 13 #[.agg #[.int .u64 i0, .int .u64 i1, .int .u64 i2, .int .u64 i3], .agg #[.int .u64 y0, .int .u64 y1]] h l))
      (P3 : Hid (TN 13 #[.agg #[.int .u64 i0, .int .u64 i1, .int .u64 i2, .int .u64 i3], .agg #[.int .u64 h, .int .u64 l]] z0 z1))
      (P4 : Hid (TN 13 #[.agg #[.int .u64 a0, .int .u64 a1, .int .u64 a2, .int .u64 a3], .agg #[.int .u64 z0, .int .u64 z1]] h l))
      (M : Hid (TN 23 #[.agg #[.int .u64 o0, .int .u64 o1], .agg #[.int .u64 a0, .int .u64 a1]] 0 1))
      (T : Hid (TM 15 #[.agg #[.int .u64 a0, .int .u64 a1, .int .u64 a2, .int .u64 a3], .agg #[.int .u64 i0, .int .u64 i1, .int .u64 i2, .int .u64 i3]] 0 1 0 0))
set_option maxHeartbeats 8000000 in
theorem backMain (aw : Hid (∀ W, Calls Try.prog 7 #[] W (Bl true W))) (a0 a1 a2 a3 h l i0 i1 i2 i3 o0 o1 k b : Int) (w : World)
    (CI : Hid (TME 10 #[.agg #[.int .u64 a0, .int .u64 a1, .int .u64 a2, .int .u64 a3]] i0 i1 i2 i3 k))
    (CO : Hid (TNE 8 #[.agg #[.int .u64 a0, .int .u64 a1]] o0 o1 k))
    (CB : Hid (∀ W : World, Calls Try.prog 22 #[.agg #[.int .u64 a0, .int .u64 a1], .int .i64 0] W (fun e w' => e = .returned (.int .i64 b) ∧ Below W.heap.size W w')))
    (C1 : Hid (TN 21 #[.int .u64 1] 0 1))
    (O : Hid (TM 18 #[] 0 1 0 0))
    (hw : Hid (BackWay a0 a1 a2 a3 h l i0 i1 i2 i3 o0 o1 k b)) :
    Calls Try.prog 6 #[.agg #[.int .u64 a0, .int .u64 a1, .int .u64 a2, .int .u64 a3], .agg #[.int .u64 h, .int .u64 l]] w (Bl true w) := by
  have hB : Below w.heap.size w w := Below.refl _ _
  go_enter Try.func6, Try.ntmps6
  go_wp2_with fail
  have UA := F4.new w a0 a1 a2 a3 26
  have s1 : (w.alloc (.cells #[.int .u64 a0, .int .u64 a1, .int .u64 a2, .int .u64 a3] 26)).heap.size = w.heap.size + 1 := Array.size_push _
  replace hB := below_alloc hB (.cells #[.int .u64 a0, .int .u64 a1, .int .u64 a2, .int .u64 a3] 26)
  generalize w.alloc _ = V1 at UA hB s1 ⊢
  have UX := CU.new V1 h l 24
  rw [s1] at UX
  have LB := below_allocs V1 (.cells #[.int .u64 h, .int .u64 l] 24)
  replace UA := UA.below LB
  replace hB := below_then hB LB
  clear LB s1
  generalize V1.alloc _ = V2 at UA UX hB ⊢
  generalize w.heap.size + 1 = cx at UX ⊢
  refine (aw.out _).mono ?_
  rintro e W0 ⟨rfl, hb⟩
  replace UA := UA.below hb
  replace UX := UX.below hb
  replace hB := below_then hB hb
  clear hb aw
  obtain ⟨k1, k2, k3, k4⟩ := UA
  have UA := F4.mk k1 k2 k3 k4
  go_wp2_with fail
  clear k1 k2 k3 k4
  refine (CI.out _).mono ?_
  rintro e W1 ⟨rfl, hb⟩
  replace UA := UA.below hb
  replace UX := UX.below hb
  replace hB := below_then hB hb
  clear hb CI
  go_upto_region 4 with fail
  have UI := F4.new W1 i0 i1 i2 i3 26
  have LB := below_allocs W1 (.cells #[.int .u64 i0, .int .u64 i1, .int .u64 i2, .int .u64 i3] 26)
  replace UA := UA.below LB
  replace UX := UX.below LB
  replace hB := below_then hB LB
  clear LB
  generalize W1.alloc _ = V3 at UA UX UI hB ⊢
  generalize W1.heap.size = ci at UI ⊢
  obtain ⟨k1, k2, k3, k4⟩ := UA
  have UA := F4.mk k1 k2 k3 k4
  go_wp2_with fail
  clear k1 k2 k3 k4
  refine (CO.out _).mono ?_
  rintro e W2 ⟨rfl, hb⟩
  replace UA := UA.below hb
  replace UX := UX.below hb
  replace UI := UI.below hb
  replace hB := below_then hB hb
  clear hb CO
  go_upto_region 5 with fail
  have UO := CU.new W2 o0 o1 24
  have LB := below_allocs W2 (.cells #[.int .u64 o0, .int .u64 o1] 24)
  replace UA := UA.below LB
  replace UX := UX.below LB
  replace UI := UI.below LB
  replace hB := below_then hB LB
  clear LB
  generalize W2.alloc _ = V4 at UA UX UI UO hB ⊢
  generalize W2.heap.size = co at UO ⊢
  obtain ⟨k1, k2, k3, k4⟩ := UA
  have UA := F4.mk k1 k2 k3 k4
  go_wp2_with fail
  clear k1 k2 k3 k4
  refine (CB.out _).mono ?_
  rintro e W3 ⟨rfl, hb⟩
  replace UA := UA.below hb
  replace UX := UX.below hb
  replace UI := UI.below hb
  replace UO := UO.below hb
  replace hB := below_then hB hb
  clear hb CB
  have HK := Lib.hid (And.intro UA (And.intro UX (And.intro UI UO)))
  clear UA UX UI UO
  rcases hw.out with ⟨rfl, rfl, ⟨rfl, rfl, rfl, rfl⟩, rfl, rfl⟩ | ⟨rfl, rfl, y0, y1, z0, z1, P1, P2, P3, P4, M, T⟩
  · obtain ⟨n1, n2, n3, n4⟩ := HK.out.2.2.1
    obtain ⟨v1, v2⟩ := HK.out.2.2.2.c
    go_wp2
    go_ret
    exact ⟨rfl, hB⟩
  · go_wp2_with fail
    refine wp_region_class (fun w' => Below W3.heap.size W3 w') (by kernel_rfl) (by kernel_rfl) (Below.refl _ _).drew ?_
    iterate 40
      (refine WQ.yes ?_ (by rfl) (fun w' hC => ?_) ?_
       rotate_left
       · (obtain ⟨k1, k2, k3, k4⟩ := HK.out.1.below hC
          obtain ⟨u1, u2⟩ := (HK.out.2.1.below hC).c
          obtain ⟨n1, n2, n3, n4⟩ := HK.out.2.2.1.below hC
          obtain ⟨v1, v2⟩ := (HK.out.2.2.2.below hC).c
          go_simp
          first
            | done
            | with_reducible rfl
            | exact ⟨rfl, rfl⟩
            | (go_at_call 18; (exact quietA4 (O.out _) hC))
            | (go_at_call 21; (with_reducible exact quietA (C1.out _) hC))
            | (go_at_call 23; (with_reducible exact quietA (M.out _) hC))
            | (go_at_call 13; first | (with_reducible exact quietA (P1.out _) hC) | (with_reducible exact quietA (P2.out _) hC) | (with_reducible exact quietA (P3.out _) hC) | (with_reducible exact quietA (P4.out _) hC))
            | (go_at_call 15; (with_reducible exact quietA4 (T.out _) hC)))
       (try simp only [Act.put, List.setIfInBounds_toArray, List.set_cons_zero, List.set_cons_succ]))
    refine WQ.nil ?_
    intro wz hX
    go_wp2
    go_ret
    exact ⟨rfl, below_then hB hX⟩
theorem affineBack (X : AX) (aw : Hid (∀ W, Calls Try.prog 7 #[] W (Bl true W))) (m : Mp) {h l : Int} {x : Nat} (hm : m.Ok) (i : Wn h l x) (w : World) :
    Calls Try.prog 6 #[m.val, .agg #[.int .u64 h, .int .u64 l]] w (Bl true w) := by
  have C1 : Hid (TN 21 #[.int .u64 1] 0 1) := Lib.hid fun W => cOf 1 1 rfl (by decide) W
  have jA := wn_of hm.a
  rcases Nat.mod_two_eq_zero_or_one m.A with ev | od
  · exact backMain aw _ _ _ _ h l 0 0 0 0 0 0 1 0 w (Lib.hid fun W => X.invN m W hm ev) (Lib.hid fun W => X.oddN _ _ m.A W jA ev) (Lib.hid fun W => cBit0 jA 0 (by rw [ev]; rfl) W) C1 (Lib.hid X.one)
      (Lib.hid (.even rfl rfl ⟨rfl, rfl, rfl, rfl⟩ ⟨rfl, rfl⟩))
  · obtain ⟨rfl, rfl⟩ := i.of
    have P1 := fun W => X.at_ m _ _ x W hm i
    have P2 := fun W => X.at_ (invM m) _ _ (atM m x) W (invM_ok od) (wn_of (atM_lt m x))
    have P3 := fun W => X.at_ (invM m) _ _ x W (invM_ok od) i
    have P4 := fun W => X.at_ m _ _ (atM (invM m) x) W hm (wn_of (atM_lt (invM m) x))
    have M := fun W => cMul128 (wn_of (invQ_ok od).1) jA W
    have T := fun W => X.thn m (invM m) W hm (invM_ok od)
    rw [back_at od i.lt] at P2
    rw [at_back od hm i.lt] at P4
    rw [Nat.mul_comm, (invQ_ok od).2] at M
    rw [then_inv od] at T
    exact backMain aw _ _ _ _ _ _ _ _ _ _ _ _ 0 1 w (Lib.hid fun W => X.invY m W hm od) (Lib.hid fun W => X.oddY _ _ m.A W jA od) (Lib.hid fun W => cBit0 jA 1 (by rw [od]; rfl) W) C1 (Lib.hid X.one)
      (Lib.hid (.odd rfl rfl _ _ _ _ (Lib.hid P1) (Lib.hid P2) (Lib.hid P3) (Lib.hid P4) (Lib.hid M) (Lib.hid T)))
end Go.Proofs.Ytfnfjfmkhnofkaa
