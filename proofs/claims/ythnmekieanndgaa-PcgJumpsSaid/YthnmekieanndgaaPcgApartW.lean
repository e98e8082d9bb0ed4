/-
  The walk of PcgApart, from what pcg's calls answer.
-/
import Derived.Test.YthnmekieanndgaaPcgBackW
import Derived.Deep.DeepCutAuto
namespace Go.Proofs.Ythnmekieanndgaa
open Go.RowKit G
set_option linter.unusedVariables false
set_option maxRecDepth 100000

abbrev TSE (f : FuncId) (args : Array Value) (p q r s k : Int) : Prop := ∀ W : World, Calls Try.prog f args W (fun e w' => e = .returned (.tuple #[.agg #[.int .u64 p, .int .u64 q, .int .u64 r, .int .u64 s], .int .i64 k]) ∧ Below W.heap.size W w')
/-- Two numbers, word by word. -/
inductive Two (a b c d : Int) : Bool → Prop where
  | same (e : a = c) (f : b = d) : Two a b c d true
  | low (e : (a = c) = True) (f : (b = d) = False) : Two a b c d false
  | high (e : (a = c) = False) : Two a b c d false
theorem two_of {a b c d : Int} {N M : Nat} (i : Wn a b N) (j : Wn c d M) : Two a b c d (decide (N = M)) := by
  have := i.eq; have := j.eq; have := i.l0; have := i.l1; have := j.l0; have := j.l1
  by_cases e : N = M
  · rw [decide_eq_true e]
    exact .same (by omega) (by omega)
  · rw [decide_eq_false e]
    by_cases e3 : a = c
    · exact .low (eq_true e3) (eq_false (by omega))
    · exact .high (eq_false e3)
set_option maxHeartbeats 8000000 in
theorem papartMain (aw : Hid (∀ W, Calls Try.prog 8 #[] W (Bl true W))) (s0 s1 s2 s3 n0 n1 m0 m1 a0 a1 b0 b1 : Int) (r : Bool) (w : World)
    (R : Hid (TB 14 #[.agg #[.int .u64 s0, .int .u64 s1, .int .u64 s2, .int .u64 s3]] true))
    (J1 : Hid (TSE 16 #[.agg #[.int .u64 s0, .int .u64 s1, .int .u64 s2, .int .u64 s3], .agg #[.int .u64 n0, .int .u64 n1]] a0 a1 s2 s3 0))
    (J2 : Hid (TSE 16 #[.agg #[.int .u64 s0, .int .u64 s1, .int .u64 s2, .int .u64 s3], .agg #[.int .u64 m0, .int .u64 m1]] b0 b1 s2 s3 0))
    (hn : Hid (Two n0 n1 m0 m1 r)) (ha : Hid (Two a0 a1 b0 b1 r)) :
    Calls Try.prog 7 #[.agg #[.int .u64 s0, .int .u64 s1, .int .u64 s2, .int .u64 s3], .agg #[.int .u64 n0, .int .u64 n1], .agg #[.int .u64 m0, .int .u64 m1]] w (Bl true w) := by
  have hB : Below w.heap.size w w := Below.refl _ _
  go_enter Try.func7, Try.ntmps7
  go_wp2_with fail
  have US := F4.new w s0 s1 s2 s3 26
  have z1 : (w.alloc (.cells #[.int .u64 s0, .int .u64 s1, .int .u64 s2, .int .u64 s3] 26)).heap.size = w.heap.size + 1 := Array.size_push _
  replace hB := below_alloc hB (.cells #[.int .u64 s0, .int .u64 s1, .int .u64 s2, .int .u64 s3] 26)
  generalize w.alloc _ = V1 at US hB z1 ⊢
  have UN := CU.new V1 n0 n1 24
  have z2 : (V1.alloc (.cells #[.int .u64 n0, .int .u64 n1] 24)).heap.size = w.heap.size + 1 + 1 := (Array.size_push _).trans (by rw [z1])
  rw [z1] at UN
  have LB := below_allocs V1 (.cells #[.int .u64 n0, .int .u64 n1] 24)
  replace US := US.below LB
  replace hB := below_then hB LB
  clear LB
  generalize V1.alloc _ = V2 at US UN hB z2 ⊢
  have UM := CU.new V2 m0 m1 24
  rw [z2] at UM
  have LB := below_allocs V2 (.cells #[.int .u64 m0, .int .u64 m1] 24)
  replace US := US.below LB
  replace UN := UN.below LB
  replace hB := below_then hB LB
  clear LB z1 z2
  generalize V2.alloc _ = V3 at US UN UM hB ⊢
  generalize w.heap.size + 1 + 1 = cm at UM ⊢
  generalize w.heap.size + 1 = cn at UN ⊢
  refine (aw.out _).mono ?_
  rintro e W0 ⟨rfl, hb⟩
  replace US := US.below hb
  replace UN := UN.below hb
  replace UM := UM.below hb
  replace hB := below_then hB hb
  clear hb aw
  obtain ⟨k1, k2, k3, k4⟩ := US
  have US := F4.mk k1 k2 k3 k4
  go_wp2_with fail
  clear k1 k2 k3 k4
  refine (R.out _).mono ?_
  rintro e W1 ⟨rfl, hb⟩
  replace US := US.below hb
  replace UN := UN.below hb
  replace UM := UM.below hb
  replace hB := below_then hB hb
  clear hb R
  obtain ⟨k1, k2, k3, k4⟩ := US
  have US := F4.mk k1 k2 k3 k4
  obtain ⟨u1, u2⟩ := UN.c
  go_wp2_with fail
  clear k1 k2 k3 k4 u1 u2
  refine (J1.out _).mono ?_
  rintro e W2 ⟨rfl, hb⟩
  replace US := US.below hb
  replace UN := UN.below hb
  replace UM := UM.below hb
  replace hB := below_then hB hb
  clear hb J1
  go_upto_region 6 with fail
  have UA := F4.new W2 a0 a1 s2 s3 26
  have LB := below_allocs W2 (.cells #[.int .u64 a0, .int .u64 a1, .int .u64 s2, .int .u64 s3] 26)
  replace US := US.below LB
  replace UN := UN.below LB
  replace UM := UM.below LB
  replace hB := below_then hB LB
  clear LB
  generalize W2.alloc _ = V4 at US UN UM UA hB ⊢
  generalize W2.heap.size = ca at UA ⊢
  obtain ⟨k1, k2, k3, k4⟩ := US
  have US := F4.mk k1 k2 k3 k4
  obtain ⟨u1, u2⟩ := UM.c
  go_wp2_with fail
  clear k1 k2 k3 k4 u1 u2
  refine (J2.out _).mono ?_
  rintro e W3 ⟨rfl, hb⟩
  replace UN := UN.below hb
  replace UM := UM.below hb
  replace UA := UA.below hb
  replace hB := below_then hB hb
  clear hb J2 US
  go_upto_region 7 with fail
  have UB := F4.new W3 b0 b1 s2 s3 26
  have LB := below_allocs W3 (.cells #[.int .u64 b0, .int .u64 b1, .int .u64 s2, .int .u64 s3] 26)
  replace UN := UN.below LB
  replace UM := UM.below LB
  replace UA := UA.below LB
  replace hB := below_then hB LB
  clear LB
  generalize W3.alloc _ = V5 at UN UM UA UB hB ⊢
  generalize W3.heap.size = cb at UB ⊢
  have HK := Lib.hid (And.intro UN (And.intro UM (And.intro UA UB)))
  clear UN UM UA UB
  have h1 := hn.out
  have h2 := ha.out
  clear hn ha
  refine wp_region_class (fun w' => Below V5.heap.size V5 w') (by kernel_rfl) (by kernel_rfl) (Below.refl _ _).drew ?_
  rcases h1 with ⟨rfl, rfl⟩ | ⟨p1, p2⟩ | ⟨p1⟩ <;> rcases h2 with ⟨rfl, rfl⟩ | ⟨q1, q2⟩ | ⟨q1⟩
  all_goals
    iterate 16
      (refine WQ.yes ?_ (by rfl) (fun w' hC => ?_) ?_
       rotate_left
       · (obtain ⟨u1, u2⟩ := (HK.out.1.below hC).c
          obtain ⟨v1, v2⟩ := (HK.out.2.1.below hC).c
          obtain ⟨k1, k2, k3, k4⟩ := HK.out.2.2.1.below hC
          obtain ⟨m1, m2, m3, m4⟩ := HK.out.2.2.2.below hC
          go_simp
          first
            | done
            | with_reducible rfl
            | exact ⟨rfl, rfl⟩)
       (try simp only [Act.put, List.setIfInBounds_toArray, List.set_cons_zero, List.set_cons_succ]))
    refine WQ.nil ?_
    intro wz hX
    go_wp2
    go_ret
    exact ⟨rfl, below_then hB hX⟩
set_option maxHeartbeats 2000000 in
theorem papartNone (aw : Hid (∀ W, Calls Try.prog 8 #[] W (Bl true W))) (s0 s1 s2 s3 n0 n1 m0 m1 : Int) (w : World)
    (R : Hid (TB 14 #[.agg #[.int .u64 s0, .int .u64 s1, .int .u64 s2, .int .u64 s3]] false)) :
    Calls Try.prog 7 #[.agg #[.int .u64 s0, .int .u64 s1, .int .u64 s2, .int .u64 s3], .agg #[.int .u64 n0, .int .u64 n1], .agg #[.int .u64 m0, .int .u64 m1]] w (Bl true w) := by
  have hB : Below w.heap.size w w := Below.refl _ _
  go_enter Try.func7, Try.ntmps7
  go_wp2_with fail
  have US := F4.new w s0 s1 s2 s3 26
  replace hB := below_alloc hB (.cells #[.int .u64 s0, .int .u64 s1, .int .u64 s2, .int .u64 s3] 26)
  generalize w.alloc _ = V1 at US hB ⊢
  have L2 := below_then (below_allocs V1 (.cells #[.int .u64 n0, .int .u64 n1] 24)) (below_allocs _ (.cells #[.int .u64 m0, .int .u64 m1] 24))
  replace US := US.below L2
  replace hB := below_then hB L2
  clear L2
  generalize World.alloc (World.alloc V1 _) _ = V3 at US hB ⊢
  refine (aw.out _).mono ?_
  rintro e W0 ⟨rfl, hb⟩
  obtain ⟨k1, k2, k3, k4⟩ := US.below hb
  replace hB := below_then hB hb
  clear hb aw US
  go_wp2_with fail
  clear k1 k2 k3 k4
  refine (R.out _).mono ?_
  rintro e W1 ⟨rfl, hb⟩
  replace hB := below_then hB hb
  clear hb R
  go_wp2
  go_ret
  exact ⟨rfl, hB⟩
theorem pcgApart (X : PX) (aw : Hid (∀ W, Calls Try.prog 8 #[] W (Bl true W))) (s : Ps) {n0 n1 m0 m1 : Int} {N M : Nat} (hs : s.Ok) (i : Wn n0 n1 N) (j : Wn m0 m1 M) (w : World) :
    Calls Try.prog 7 #[s.val, .agg #[.int .u64 n0, .int .u64 n1], .agg #[.int .u64 m0, .int .u64 m1]] w (Bl true w) := by
  rcases Nat.mod_two_eq_zero_or_one s.I with ev | od
  · have R := fun W => X.right s W hs
    rw [decide_eq_false (by omega)] at R
    exact papartNone aw _ _ _ _ _ _ _ _ w (Lib.hid R)
  · have R := fun W => X.right s W hs
    rw [decide_eq_true od] at R
    have ta := two_of (wn_of (jumpP_ok hs N).a) (wn_of (jumpP_ok hs M).a)
    have e : decide ((jumpP s N).S = (jumpP s M).S) = decide (N = M) := decide_eq_decide.2 ⟨fun e => jump_apart od i.lt j.lt (Ps.same e rfl), fun e => by rw [e]⟩
    rw [e] at ta
    exact papartMain aw _ _ _ _ _ _ _ _ _ _ _ _ _ w (Lib.hid R) (Lib.hid fun W => X.jumpY s n0 n1 N W hs od i) (Lib.hid fun W => X.jumpY s m0 m1 M W hs od j) (Lib.hid (two_of i j)) (Lib.hid ta)
end Go.Proofs.Ythnmekieanndgaa
