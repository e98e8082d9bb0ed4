/-
  The walk of PcgFar, from what pcg's calls and the reference's answer.
-/
import Derived.Test.YthnmekieanndgaaPcgApartW
namespace Go.Proofs.Ythnmekieanndgaa
open Go.RowKit G
set_option linter.unusedVariables false
set_option maxRecDepth 100000

/-- The two ways: a state that may not be; one that may. -/
inductive FarWay (s0 s1 s2 s3 n0 n1 j0 j1 j2 j3 k : Int) (r : Bool) : Prop where
  | no (er : r = false) (ek : k = 3) (e : j0 = 0 ∧ j1 = 0 ∧ j2 = 0 ∧ j3 = 0)
  | yes (er : r = true) (ek : k = 0) (e : j2 = s2 ∧ j3 = s3) (p0 p1 p2 p3 : Int)
      (P : Hid (TM 21 #[.agg #[.int .u64 0, .int .u64 15750249268501108917, .int .u64 s2, .int .u64 s3], .agg #[.int .u64 n0, .int .u64 n1]] p0 p1 p2 p3))
      (A : Hid (TN 20 #[.agg #[.int .u64 p0, .int .u64 p1, .int .u64 p2, .int .u64 p3], .agg #[.int .u64 s0, .int .u64 s1]] j0 j1))
set_option maxHeartbeats 8000000 in
theorem pfarMain (aw : Hid (∀ W, Calls Try.prog 8 #[] W (Bl true W))) (s0 s1 s2 s3 n0 n1 j0 j1 j2 j3 k : Int) (r : Bool) (w : World)
    (R : Hid (TB 14 #[.agg #[.int .u64 s0, .int .u64 s1, .int .u64 s2, .int .u64 s3]] r))
    (J : Hid (TSE 16 #[.agg #[.int .u64 s0, .int .u64 s1, .int .u64 s2, .int .u64 s3], .agg #[.int .u64 n0, .int .u64 n1]] j0 j1 j2 j3 k))
    (hw : Hid (FarWay s0 s1 s2 s3 n0 n1 j0 j1 j2 j3 k r)) :
    Calls Try.prog 4 #[.agg #[.int .u64 s0, .int .u64 s1, .int .u64 s2, .int .u64 s3], .agg #[.int .u64 n0, .int .u64 n1]] w (Bl true w) := by
  have hB : Below w.heap.size w w := Below.refl _ _
  go_enter Try.func4, Try.ntmps4
  go_wp2_with fail
  have US := F4.new w s0 s1 s2 s3 26
  have z1 : (w.alloc (.cells #[.int .u64 s0, .int .u64 s1, .int .u64 s2, .int .u64 s3] 26)).heap.size = w.heap.size + 1 := Array.size_push _
  replace hB := below_alloc hB (.cells #[.int .u64 s0, .int .u64 s1, .int .u64 s2, .int .u64 s3] 26)
  generalize w.alloc _ = V1 at US hB z1 ⊢
  have UN := CU.new V1 n0 n1 24
  rw [z1] at UN
  have LB := below_allocs V1 (.cells #[.int .u64 n0, .int .u64 n1] 24)
  replace US := US.below LB
  replace hB := below_then hB LB
  clear LB z1
  generalize V1.alloc _ = V2 at US UN hB ⊢
  generalize w.heap.size + 1 = cn at UN ⊢
  refine (aw.out _).mono ?_
  rintro e W0 ⟨rfl, hb⟩
  replace US := US.below hb
  replace UN := UN.below hb
  replace hB := below_then hB hb
  clear hb aw
  obtain ⟨k1, k2, k3, k4⟩ := US
  have US := F4.mk k1 k2 k3 k4
  obtain ⟨u1, u2⟩ := UN.c
  go_wp2_with fail
  clear k1 k2 k3 k4 u1 u2
  refine (J.out _).mono ?_
  rintro e W1 ⟨rfl, hb⟩
  replace US := US.below hb
  replace UN := UN.below hb
  replace hB := below_then hB hb
  clear hb J
  go_upto_region 4 with fail
  have UJ := F4.new W1 j0 j1 j2 j3 26
  have LB := below_allocs W1 (.cells #[.int .u64 j0, .int .u64 j1, .int .u64 j2, .int .u64 j3] 26)
  replace US := US.below LB
  replace UN := UN.below LB
  replace hB := below_then hB LB
  clear LB
  generalize W1.alloc _ = V3 at US UN UJ hB ⊢
  generalize W1.heap.size = cj at UJ ⊢
  obtain ⟨k1, k2, k3, k4⟩ := US
  have US := F4.mk k1 k2 k3 k4
  go_wp2_with fail
  clear k1 k2 k3 k4
  refine (R.out _).mono ?_
  rintro e W2 ⟨rfl, hb⟩
  replace US := US.below hb
  replace UN := UN.below hb
  replace UJ := UJ.below hb
  replace hB := below_then hB hb
  clear hb R
  rcases hw.out with ⟨rfl, rfl, rfl, rfl, rfl, rfl⟩ | ⟨rfl, rfl, ⟨rfl, rfl⟩, p0, p1, p2, p3, P, A⟩
  · obtain ⟨k1, k2, k3, k4⟩ := UJ
    go_wp2
    go_ret
    exact ⟨rfl, hB⟩
  · obtain ⟨k1, k2, k3, k4⟩ := US
    have US := F4.mk k1 k2 k3 k4
    go_upto_region 7 with fail
    clear k1 k2 k3 k4
    have UM := F4.new W2 0 15750249268501108917 j2 j3 49
    have LB := below_allocs W2 (.cells #[.int .u64 0, .int .u64 15750249268501108917, .int .u64 j2, .int .u64 j3] 49)
    replace US := US.below LB
    replace UN := UN.below LB
    replace UJ := UJ.below LB
    replace hB := below_then hB LB
    clear LB
    generalize W2.alloc _ = V4 at US UN UJ UM hB ⊢
    generalize W2.heap.size = cm at UM ⊢
    have HK := Lib.hid (And.intro US (And.intro UN (And.intro UJ UM)))
    clear US UN UJ UM
    refine wp_region_class (fun w' => Below V4.heap.size V4 w') (by kernel_rfl) (by kernel_rfl) (Below.refl _ _).drew ?_
    iterate 21
      (refine WQ.yes ?_ (by rfl) (fun w' hC => ?_) ?_
       rotate_left
       · (obtain ⟨k1, k2, k3, k4⟩ := HK.out.1.below hC
          obtain ⟨u1, u2⟩ := (HK.out.2.1.below hC).c
          obtain ⟨j1', j2', j3', j4'⟩ := HK.out.2.2.1.below hC
          obtain ⟨m1, m2, m3, m4⟩ := HK.out.2.2.2.below hC
          go_simp
          first
            | done
            | with_reducible rfl
            | exact ⟨rfl, rfl⟩
            | (go_at_call 21; (with_reducible exact quietA4 (P.out _) hC))
            | (go_at_call 20; (with_reducible exact quietA (A.out _) hC)))
       (try simp only [Act.put, List.setIfInBounds_toArray, List.set_cons_zero, List.set_cons_succ]))
    refine WQ.nil ?_
    intro wz hX
    go_wp2
    go_ret
    exact ⟨rfl, below_then hB hX⟩
theorem pcgFar (X : PX) (aw : Hid (∀ W, Calls Try.prog 8 #[] W (Bl true W)))
    (YP : ∀ (m : Mp) (n : Nat), m.Ok → n < Q → TM 21 #[m.val, .agg #[.int .u64 ((hiW n : Nat) : Int), .int .u64 ((loW n : Nat) : Int)]] ((hiW (powM m n).A : Nat) : Int) ((loW (powM m n).A : Nat) : Int) ((hiW (powM m n).C : Nat) : Int) ((loW (powM m n).C : Nat) : Int))
    (YA : ∀ (m : Mp) (x : Nat), m.Ok → x < Q → TN 20 #[m.val, .agg #[.int .u64 ((hiW x : Nat) : Int), .int .u64 ((loW x : Nat) : Int)]] ((hiW (atM m x) : Nat) : Int) ((loW (atM m x) : Nat) : Int))
    (s : Ps) {n0 n1 : Int} {N : Nat} (hs : s.Ok) (i : Wn n0 n1 N) (w : World) :
    Calls Try.prog 4 #[s.val, .agg #[.int .u64 n0, .int .u64 n1]] w (Bl true w) := by
  obtain ⟨rfl, rfl⟩ := i.of
  rcases Nat.mod_two_eq_zero_or_one s.I with ev | od
  · have R := fun W => X.right s W hs
    rw [decide_eq_false (by omega)] at R
    exact pfarMain aw _ _ _ _ _ _ 0 0 0 0 3 false w (Lib.hid R) (Lib.hid fun W => X.jumpN s _ _ N W hs ev i) (Lib.hid (.no rfl rfl ⟨rfl, rfl, rfl, rfl⟩))
  · have R := fun W => X.right s W hs
    rw [decide_eq_true od] at R
    have P := YP (mapP s) N (mapP_ok hs) i.lt
    have e0 : ((hiW (mapP s).A : Nat) : Int) = 0 := (by decide : ((hiW fac : Nat) : Int) = 0)
    have e1 : ((loW (mapP s).A : Nat) : Int) = 15750249268501108917 := (by decide : ((loW fac : Nat) : Int) = 15750249268501108917)
    have e2 : (mapP s).C = s.I := rfl
    unfold Mp.val at P
    rw [e0, e1, e2] at P
    exact pfarMain aw _ _ _ _ _ _ _ _ _ _ 0 true w (Lib.hid R) (Lib.hid fun W => X.jumpY s _ _ N W hs od i)
      (Lib.hid (.yes rfl rfl ⟨rfl, rfl⟩ _ _ _ _ (Lib.hid P) (Lib.hid (YA (powM (mapP s) N) s.S (powM_ok _ _) hs.a))))
end Go.Proofs.Ythnmekieanndgaa
