/-
  The walk of PcgBack, from what pcg's calls answer.
-/
import Derived.Test.YthnmekieanndgaaPcgA
import Derived.Test.YthnmekieanndgaaAffThenW
namespace Go.Proofs.Ythnmekieanndgaa
open Go.RowKit G
set_option linter.unusedVariables false
set_option maxRecDepth 100000

abbrev TB (f : FuncId) (args : Array Value) (b : Bool) : Prop := ∀ W : World, Calls Try.prog f args W (fun e w' => e = .returned (.bool b) ∧ Below W.heap.size W w')
set_option maxHeartbeats 8000000 in
theorem pbackMain (aw : Hid (∀ W, Calls Try.prog 8 #[] W (Bl true W))) (s0 s1 s2 s3 n0 n1 b0 b1 m0 m1 m2 m3 : Int) (r : Bool) (w : World)
    (CS : Hid (TM 12 #[.agg #[.int .u64 s0, .int .u64 s1, .int .u64 s2, .int .u64 s3]] n0 n1 s2 s3))
    (CB : Hid (TM 22 #[.agg #[.int .u64 n0, .int .u64 n1, .int .u64 s2, .int .u64 s3]] s0 s1 s2 s3))
    (DB : Hid (TM 22 #[.agg #[.int .u64 s0, .int .u64 s1, .int .u64 s2, .int .u64 s3]] b0 b1 s2 s3))
    (DS : Hid (TM 12 #[.agg #[.int .u64 b0, .int .u64 b1, .int .u64 s2, .int .u64 s3]] s0 s1 s2 s3))
    (CM : Hid (TM 24 #[.agg #[.int .u64 s0, .int .u64 s1, .int .u64 s2, .int .u64 s3]] m0 m1 m2 m3))
    (CA : Hid (TN 23 #[.agg #[.int .u64 m0, .int .u64 m1, .int .u64 m2, .int .u64 m3], .agg #[.int .u64 s0, .int .u64 s1]] n0 n1))
    (R1 : Hid (TB 14 #[.agg #[.int .u64 n0, .int .u64 n1, .int .u64 s2, .int .u64 s3]] r))
    (R2 : Hid (TB 14 #[.agg #[.int .u64 s0, .int .u64 s1, .int .u64 s2, .int .u64 s3]] r)) :
    Calls Try.prog 5 #[.agg #[.int .u64 s0, .int .u64 s1, .int .u64 s2, .int .u64 s3]] w (Bl true w) := by
  have hB : Below w.heap.size w w := Below.refl _ _
  go_enter Try.func5, Try.ntmps5
  go_wp2_with fail
  have US := F4.new w s0 s1 s2 s3 26
  replace hB := below_alloc hB (.cells #[.int .u64 s0, .int .u64 s1, .int .u64 s2, .int .u64 s3] 26)
  generalize w.alloc _ = V1 at US hB ⊢
  refine (aw.out _).mono ?_
  rintro e W0 ⟨rfl, hb⟩
  have HS := Lib.hid (US.below hb)
  replace hB := below_then hB hb
  clear hb aw US
  go_wp2_with fail
  refine wp_region_class (fun w' => Below W0.heap.size W0 w') (by kernel_rfl) (by kernel_rfl) (Below.refl _ _).drew ?_
  cases r
  all_goals
    iterate 34
      (refine WQ.yes ?_ (by rfl) (fun w' hC => ?_) ?_
       rotate_left
       · (obtain ⟨k1, k2, k3, k4⟩ := HS.out.below hC
          go_simp
          first
            | done
            | with_reducible rfl
            | exact ⟨rfl, rfl⟩
            | (go_at_call 12; first | (with_reducible exact quietA4 (CS.out _) hC) | (with_reducible exact quietA4 (DS.out _) hC))
            | (go_at_call 22; first | (with_reducible exact quietA4 (CB.out _) hC) | (with_reducible exact quietA4 (DB.out _) hC))
            | (go_at_call 24; (with_reducible exact quietA4 (CM.out _) hC))
            | (go_at_call 23; (with_reducible exact quietA (CA.out _) hC))
            | (go_at_call 14; first | (with_reducible exact quietB (R1.out _) hC) | (with_reducible exact quietB (R2.out _) hC)))
       (try simp only [Act.put, List.setIfInBounds_toArray, List.set_cons_zero, List.set_cons_succ]))
    refine WQ.nil ?_
    intro wz hX
    go_wp2
    go_ret
    exact ⟨rfl, below_then hB hX⟩
theorem pcgBack (X : PX) (aw : Hid (∀ W, Calls Try.prog 8 #[] W (Bl true W))) (s : Ps) (hs : s.Ok) (w : World) :
    Calls Try.prog 5 #[s.val] w (Bl true w) := by
  have CB := fun W => X.back (stepP s) W (stepP_ok hs)
  have DS := fun W => X.step (backP s) W (backP_ok hs)
  rw [back_step hs] at CB
  rw [step_back hs] at DS
  exact pbackMain aw _ _ _ _ _ _ _ _ _ _ _ _ _ w (Lib.hid fun W => X.step s W hs) (Lib.hid CB) (Lib.hid fun W => X.back s W hs) (Lib.hid DS) (Lib.hid fun W => X.map s W hs)
    (Lib.hid fun W => X.at_ (mapP s) _ _ s.S W (mapP_ok hs) (wn_of hs.a)) (Lib.hid fun W => X.right (stepP s) W (stepP_ok hs)) (Lib.hid fun W => X.right s W hs)
end Go.Proofs.Ythnmekieanndgaa
