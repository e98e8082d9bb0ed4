/-
  The statement's own walk: each state has one ahead.
-/
import Derived.Test.YthohgleklcoglaaXshJ
import Derived.Test.YthohgleklcoglaaWq
namespace Go.Proofs.Ythohgleklcoglaa
open Go.RowKit G
set_option linter.unusedVariables false

set_option maxRecDepth 100000 in
set_option maxHeartbeats 2000000 in
theorem xoshBackN (s : St) (hs : s.Ok) (a b c d a1 b1 c1 d1 a2 b2 c2 d2 : Nat) (e0 : s = ⟨a, b, c, d⟩) (e1 : stepS s = ⟨a1, b1, c1, d1⟩) (e2 : backS s = ⟨a2, b2, c2, d2⟩) (w : World) :
    Calls Try.prog 4 #[.agg #[.int .u64 (a : Int), .int .u64 (b : Int), .int .u64 (c : Int), .int .u64 (d : Int)]] w (Bl true w) := by
  have hB : Below w.heap.size w w := Below.refl _ _
  have J1 : Hid (∀ W, Calls Try.prog 10 #[.agg #[.int .u64 (a : Int), .int .u64 (b : Int), .int .u64 (c : Int), .int .u64 (d : Int)]] W (fun e w' => e = .returned (.agg #[.int .u64 (a1 : Int), .int .u64 (b1 : Int), .int .u64 (c1 : Int), .int .u64 (d1 : Int)]) ∧ Below W.heap.size W w')) := Lib.hid (fun W => by
    have := cStep s hs W
    unfold AnsS at this
    rw [e1] at this
    rw [e0] at this; exact this)
  have J2 : Hid (∀ W, Calls Try.prog 17 #[.agg #[.int .u64 (a1 : Int), .int .u64 (b1 : Int), .int .u64 (c1 : Int), .int .u64 (d1 : Int)]] W (fun e w' => e = .returned (.agg #[.int .u64 (a : Int), .int .u64 (b : Int), .int .u64 (c : Int), .int .u64 (d : Int)]) ∧ Below W.heap.size W w')) := Lib.hid (fun W => by
    have := cBack (stepS s) hs.step W
    unfold AnsS at this
    rw [back_step hs, e1] at this
    rw [e0] at this; exact this)
  have J3 : Hid (∀ W, Calls Try.prog 17 #[.agg #[.int .u64 (a : Int), .int .u64 (b : Int), .int .u64 (c : Int), .int .u64 (d : Int)]] W (fun e w' => e = .returned (.agg #[.int .u64 (a2 : Int), .int .u64 (b2 : Int), .int .u64 (c2 : Int), .int .u64 (d2 : Int)]) ∧ Below W.heap.size W w')) := Lib.hid (fun W => by
    have := cBack s hs W
    unfold AnsS at this
    rw [e2] at this
    rw [e0] at this; exact this)
  have J4 : Hid (∀ W, Calls Try.prog 10 #[.agg #[.int .u64 (a2 : Int), .int .u64 (b2 : Int), .int .u64 (c2 : Int), .int .u64 (d2 : Int)]] W (fun e w' => e = .returned (.agg #[.int .u64 (a : Int), .int .u64 (b : Int), .int .u64 (c : Int), .int .u64 (d : Int)]) ∧ Below W.heap.size W w')) := Lib.hid (fun W => by
    have := cStep (backS s) hs.back W
    unfold AnsS at this
    rw [step_back hs, e2] at this
    rw [e0] at this; exact this)
  obtain ⟨r, hr⟩ : ∃ r, r = !decide (s = St.zero) := ⟨_, rfl⟩
  have J5 : Hid (∀ W, Calls Try.prog 12 #[.agg #[.int .u64 (a : Int), .int .u64 (b : Int), .int .u64 (c : Int), .int .u64 (d : Int)]] W (fun e w' => e = .returned (.bool r) ∧ Below W.heap.size W w')) := Lib.hid (fun W => by
    have := cRight s W
    rw [← hr] at this
    rw [e0] at this; exact this)
  have J6 : Hid (∀ W, Calls Try.prog 12 #[.agg #[.int .u64 (a1 : Int), .int .u64 (b1 : Int), .int .u64 (c1 : Int), .int .u64 (d1 : Int)]] W (fun e w' => e = .returned (.bool r) ∧ Below W.heap.size W w')) := Lib.hid (fun W => by
    have := cRight (stepS s) W
    rw [show decide (stepS s = St.zero) = decide (s = St.zero) from decide_eq_decide.2 (step_right hs), ← hr, e1] at this
    exact this)
  have J7 : Hid (∀ W, Calls Try.prog 12 #[.agg #[.int .u64 (a2 : Int), .int .u64 (b2 : Int), .int .u64 (c2 : Int), .int .u64 (d2 : Int)]] W (fun e w' => e = .returned (.bool r) ∧ Below W.heap.size W w')) := Lib.hid (fun W => by
    have := cRight (backS s) W
    rw [show decide (backS s = St.zero) = decide (s = St.zero) from decide_eq_decide.2 (back_right hs), ← hr, e2] at this
    exact this)
  have q : ∀ W, Sem.run Try.prog (Op.equalIn 10000 24 (.agg #[.int .u64 (a : Int), .int .u64 (b : Int), .int .u64 (c : Int), .int .u64 (d : Int)]) (.agg #[.int .u64 (a : Int), .int .u64 (b : Int), .int .u64 (c : Int), .int .u64 (d : Int)])) W = .ok true W := fun W => by
    have := sameS ⟨a, b, c, d⟩ ⟨a, b, c, d⟩ W
    rwa [decide_eq_true rfl] at this
  have HQ := Lib.hid q
  clear e0 e1 e2 hr hs q
  go_enter Try.func4, Try.ntmps4
  go_wp2_with fail
  have U1 := C4.new w a b c d 24
  replace hB := below_alloc hB (.cells #[.int .u64 (a : Int), .int .u64 (b : Int), .int .u64 (c : Int), .int .u64 (d : Int)] 24)
  generalize World.alloc _ _ = V at U1 hB ⊢
  generalize w.heap.size = k1 at U1 ⊢
  refine (awake7 _).mono ?_
  rintro e W0 ⟨rfl, hb⟩
  replace U1 := U1.below hb
  replace hB := below_then hB hb
  clear hb
  go_wp2_with fail
  refine wp_region_class (fun w' => Below W0.heap.size W0 w') (by kernel_rfl) (by kernel_rfl) (Below.refl _ _).drew ?_
  iterate 29
    (refine WQ.yes ?_ (by rfl) (fun w' hC => ?_) ?_
     rotate_left
     · (obtain ⟨x1, x2, x3, x4⟩ := U1.below hC
        have q := HQ.out w'
        go_simp
        first | done | with_reducible rfl | exact ⟨rfl, rfl⟩ | (go_at_call 10; (with_reducible exact quietA4 (J1.out _) hC)) | (go_at_call 17; (with_reducible exact quietA4 (J2.out _) hC)) | (go_at_call 17; (with_reducible exact quietA4 (J3.out _) hC)) | (go_at_call 10; (with_reducible exact quietA4 (J4.out _) hC)) | (go_at_call 12; (with_reducible exact quietB (J5.out _) hC)) | (go_at_call 12; (with_reducible exact quietB (J6.out _) hC)) | (go_at_call 12; (with_reducible exact quietB (J7.out _) hC)))
     (try simp only [Act.put, List.setIfInBounds_toArray, List.set_cons_zero, List.set_cons_succ]))
  refine WQ.nil ?_
  intro wz hX
  go_wp2
  go_ret
  exact ⟨rfl, below_then hB hX⟩
theorem xoshBack (s : St) (hs : s.Ok) (w : World) : Calls Try.prog 4 #[s.val] w (Bl true w) := by
  obtain ⟨a, b, c, d⟩ := s
  exact xoshBackN ⟨a, b, c, d⟩ hs a b c d _ _ _ _ _ _ _ _ rfl rfl rfl w
end Go.Proofs.Ythohgleklcoglaa
