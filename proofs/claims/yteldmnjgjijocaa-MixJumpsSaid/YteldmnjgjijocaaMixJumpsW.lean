/-
  The statement's own walk: jumps add up, and one of one step is that step; what is above 2^64 steps counts by its rest. For every state and two numbers of 128 bits.
-/
import Derived.Test.YteldmnjgjijocaaWq
namespace Go.Proofs.Yteldmnjgjijocaa
open Go.RowKit G
set_option linter.unusedVariables false

theorem addLow {h1 h2 h l : Int} {l1 l2 : Nat} (i : Wd.Is ((h1 * 18446744073709551616 + l1 + (h2 * 18446744073709551616 + l2)) % 340282366920938463463374607431768211456) h l) : ∃ L : Nat, l = (L : Int) ∧ L = (l1 + l2) % 18446744073709551616 := by
  obtain ⟨a, b, c, d, e⟩ := i
  refine ⟨l.toNat, by omega, by omega⟩
set_option maxRecDepth 100000 in
set_option maxHeartbeats 2000000 in
theorem mixJumpsN (s l1 l2 : Nat) (h1 h2 : Int) (h : s < 18446744073709551616) (a0 : 0 ≤ h1) (a1 : h1 < 18446744073709551616) (a3 : l1 < 18446744073709551616) (b0 : 0 ≤ h2) (b1 : h2 < 18446744073709551616) (b3 : l2 < 18446744073709551616) (w : World) :
    Calls Try.prog 5 #[.int .u64 (s : Int), .agg #[.int .u64 h1, .int .u64 l1], .agg #[.int .u64 h2, .int .u64 l2]] w (Bl true w) := by
  have hB : Below w.heap.size w w := Below.refl _ _
  go_enter Try.func5, Try.ntmps5
  go_wp2_with fail
  have U1 := CU.new w h1 l1 33
  replace hB := below_alloc hB (.cells #[.int .u64 h1, .int .u64 l1] 33)
  have U2 := CU.new (w.alloc (.cells #[.int .u64 h1, .int .u64 l1] 33)) h2 l2 33
  rw [show (w.alloc (.cells #[.int .u64 h1, .int .u64 l1] 33)).heap.size = w.heap.size + 1 from by simp] at U2
  replace U1 := U1.alloc (.cells #[.int .u64 h2, .int .u64 l2] 33)
  replace hB := below_alloc hB (.cells #[.int .u64 h2, .int .u64 l2] 33)
  generalize hV : World.alloc _ _ = V at U1 U2 hB ⊢
  clear hV
  generalize hc1 : w.heap.size + 1 = c2 at U2 ⊢
  generalize hc2 : w.heap.size = c1 at U1 ⊢
  clear hc1 hc2
  refine (awake6 _).mono ?_
  rintro e w1 ⟨rfl, hb⟩
  replace U1 := U1.below hb
  replace U2 := U2.below hb
  replace hB := below_then hB hb
  clear hb
  obtain ⟨x1, x2⟩ := U1.c
  obtain ⟨y1, y2⟩ := U2.c
  go_wp2_with fail
  clear x1 x2 y1 y2
  refine (Wd.wAdd h1 l1 h2 l2 a0 a1 (by omega) (by omega) b0 b1 (by omega) (by omega) _).mono ?_
  rintro e w2 ⟨hk, lk, t, ⟨hi, -⟩, rfl, hb⟩
  obtain ⟨L, rfl, hL⟩ := addLow hi
  have HL := Lib.hid hL
  clear hi hL
  replace U1 := U1.below hb
  replace U2 := U2.below hb
  replace hB := below_then hB hb
  clear hb
  go_wp2_with fail
  have U3 := CU.new w2 hk L 33
  replace U1 := U1.alloc (.cells #[.int .u64 hk, .int .u64 L] 33)
  replace U2 := U2.alloc (.cells #[.int .u64 hk, .int .u64 L] 33)
  replace hB := below_alloc hB (.cells #[.int .u64 hk, .int .u64 L] 33)
  generalize hV : World.alloc _ _ = W0 at U1 U2 U3 hB ⊢
  clear hV
  generalize w2.heap.size = c3 at U3 ⊢
  obtain ⟨X1, e1⟩ : ∃ X, X = jumpN s l1 := ⟨_, rfl⟩
  obtain ⟨Y, e2⟩ : ∃ X, X = jumpN X1 l2 := ⟨_, rfl⟩
  have J1 : Hid (∀ W, Calls Try.prog 16 #[.int .u64 (s : Int), .agg #[.int .u64 h1, .int .u64 (l1 : Int)]] W (fun e w' => e = .returned (.int .u64 (X1 : Int)) ∧ Below W.heap.size W w')) := Lib.hid (fun W => e1 ▸ cJump s h h1 l1 W)
  have J2 : Hid (∀ W, Calls Try.prog 16 #[.int .u64 (X1 : Int), .agg #[.int .u64 h2, .int .u64 (l2 : Int)]] W (fun e w' => e = .returned (.int .u64 (Y : Int)) ∧ Below W.heap.size W w')) := Lib.hid (fun W => e2 ▸ cJump X1 (by rw [e1]; exact jump_lt _ _) h2 l2 W)
  have J3 : Hid (∀ W, Calls Try.prog 16 #[.int .u64 (s : Int), .agg #[.int .u64 hk, .int .u64 (L : Int)]] W (fun e w' => e = .returned (.int .u64 (Y : Int)) ∧ Below W.heap.size W w')) := Lib.hid (fun W => by
    have := cJump s h hk L W
    have E : jumpN s L = Y := by rw [HL.out, ← jump_add, ← e1, ← e2]
    rw [E] at this; exact this)
  have J4 : Hid (∀ W, Calls Try.prog 16 #[.int .u64 (s : Int), .agg #[.int .u64 0, .int .u64 1]] W (fun e w' => e = .returned (.int .u64 ((stepN s : Nat) : Int)) ∧ Below W.heap.size W w')) := Lib.hid (fun W => by
    have := cJump s h 0 1 W
    rw [jump_one] at this; exact this)
  have J5 : Hid (∀ W, Calls Try.prog 16 #[.int .u64 (s : Int), .agg #[.int .u64 0, .int .u64 0]] W (fun e w' => e = .returned (.int .u64 (s : Int)) ∧ Below W.heap.size W w')) := Lib.hid (fun W => by
    have := cJump s h 0 0 W
    rw [jump_zero h] at this; exact this)
  have J6 : Hid (∀ W, Calls Try.prog 16 #[.int .u64 (s : Int), .agg #[.int .u64 0, .int .u64 (l1 : Int)]] W (fun e w' => e = .returned (.int .u64 (X1 : Int)) ∧ Below W.heap.size W w')) := Lib.hid (fun W => by
    have := cJump s h 0 l1 W
    rw [← e1] at this; exact this)
  have O1 : Hid (∀ W, Calls Try.prog 17 #[.int .u64 1] W (fun e w' => e = .returned (.agg #[.int .u64 0, .int .u64 1]) ∧ Below W.heap.size W w')) := Lib.hid (fun W => cOf 1 1 rfl (by decide) W)
  have O2 : Hid (∀ W, Calls Try.prog 17 #[.int .u64 (l1 : Int)] W (fun e w' => e = .returned (.agg #[.int .u64 0, .int .u64 (l1 : Int)]) ∧ Below W.heap.size W w')) := Lib.hid (fun W => by
    have := cOf l1 l1 rfl a3 W
    unfold AnsW hiW loW at this
    rwa [Nat.div_eq_of_lt a3, Nat.mod_eq_of_lt a3] at this)
  have S1 : Hid (∀ W, Calls Try.prog 15 #[.int .u64 (s : Int)] W (fun e w' => e = .returned (.int .u64 ((stepN s : Nat) : Int)) ∧ w' = W)) := Lib.hid (cStep s)
  clear HL e1 e2
  generalize stepN s = T at S1 J4
  refine wp_region_class (fun w' => Below W0.heap.size W0 w') (by kernel_rfl) (by kernel_rfl) (Below.refl _ _).drew ?_
  iterate 36
    (refine WQ.yes ?_ (by rfl) (fun w' hC => ?_) ?_
     rotate_left
     · (obtain ⟨x1, x2⟩ := (U1.below hC).c
        obtain ⟨y1, y2⟩ := (U2.below hC).c
        obtain ⟨z1, z2⟩ := (U3.below hC).c
        go_simp
        first | done | with_reducible rfl | exact ⟨rfl, rfl⟩ | (go_at_call 16; (with_reducible exact quietU (J1.out _) hC)) | (go_at_call 16; (with_reducible exact quietU (J2.out _) hC)) | (go_at_call 16; (with_reducible exact quietU (J3.out _) hC)) | (go_at_call 16; (with_reducible exact quietU (J4.out _) hC)) | (go_at_call 16; (with_reducible exact quietU (J5.out _) hC)) | (go_at_call 16; (with_reducible exact quietU (J6.out _) hC)) | (go_at_call 17; (with_reducible exact quietA (O1.out _) hC)) | (go_at_call 17; (with_reducible exact quietA (O2.out _) hC)) | (go_at_call 15; (with_reducible exact quietUS (S1.out _) hC)))
     (try simp only [Act.put, List.setIfInBounds_toArray, List.set_cons_zero, List.set_cons_succ]))
  refine WQ.nil ?_
  intro wz hX
  go_wp2
  go_ret
  exact ⟨rfl, below_then hB hX⟩
theorem mixJumps {h1 k1 h2 k2 : Int} {N M : Nat} (s : Nat) (h : s < 18446744073709551616) (i : Wn h1 k1 N) (j : Wn h2 k2 M) (w : World) :
    Calls Try.prog 5 #[.int .u64 (s : Int), .agg #[.int .u64 h1, .int .u64 k1], .agg #[.int .u64 h2, .int .u64 k2]] w (Bl true w) := by
  obtain ⟨a, b, c, d, -⟩ := i
  obtain ⟨a', b', c', d', -⟩ := j
  obtain ⟨l1, rfl⟩ := Int.eq_ofNat_of_zero_le c
  obtain ⟨l2, rfl⟩ := Int.eq_ofNat_of_zero_le c'
  exact mixJumpsN s l1 l2 h1 h2 h a b (by omega) a' b' (by omega) w
end Go.Proofs.Yteldmnjgjijocaa
