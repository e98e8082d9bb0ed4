/-
  The statement's own walk: the next one of a sum is the sum of the next ones; so are the bits of so many states; a state added twice is gone.
-/
import Derived.Test.YthohgleklcoglaaXshJ
import Derived.Test.YthohgleklcoglaaWq
namespace Go.Proofs.Ythohgleklcoglaa
open Go.RowKit G
set_option linter.unusedVariables false

theorem add_c (s t g : St) (hs : s.Ok) (ht : t.Ok) (e : addS s t = g) (W : World) : Calls Try.prog 18 #[s.val, t.val] W (fun e w' => e = .returned g.val ∧ Below W.heap.size W w') := by subst e; exact cAdd s t hs ht W
theorem step_c (s g : St) (hs : s.Ok) (e : stepS s = g) (W : World) : Calls Try.prog 10 #[s.val] W (fun e w' => e = .returned g.val ∧ Below W.heap.size W w') := by subst e; exact cStep s hs W
set_option maxRecDepth 100000 in
set_option maxHeartbeats 4000000 in
theorem linearN (a b c d a' b' c' d' g0 g1 g2 g3 m0 m1 m2 m3 r0 r1 r2 r3 z0 z1 z2 z3 n k : Nat) (hk : n % 41 = k) (hs : (⟨a, b, c, d⟩ : St).Ok) (ht : (⟨a', b', c', d'⟩ : St).Ok)
    (eg : addS ⟨a, b, c, d⟩ ⟨a', b', c', d'⟩ = ⟨g0, g1, g2, g3⟩) (em : stepS ⟨a, b, c, d⟩ = ⟨m0, m1, m2, m3⟩) (er : stepS ⟨a', b', c', d'⟩ = ⟨r0, r1, r2, r3⟩) (ez : stepS ⟨g0, g1, g2, g3⟩ = ⟨z0, z1, z2, z3⟩) (w : World) :
    Calls Try.prog 5 #[.agg #[.int .u64 (a : Int), .int .u64 (b : Int), .int .u64 (c : Int), .int .u64 (d : Int)], .agg #[.int .u64 (a' : Int), .int .u64 (b' : Int), .int .u64 (c' : Int), .int .u64 (d' : Int)], .int .u8 (n : Int)] w (Bl true w) := by
  have hB : Below w.heap.size w w := Below.refl _ _
  have hg : (⟨g0, g1, g2, g3⟩ : St).Ok := by rw [← eg]; exact hs.add ht
  have hm : (⟨m0, m1, m2, m3⟩ : St).Ok := by rw [← em]; exact hs.step
  have hr : (⟨r0, r1, r2, r3⟩ : St).Ok := by rw [← er]; exact ht.step
  have J1 := Lib.hid (add_c _ _ _ hs ht eg)
  have J2 := Lib.hid (step_c _ _ hg ez)
  have J3 := Lib.hid (step_c _ _ hs em)
  have J4 := Lib.hid (step_c _ _ ht er)
  have J5 := Lib.hid (add_c _ _ _ hm hr (show addS ⟨m0, m1, m2, m3⟩ ⟨r0, r1, r2, r3⟩ = ⟨z0, z1, z2, z3⟩ by rw [← ez, ← eg, step_add hs ht, em, er]))
  have J6 := Lib.hid (add_c _ _ _ hg ht (show addS ⟨g0, g1, g2, g3⟩ ⟨a', b', c', d'⟩ = ⟨a, b, c, d⟩ by rw [← eg, add_add]))
  have J7 := Lib.hid (add_c _ _ _ ht hs (show addS ⟨a', b', c', d'⟩ ⟨a, b, c, d⟩ = ⟨g0, g1, g2, g3⟩ by rw [add_comm, eg]))
  have hk2 : k ≤ 40 := by omega
  have B1 := Lib.hid (bitsYes _ hs k (by omega))
  have B2 := Lib.hid (bitsYes _ ht k (by omega))
  have B3 := Lib.hid (bitsYes _ hg k (by omega))
  have BL := bits_lin hs ht k
  rw [eg] at BL
  have HL := Lib.hid BL
  have l1 := bitsS_len ⟨a, b, c, d⟩ k
  have l2 := bitsS_len ⟨a', b', c', d'⟩ k
  have l3 := bitsS_len ⟨g0, g1, g2, g3⟩ k
  clear BL
  generalize bitsS ⟨a, b, c, d⟩ k = xs at B1 HL l1
  generalize bitsS ⟨a', b', c', d'⟩ k = ys at B2 HL l2
  generalize bitsS ⟨g0, g1, g2, g3⟩ k = zs at B3 HL l3
  have hk3 : (n : Int) % 41 = (k : Int) := by omega
  have HLN := Lib.hid (And.intro l1 (And.intro l2 l3))
  clear eg em er ez hg hm hr hs ht hk l1 l2 l3
  go_enter Try.func5, Try.ntmps5
  go_wp2_with fail
  have U1 := C4.new w a b c d 24
  have hsz : (w.alloc (.cells #[.int .u64 (a : Int), .int .u64 (b : Int), .int .u64 (c : Int), .int .u64 (d : Int)] 24)).heap.size = w.heap.size + 1 := Array.size_push _
  have U2 := C4.new (w.alloc (.cells #[.int .u64 (a : Int), .int .u64 (b : Int), .int .u64 (c : Int), .int .u64 (d : Int)] 24)) a' b' c' d' 24
  rw [hsz] at U2
  clear hsz
  replace U1 := U1.below (below_alloc (Below.refl _ _) (.cells #[.int .u64 (a' : Int), .int .u64 (b' : Int), .int .u64 (c' : Int), .int .u64 (d' : Int)] 24))
  replace hB := below_alloc (below_alloc hB (.cells #[.int .u64 (a : Int), .int .u64 (b : Int), .int .u64 (c : Int), .int .u64 (d : Int)] 24)) (.cells #[.int .u64 (a' : Int), .int .u64 (b' : Int), .int .u64 (c' : Int), .int .u64 (d' : Int)] 24)
  generalize World.alloc (World.alloc w _) _ = V at U1 U2 hB ⊢
  generalize hc1 : w.heap.size + 1 = p2 at U2 ⊢
  generalize hc2 : w.heap.size = p1 at U1 ⊢
  clear hc1 hc2
  refine (awake7 _).mono ?_
  rintro e W0 ⟨rfl, hb⟩
  replace U1 := U1.below hb
  replace U2 := U2.below hb
  replace hB := below_then hB hb
  clear hb
  go_upto_region 4 with fail
  obtain ⟨x1, x2, x3, x4⟩ := id U1
  go_wp2_with fail
  clear x1 x2 x3 x4
  refine (B1.out _).mono ?_
  rintro e w1 ⟨A1, k1, rfl, R1, hb⟩
  rw [HLN.out.1]
  replace U1 := U1.below hb
  replace U2 := U2.below hb
  replace hB := below_then hB hb
  clear hb
  obtain ⟨x1, x2, x3, x4⟩ := id U2
  go_wp2_with fail
  clear x1 x2 x3 x4
  refine (B2.out _).mono ?_
  rintro e w2 ⟨A2, k2, rfl, R2, hb⟩
  rw [HLN.out.2.1]
  replace U1 := U1.below hb
  replace U2 := U2.below hb
  replace R1 := R1.below hb
  replace hB := below_then hB hb
  clear hb
  obtain ⟨x1, x2, x3, x4⟩ := id U1
  obtain ⟨y1, y2, y3, y4⟩ := id U2
  go_wp2_with fail
  clear x1 x2 x3 x4 y1 y2 y3 y4
  refine (J1.out _).mono ?_
  rintro e w3 ⟨rfl, hb⟩
  replace U1 := U1.below hb
  replace U2 := U2.below hb
  replace R1 := R1.below hb
  replace R2 := R2.below hb
  replace hB := below_then hB hb
  clear hb
  go_wp2_with fail
  refine (B3.out _).mono ?_
  rintro e w4 ⟨A3, k3, rfl, R3, hb⟩
  rw [HLN.out.2.2]
  replace U1 := U1.below hb
  replace U2 := U2.below hb
  replace R1 := R1.below hb
  replace R2 := R2.below hb
  replace hB := below_then hB hb
  clear hb
  have H1 := Lib.hid R1
  have H2 := Lib.hid R2
  have H3 := Lib.hid R3
  clear R1 R2 R3
  go_wp2_with fail
  go_loopg [70] k (fun g i wr => ∃ j q : Nat, j + g = k ∧ i = .int .i64 j ∧ wr = w4.drewN q)
  case atStart => exact ⟨0, 0, by omega, rfl, rfl⟩
  case round =>
    obtain ⟨j, q, hj, rfl, rfl⟩ := hrel
    by_cases hlt : j < k
    · have kl : (j : Int) < (k : Int) := by omega
      have k0 : (0 : Int) ≤ (j : Int) := by omega
      obtain ⟨bx, ox, rfl, q1⟩ := H1.out.cell j (by rw [HLN.out.1]; exact hlt)
      obtain ⟨by_, oy, rfl, q2⟩ := H2.out.cell j (by rw [HLN.out.2.1]; exact hlt)
      obtain ⟨bz, oz, rfl, q3⟩ := H3.out.cell j (by rw [HLN.out.2.2]; exact hlt)
      rw [HL.out j hlt] at q3
      generalize xs.getD j false = p at q1 q3
      generalize ys.getD j false = r at q2 q3
      cases p <;> cases r
      all_goals
        first | (change _ = some (Value.bool false) at q3) | (change _ = some (Value.bool true) at q3)
        go_wp2_with fail
        go_quiet (fail)
        go_wp2_with fail
        go_roundg (gk - 1)
        case measure => omega
        case rel => exact ⟨j + 1, _, by omega, by go_num, rfl⟩
    · obtain rfl : j = k := by omega
      have kl : ¬ (j : Int) < (j : Int) := by omega
      clear H1 H2 H3 B1 B2 B3 HL HLN
      have LB : Below w4.heap.size w4 (w4.drewN q) := below_drewN' (Below.refl _ _) q
      replace U1 := U1.below LB
      replace U2 := U2.below LB
      replace hB := below_then hB LB
      clear LB
      generalize w4.drewN q = W1 at U1 U2 hB ⊢
      have HQ : Hid (∀ (x0 x1 x2 x3 : Nat) (W : World), Sem.run Try.prog (Op.equalIn 10000 24 (.agg #[.int .u64 (x0 : Int), .int .u64 (x1 : Int), .int .u64 (x2 : Int), .int .u64 (x3 : Int)]) (.agg #[.int .u64 (x0 : Int), .int .u64 (x1 : Int), .int .u64 (x2 : Int), .int .u64 (x3 : Int)])) W = .ok true W) := Lib.hid (fun x0 x1 x2 x3 W => by
        have := sameS ⟨x0, x1, x2, x3⟩ ⟨x0, x1, x2, x3⟩ W
        rwa [decide_eq_true rfl] at this)
      go_wp2_with fail
      refine wp_region_class (fun w' => Below W1.heap.size W1 w') (by kernel_rfl) (by kernel_rfl) (Below.refl _ _).drew ?_
      iterate 29
        (refine WQ.yes ?_ (by rfl) (fun w' hC => ?_) ?_
         rotate_left
         · (obtain ⟨x1, x2, x3, x4⟩ := U1.below hC
            obtain ⟨y1, y2, y3, y4⟩ := U2.below hC
            have q := HQ.out
            go_simp
            first | done | with_reducible rfl | exact ⟨rfl, rfl⟩ | (go_at_call 18; (with_reducible exact quietA4 (J1.out _) hC)) | (go_at_call 10; (with_reducible exact quietA4 (J2.out _) hC)) | (go_at_call 10; (with_reducible exact quietA4 (J3.out _) hC)) | (go_at_call 10; (with_reducible exact quietA4 (J4.out _) hC)) | (go_at_call 18; (with_reducible exact quietA4 (J5.out _) hC)) | (go_at_call 18; (with_reducible exact quietA4 (J6.out _) hC)) | (go_at_call 18; (with_reducible exact quietA4 (J7.out _) hC)))
         (try simp only [Act.put, List.setIfInBounds_toArray, List.set_cons_zero, List.set_cons_succ]))
      refine WQ.nil ?_
      intro wz hX
      go_wp2
      go_ret
      exact ⟨rfl, below_then hB hX⟩
theorem xoshLinear (s t : St) (n : Nat) (hs : s.Ok) (ht : t.Ok) (hn : n < 256) (w : World) : Calls Try.prog 5 #[s.val, t.val, .int .u8 (n : Int)] w (Bl true w) :=
  linearN s.a s.b s.c s.d t.a t.b t.c t.d _ _ _ _ _ _ _ _ _ _ _ _ _ _ _ _ n _ rfl hs ht rfl rfl rfl rfl w
end Go.Proofs.Ythohgleklcoglaa
