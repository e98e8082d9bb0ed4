/-
  The walk of HalfSteps, from what half's calls answer. Made by wip/gen/hfw.py.
-/
import Derived.Test.YtdmoedjjbhkdmaaHfS
namespace Go.Proofs.Ytdmoedjjbhkdmaa
open Go.RowKit G
set_option linter.unusedVariables false
set_option maxRecDepth 100000

/-- Arrays of two words that are compared, in a struct. -/
theorem qK (n : Nat) (a b a' b' : Int) (w : World) : Sem.run Try.prog (Op.equalIn (n + 1 + 1) 27 (.agg #[.int .u32 a, .int .u32 b]) (.agg #[.int .u32 a', .int .u32 b'])) w = .ok (a == a' && b == b') w := eq2 _ n Try.underlying27 a b a' b' w
theorem qP (n : Nat) (a b a' b' : Int) (w : World) : Sem.run Try.prog (Op.equalIn (n + 1 + 1) 26 (.agg #[.int .u32 a, .int .u32 b]) (.agg #[.int .u32 a', .int .u32 b'])) w = .ok (a == a' && b == b') w := eq2 _ n Try.underlying26 a b a' b' w
theorem u_small {n : Nat} (h : n < 18446744073709551616) : U n = .agg #[.int .u64 0, .int .u64 (n : Int)] := by
  unfold U hiW loW
  rw [Nat.div_eq_of_lt h, Nat.mod_eq_of_lt h]
  rfl
theorem of_small {n : Nat} (h : n < 18446744073709551616) : TN 20 #[.int .u64 (n : Int)] 0 (n : Int) := fun W => by
  have := cOf n _ rfl h W
  unfold AnsW at this
  rw [show (.agg #[.int .u64 ((hiW n : Nat) : Int), .int .u64 ((loW n : Nat) : Int)] : Value) = .agg #[.int .u64 0, .int .u64 (n : Int)] from u_small h] at this
  exact this
set_option maxHeartbeats 8000000 in
theorem pstepsMain (aw : Hid (∀ W, Calls Try.prog 8 #[] W (Bl true W))) (y : Hw) (n : Nat) (hn : n < 256) (w : World) (OF : Hid (TN 20 #[.int .u64 (n : Int)] 0 (n : Int))) (OW : Hid (∀ z : Hw, TH 10 #[z.val] z))
    (way : Hid (n ≤ 200 → ∃ z : Hw, TH 16 #[y.val, .agg #[.int .u64 0, .int .u64 (n : Int)]] z ∧ TH 21 #[y.val, .int .i64 (n : Int)] z)) :
    Calls Try.prog 4 #[y.val, .int .u8 (n : Int)] w (Bl true w) := by
  have hB : Below w.heap.size w w := Below.refl _ _
  go_enter Try.func4, Try.ntmps4
  go_wp2_with fail
  have Uy := K5.new 29 w y
  have LB := below_allocs w (.cells #[.int .u64 y.h, .int .u64 y.l, .int .u32 y.k, .int .u32 y.m, .bool y.s] 29)
  replace hB := below_then hB LB
  clear LB
  have z1 : (w.alloc (.cells #[.int .u64 y.h, .int .u64 y.l, .int .u32 y.k, .int .u32 y.m, .bool y.s] 29)).heap.size = w.heap.size + 1 := Array.size_push _
  generalize w.alloc _ = V1 at Uy hB z1 ⊢
  clear z1
  obtain ⟨cy, hcy⟩ : ∃ c, c = w.heap.size := ⟨_, rfl⟩
  rw [← hcy] at Uy ⊢
  clear hcy
  refine (aw.out _).mono ?_
  rintro e W0 ⟨rfl, hb⟩
  replace Uy := Uy.below hb
  replace hB := below_then hB hb
  clear hb
  clear aw
  go_wp2_with fail
  have HS := Lib.hid Uy
  have w5 : IntKind.u64.wrap (n : Int) = (n : Int) := by rw [IntKind.wrap_u64]; omega
  have w6 : IntKind.i64.wrap (n : Int) = (n : Int) := by rw [IntKind.wrap_i64]; omega
  by_cases hn2 : 200 < n
  · have h1 : (n : Int) > 200 := by omega
    refine wp_region_class (fun w' => Below W0.heap.size W0 w') (by kernel_rfl) (by kernel_rfl) (Below.refl _ _).drew ?_
    iterate 3
      (refine WQ.yes ?_ (by rfl) (fun w' hC => ?_) ?_
       rotate_left
       · (obtain ⟨x0, x1, x2, x3, x4⟩ := (HS.out.below hC).cells
          go_simp
          first
            | done
            | with_reducible rfl
            | exact ⟨rfl, rfl⟩
      )
       (try simp only [Act.put, List.setIfInBounds_toArray, List.set_cons_zero, List.set_cons_succ]))
    iterate 12
      (refine WQ.no (by rfl) ?_
       (try simp only [Act.put, List.setIfInBounds_toArray, List.set_cons_zero, List.set_cons_succ]))
    iterate 2
      (refine WQ.yes ?_ (by rfl) (fun w' hC => ?_) ?_
       rotate_left
       · (obtain ⟨x0, x1, x2, x3, x4⟩ := (HS.out.below hC).cells
          go_simp
          first
            | done
            | with_reducible rfl
            | exact ⟨rfl, rfl⟩
      )
       (try simp only [Act.put, List.setIfInBounds_toArray, List.set_cons_zero, List.set_cons_succ]))
    refine WQ.nil ?_
    intro wz hX
    go_wp2
    go_ret
    exact ⟨rfl, below_then hB hX⟩
  · have h1 : ¬ ((n : Int) > 200) := by omega
    obtain ⟨z, J, RJ⟩ := way.out (by omega)
    have J := Lib.hid J
    have RJ := Lib.hid RJ
    clear way
    refine wp_region_class (fun w' => Below W0.heap.size W0 w') (by kernel_rfl) (by kernel_rfl) (Below.refl _ _).drew ?_
    iterate 17
      (refine WQ.yes ?_ (by rfl) (fun w' hC => ?_) ?_
       rotate_left
       · (obtain ⟨x0, x1, x2, x3, x4⟩ := (HS.out.below hC).cells
          have q1 := qK; have q2 := qP; have q3 := eqB
          go_simp
          first
            | done
            | with_reducible rfl
            | exact ⟨rfl, rfl⟩
            | (go_at_call 20; first | (with_reducible exact quietA (OF.out _) hC))
            | (go_at_call 16; first | (with_reducible exact quietH (J.out _) hC))
            | (go_at_call 10; (with_reducible exact quietH (OW.out _ _) hC))
            | (go_at_call 21; first | (with_reducible exact quietH (RJ.out _) hC)))
       (try simp only [Act.put, List.setIfInBounds_toArray, List.set_cons_zero, List.set_cons_succ]))
    refine WQ.nil ?_
    intro wz hX
    go_wp2
    go_ret
    exact ⟨rfl, below_then hB hX⟩
theorem halfSteps (X : HF) (aw : Hid (∀ W, Calls Try.prog 8 #[] W (Bl true W))) (x : Hs) (hx : x.Ok) (n : Nat) (hn : n < 256) (w : World) : Calls Try.prog 4 #[x.val, .int .u8 (n : Int)] w (Bl true w) := by
  refine pstepsMain aw x.w n hn w (Lib.hid (of_small (by omega))) (Lib.hid yOwnH) (Lib.hid fun h => ?_)
  have J := X.jump x n hx (by omega)
  rw [u_small (by omega), ← iterH_jump hx] at J
  exact ⟨(iterH x n).w, J, yJumpH x hx n (by omega)⟩
end Go.Proofs.Ytdmoedjjbhkdmaa
