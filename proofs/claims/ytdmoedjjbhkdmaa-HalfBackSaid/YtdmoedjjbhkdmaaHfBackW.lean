/-
  The walk of HalfBack, from what half's calls answer. Made by wip/gen/hfw.py.
-/
import Derived.Test.YtdmoedjjbhkdmaaHfStepsW
namespace Go.Proofs.Ytdmoedjjbhkdmaa
open Go.RowKit G
set_option linter.unusedVariables false
set_option maxRecDepth 100000

set_option maxHeartbeats 8000000 in
theorem pbackMain (aw : Hid (∀ W, Calls Try.prog 8 #[] W (Bl true W))) (y z u : Hw) (b c : Bk) (nh nl : Int) (w : World)
    (C1 : Hid (TH 15 #[y.val] z)) (C2 : Hid (TH 22 #[z.val] y)) (D1 : Hid (TH 22 #[y.val] u)) (D2 : Hid (TH 15 #[u.val] y))
    (B1 : Hid (TB 18 #[.agg #[.int .u64 y.h, .int .u64 y.l]] c)) (B2 : Hid (TN 23 #[c.val] y.h y.l)) (B3 : Hid (TN 23 #[b.val] nh nl)) (B4 : Hid (TB 18 #[.agg #[.int .u64 nh, .int .u64 nl]] b)) :
    Calls Try.prog 5 #[y.val, b.val] w (Bl true w) := by
  have hB : Below w.heap.size w w := Below.refl _ _
  go_enter Try.func5, Try.ntmps5
  go_wp2_with fail
  have Uy := K5.new 29 w y
  have LB := below_allocs w (.cells #[.int .u64 y.h, .int .u64 y.l, .int .u32 y.k, .int .u32 y.m, .bool y.s] 29)
  replace hB := below_then hB LB
  clear LB
  have z1 : (w.alloc (.cells #[.int .u64 y.h, .int .u64 y.l, .int .u32 y.k, .int .u32 y.m, .bool y.s] 29)).heap.size = w.heap.size + 1 := Array.size_push _
  generalize w.alloc _ = V1 at Uy hB z1 ⊢
  have Ub := _root_.Go.Proofs.Ytdmoedjjbhkdmaa.B4.new 47 V1 b.a b.b b.c b.d
  have LB := below_allocs V1 (.cells #[.int .u32 (b.a : Int), .int .u32 (b.b : Int), .int .u32 (b.c : Int), .int .u32 (b.d : Int)] 47)
  replace Uy := Uy.below LB
  replace hB := below_then hB LB
  clear LB
  have z2 : (V1.alloc (.cells #[.int .u32 (b.a : Int), .int .u32 (b.b : Int), .int .u32 (b.c : Int), .int .u32 (b.d : Int)] 47)).heap.size = w.heap.size + 2 := (Array.size_push _).trans (by rw [z1])
  rw [z1] at Ub
  generalize V1.alloc _ = V2 at Uy Ub hB z2 ⊢
  clear z1 z2
  generalize w.heap.size + 1 = cb at Ub ⊢
  obtain ⟨cy, hcy⟩ : ∃ c, c = w.heap.size := ⟨_, rfl⟩
  rw [← hcy] at Uy ⊢
  clear hcy
  refine (aw.out _).mono ?_
  rintro e W0 ⟨rfl, hb⟩
  replace Uy := Uy.below hb
  replace Ub := Ub.below hb
  replace hB := below_then hB hb
  clear hb
  clear aw
  go_wp2_with fail
  have HS := Lib.hid (And.intro Uy Ub)
  refine wp_region_class (fun w' => Below W0.heap.size W0 w') (by kernel_rfl) (by kernel_rfl) (Below.refl _ _).drew ?_
  iterate 29
    (refine WQ.yes ?_ (by rfl) (fun w' hC => ?_) ?_
     rotate_left
     · (obtain ⟨x0, x1, x2, x3, x4⟩ := (HS.out.1.below hC).cells
        obtain ⟨u0, u1, u2, u3⟩ := (HS.out.2.below hC).cells
        have q1 := qK; have q2 := qP; have q3 := eqB
        go_simp
        first
          | done
          | with_reducible rfl
          | exact ⟨rfl, rfl⟩
          | (go_at_call 15; first | (with_reducible exact quietH (C1.out _) hC) | (with_reducible exact quietH (D2.out _) hC))
          | (go_at_call 22; first | (with_reducible exact quietH (C2.out _) hC) | (with_reducible exact quietH (D1.out _) hC))
          | (go_at_call 18; first | (with_reducible exact quiet4 (B1.out _) hC) | (with_reducible exact quiet4 (B4.out _) hC))
          | (go_at_call 23; first | (with_reducible exact quietA (B2.out _) hC) | (with_reducible exact quietA (B3.out _) hC)))
     (try simp only [Act.put, List.setIfInBounds_toArray, List.set_cons_zero, List.set_cons_succ]))
  refine WQ.nil ?_
  intro wz hX
  go_wp2
  go_ret
  exact ⟨rfl, below_then hB hX⟩
theorem halfBack (X : HF) (aw : Hid (∀ W, Calls Try.prog 8 #[] W (Bl true W))) (x : Hs) (b : Bk) (hx : x.Ok) (hb : b.Ok) (w : World) : Calls Try.prog 5 #[x.val, b.val] w (Bl true w) := by
  have C2 := X.back (stepH x) (stepH_ok hx)
  rw [back_step hx] at C2
  have D2 := X.step (backH x) (backH_ok hx)
  rw [step_back hx] at D2
  have B2 := X.number (blockH x.C) (blockH_ok _)
  rw [num_block hx.c] at B2
  have B4 := X.block (numH b) (numH_lt hb)
  rw [block_num hb] at B4
  exact pbackMain aw x.w (stepH x).w (backH x).w b (blockH x.C) _ _ w (Lib.hid (X.step x hx)) (Lib.hid C2) (Lib.hid (X.back x hx)) (Lib.hid D2) (Lib.hid (X.block x.C hx.c)) (Lib.hid B2) (Lib.hid (X.number b hb)) (Lib.hid B4)
end Go.Proofs.Ytdmoedjjbhkdmaa
