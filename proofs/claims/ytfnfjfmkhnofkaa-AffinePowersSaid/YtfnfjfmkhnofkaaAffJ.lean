/-
  awake of layer 9's statements answers true, from what affine's calls answer.
-/
import Derived.Test.YtfnfjfmkhnofkaaAffBackW
namespace Go.Proofs.Ytfnfjfmkhnofkaa
open Go.RowKit G
set_option linter.unusedVariables false
set_option maxRecDepth 100000

def mK : Mp := ⟨3, 1⟩
theorem mK_ok : mK.Ok := ⟨by decide, by decide⟩
theorem wn0 (n : Nat) (h : n < 18446744073709551616) : Wn 0 (n : Int) n := ⟨by omega, by omega, by omega, by omega, by omega⟩
set_option maxHeartbeats 8000000 in
theorem awakeMain (i0 i1 i2 i3 o0 o1 : Int) (w : World)
    (C : Hid (∀ n : Nat, n < 18446744073709551616 → TN 21 #[.int .u64 (n : Int)] 0 (n : Int)))
    (I1 : Hid (TME 10 #[.agg #[.int .u64 0, .int .u64 3, .int .u64 0, .int .u64 1]] i0 i1 i2 i3 0))
    (I2 : Hid (TME 10 #[.agg #[.int .u64 0, .int .u64 2, .int .u64 0, .int .u64 0]] 0 0 0 0 1))
    (D : Hid (TNE 8 #[.agg #[.int .u64 0, .int .u64 18446744073709551615]] o0 o1 0))
    (P1 : Hid (TN 13 #[.agg #[.int .u64 0, .int .u64 3, .int .u64 0, .int .u64 1], .agg #[.int .u64 0, .int .u64 2]] 0 7))
    (P2 : Hid (TN 13 #[.agg #[.int .u64 i0, .int .u64 i1, .int .u64 i2, .int .u64 i3], .agg #[.int .u64 0, .int .u64 7]] 0 2))
    (W2 : Hid (TM 16 #[.agg #[.int .u64 0, .int .u64 3, .int .u64 0, .int .u64 1], .agg #[.int .u64 0, .int .u64 2]] 0 9 0 4))
    (W0 : Hid (TM 16 #[.agg #[.int .u64 0, .int .u64 3, .int .u64 0, .int .u64 1], .agg #[.int .u64 0, .int .u64 0]] 0 1 0 0))
    (O : Hid (TM 18 #[] 0 1 0 0))
    (T : Hid (TM 15 #[.agg #[.int .u64 0, .int .u64 3, .int .u64 0, .int .u64 1], .agg #[.int .u64 0, .int .u64 2, .int .u64 0, .int .u64 5]] 0 6 0 7))
    (M : Hid (TN 23 #[.agg #[.int .u64 o0, .int .u64 o1], .agg #[.int .u64 0, .int .u64 18446744073709551615]] 0 1)) :
    Calls Try.prog 7 #[] w (Bl true w) := by
  have C1 : Hid (TN 21 #[.int .u64 1] 0 1) := Lib.hid (C.out 1 (by decide))
  have C2 : Hid (TN 21 #[.int .u64 2] 0 2) := Lib.hid (C.out 2 (by decide))
  have C3 : Hid (TN 21 #[.int .u64 3] 0 3) := Lib.hid (C.out 3 (by decide))
  have C4 : Hid (TN 21 #[.int .u64 4] 0 4) := Lib.hid (C.out 4 (by decide))
  have C5 : Hid (TN 21 #[.int .u64 5] 0 5) := Lib.hid (C.out 5 (by decide))
  have C6 : Hid (TN 21 #[.int .u64 6] 0 6) := Lib.hid (C.out 6 (by decide))
  have C7 : Hid (TN 21 #[.int .u64 7] 0 7) := Lib.hid (C.out 7 (by decide))
  have C9 : Hid (TN 21 #[.int .u64 9] 0 9) := Lib.hid (C.out 9 (by decide))
  have CX : Hid (TN 21 #[.int .u64 18446744073709551615] 0 18446744073709551615) := Lib.hid (C.out 18446744073709551615 (by decide))
  clear C
  have hB : Below w.heap.size w w := Below.refl _ _
  go_enter Try.func7, Try.ntmps7
  go_wp2_with fail
  refine (C3.out _).mono ?_
  rintro e V1 ⟨rfl, hb⟩
  replace hB := below_then hB hb
  clear hb
  go_wp2_with fail
  refine (C1.out _).mono ?_
  rintro e V2 ⟨rfl, hb⟩
  replace hB := below_then hB hb
  clear hb
  go_upto_region 2 with fail
  have UM := F4.new V2 0 3 0 1 26
  replace hB := below_then hB (below_allocs V2 (.cells #[.int .u64 0, .int .u64 3, .int .u64 0, .int .u64 1] 26))
  generalize V2.alloc _ = V3 at UM hB ⊢
  generalize V2.heap.size = cm at UM ⊢
  obtain ⟨k1, k2, k3, k4⟩ := UM
  have UM := F4.mk k1 k2 k3 k4
  go_wp2_with fail
  clear k1 k2 k3 k4
  refine (I1.out _).mono ?_
  rintro e V4 ⟨rfl, hb⟩
  replace UM := UM.below hb
  replace hB := below_then hB hb
  clear hb I1
  go_upto_region 3 with fail
  have UI := F4.new V4 i0 i1 i2 i3 26
  have LB := below_allocs V4 (.cells #[.int .u64 i0, .int .u64 i1, .int .u64 i2, .int .u64 i3] 26)
  replace UM := UM.below LB
  replace hB := below_then hB LB
  clear LB
  generalize V4.alloc _ = V5 at UM UI hB ⊢
  generalize V4.heap.size = ci at UI ⊢
  go_wp2_with fail
  refine (C2.out _).mono ?_
  rintro e V6 ⟨rfl, hb⟩
  replace UM := UM.below hb
  replace UI := UI.below hb
  replace hB := below_then hB hb
  clear hb
  go_wp2_with fail
  refine (I2.out _).mono ?_
  rintro e V7 ⟨rfl, hb⟩
  replace UM := UM.below hb
  replace UI := UI.below hb
  replace hB := below_then hB hb
  clear hb I2
  go_upto_region 4 with fail
  have LB := below_allocs V7 (.cells #[.int .u64 0, .int .u64 0, .int .u64 0, .int .u64 0] 26)
  replace UM := UM.below LB
  replace UI := UI.below LB
  replace hB := below_then hB LB
  clear LB
  generalize V7.alloc _ = V8 at UM UI hB ⊢
  generalize V7.heap.size = cz at ⊢
  go_wp2_with fail
  refine (CX.out _).mono ?_
  rintro e V9 ⟨rfl, hb⟩
  replace UM := UM.below hb
  replace UI := UI.below hb
  replace hB := below_then hB hb
  clear hb
  go_wp2_with fail
  refine (D.out _).mono ?_
  rintro e V10 ⟨rfl, hb⟩
  replace UM := UM.below hb
  replace UI := UI.below hb
  replace hB := below_then hB hb
  clear hb D
  go_upto_region 5 with fail
  have UO := CU.new V10 o0 o1 24
  have LB := below_allocs V10 (.cells #[.int .u64 o0, .int .u64 o1] 24)
  replace UM := UM.below LB
  replace UI := UI.below LB
  replace hB := below_then hB LB
  clear LB
  generalize V10.alloc _ = V11 at UM UI UO hB ⊢
  generalize V10.heap.size = co at UO ⊢
  have HK := Lib.hid (And.intro UM (And.intro UI UO))
  clear UM UI UO
  try dsimp only [List.append]
  refine wp_region_class (fun w' => Below V11.heap.size V11 w') (by kernel_rfl) (by kernel_rfl) (Below.refl _ _).drew ?_
  iterate 65
    (refine WQ.yes ?_ (by rfl) (fun w' hC => ?_) ?_
     rotate_left
     · (obtain ⟨k1, k2, k3, k4⟩ := HK.out.1.below hC
        obtain ⟨n1, n2, n3, n4⟩ := HK.out.2.1.below hC
        obtain ⟨v1, v2⟩ := (HK.out.2.2.below hC).c
        go_simp
        first
          | done
          | with_reducible rfl
          | exact ⟨rfl, rfl⟩
          | (go_at_call 21; first | (with_reducible exact quietA (C1.out _) hC) | (with_reducible exact quietA (C2.out _) hC) | (with_reducible exact quietA (C4.out _) hC) | (with_reducible exact quietA (C5.out _) hC) | (with_reducible exact quietA (C6.out _) hC) | (with_reducible exact quietA (C7.out _) hC) | (with_reducible exact quietA (C9.out _) hC) | (with_reducible exact quietA (CX.out _) hC))
          | (go_at_call 18; (exact quietA4 (O.out _) hC))
          | (go_at_call 23; (with_reducible exact quietA (M.out _) hC))
          | (go_at_call 13; first | (with_reducible exact quietA (P1.out _) hC) | (with_reducible exact quietA (P2.out _) hC))
          | (go_at_call 16; first | (with_reducible exact quietA4 (W2.out _) hC) | (with_reducible exact quietA4 (W0.out _) hC))
          | (go_at_call 15; (with_reducible exact quietA4 (T.out _) hC)))
     (try simp only [Act.put, List.setIfInBounds_toArray, List.set_cons_zero, List.set_cons_succ]))
  refine WQ.nil ?_
  intro wz hX
  go_wp2
  go_ret
  exact ⟨rfl, below_then hB hX⟩
theorem awake9 (X : AX) (w : World) : Calls Try.prog 7 #[] w (Bl true w) := by
  have od : mK.A % 2 = 1 := rfl
  have P2 := fun W => X.at_ (invM mK) 0 7 7 W (invM_ok od) (wn0 7 (by decide))
  rw [show (7 : Nat) = atM mK 2 from rfl, back_at od (by decide)] at P2
  have M := fun W => cMul128 (wn_of (invQ_ok (n := 18446744073709551615) rfl).1) (wn0 18446744073709551615 (by decide)) W
  rw [Nat.mul_comm, (invQ_ok (n := 18446744073709551615) rfl).2] at M
  exact awakeMain _ _ _ _ _ _ w (Lib.hid fun n h W => by
      have := cOf n n rfl h W
      unfold AnsW hiW loW at this
      rwa [Nat.div_eq_of_lt h, Nat.mod_eq_of_lt h] at this)
    (Lib.hid fun W => X.invY mK W mK_ok od) (Lib.hid fun W => X.invN ⟨2, 0⟩ W ⟨by decide, by decide⟩ rfl) (Lib.hid fun W => X.oddY 0 _ 18446744073709551615 W (wn0 18446744073709551615 (by decide)) rfl)
    (Lib.hid fun W => X.at_ mK 0 2 2 W mK_ok (wn0 2 (by decide))) (Lib.hid P2) (Lib.hid fun W => X.pow mK 0 2 2 W mK_ok (wn0 2 (by decide))) (Lib.hid fun W => X.pow mK 0 0 0 W mK_ok (wn0 0 (by decide))) (Lib.hid X.one)
    (Lib.hid fun W => X.thn mK ⟨2, 5⟩ W mK_ok ⟨by decide, by decide⟩) (Lib.hid M)
end Go.Proofs.Ytfnfjfmkhnofkaa
