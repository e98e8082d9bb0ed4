/-
  awake of layer 11's statements answers true, from what philox's calls answer. Made by wip/gen/phtells.py.
-/
import Derived.Test.YtfockbhicmdehaaPhTellsW
namespace Go.Proofs.Ytfockbhicmdehaa
open Go.RowKit
set_option linter.unusedVariables false
set_option maxRecDepth 100000

set_option maxHeartbeats 8000000 in
theorem awake11Main (w : World)
    (CM : Hid (T4E 14 #[.agg #[.int .u32 1, .int .u32 2, .int .u32 3, .int .u32 4], .agg #[.int .u32 5, .int .u32 6], .int .i64 0] 1 2 3 4 0)) (CN : Hid (T4E 14 #[.agg #[.int .u32 1, .int .u32 2, .int .u32 3, .int .u32 4], .agg #[.int .u32 0, .int .u32 0], .int .i64 101] 0 0 0 0 1)) (CU : Hid (T4E 15 #[.agg #[.int .u32 1, .int .u32 2, .int .u32 3, .int .u32 4], .agg #[.int .u32 0, .int .u32 0], .int .i64 (-1)] 0 0 0 0 1))
    (CR : Hid (T4 8 #[.agg #[.int .u32 1, .int .u32 0, .int .u32 0, .int .u32 9], .agg #[.int .u32 5, .int .u32 6]] 5 0 15 3528531795)) (CV : Hid (T4 16 #[.agg #[.int .u32 5, .int .u32 0, .int .u32 15, .int .u32 3528531795], .agg #[.int .u32 5, .int .u32 6]] 1 0 0 9)) (CX : Hid (T2 10 #[.agg #[.int .u32 1, .int .u32 2]] 2654435770 3144134279)) (CO : Hid (T4 12 #[.agg #[.int .u32 0, .int .u32 0, .int .u32 0, .int .u32 0], .agg #[.int .u32 0, .int .u32 0]] 1713891541 3781805453 3159862348 2600524760)) :
    Calls Try.prog 7 #[] w (Bl true w) := by
  have hB : Below w.heap.size w w := Below.refl _ _
  go_enter Try.func7, Try.ntmps7
  go_wp2_with fail
  refine (CM.out _).mono ?_
  rintro e e1 ⟨rfl, hb⟩
  replace hB := below_then hB hb
  clear hb
  go_upto_region 2 with fail
  have Ua := B4.new 24 e1 1 2 3 4
  have LB := below_allocs e1 (.cells #[.int .u32 1, .int .u32 2, .int .u32 3, .int .u32 4] 24)
  replace hB := below_then hB LB
  clear LB
  generalize e1.alloc _ = Y1 at Ua hB ⊢
  generalize e1.heap.size = ca at Ua ⊢
  obtain ⟨x0, x1, x2, x3⟩ := Ua.cells
  go_wp2_with fail
  clear x0 x1 x2 x3
  refine (CN.out _).mono ?_
  rintro e e2 ⟨rfl, hb⟩
  replace Ua := Ua.below hb
  replace hB := below_then hB hb
  clear hb
  go_upto_region 3 with fail
  have Uz := B4.new 24 e2 0 0 0 0
  have LB := below_allocs e2 (.cells #[.int .u32 0, .int .u32 0, .int .u32 0, .int .u32 0] 24)
  replace Ua := Ua.below LB
  replace hB := below_then hB LB
  clear LB
  generalize e2.alloc _ = Y2 at Ua Uz hB ⊢
  generalize e2.heap.size = cz at Uz ⊢
  obtain ⟨x0, x1, x2, x3⟩ := Ua.cells
  go_wp2_with fail
  clear x0 x1 x2 x3
  refine (CU.out _).mono ?_
  rintro e e3 ⟨rfl, hb⟩
  replace Ua := Ua.below hb
  replace hB := below_then hB hb
  clear hb
  go_upto_region 4 with fail
  have Uy := B4.new 24 e3 0 0 0 0
  have LB := below_allocs e3 (.cells #[.int .u32 0, .int .u32 0, .int .u32 0, .int .u32 0] 24)
  replace Ua := Ua.below LB
  replace hB := below_then hB LB
  clear LB
  generalize e3.alloc _ = Y3 at Ua Uy hB ⊢
  generalize e3.heap.size = cy at Uy ⊢
  go_wp2_with fail
  refine (CR.out _).mono ?_
  rintro e e4 ⟨rfl, hb⟩
  replace Ua := Ua.below hb
  replace hB := below_then hB hb
  clear hb
  go_upto_region 5 with fail
  have Ur := B4.new 24 e4 5 0 15 3528531795
  have LB := below_allocs e4 (.cells #[.int .u32 5, .int .u32 0, .int .u32 15, .int .u32 3528531795] 24)
  replace Ua := Ua.below LB
  replace hB := below_then hB LB
  clear LB
  generalize e4.alloc _ = Y4 at Ua Ur hB ⊢
  generalize e4.heap.size = cr at Ur ⊢
  have q1 := eqA
  have q2 := eqP
  have q3 := eqB
  have q4 := eqK
  obtain ⟨x0, x1, x2, x3⟩ := Ua.cells
  obtain ⟨u0, u1, u2, u3⟩ := Ur.cells
  go_wp2_with fail
  clear x0 x1 x2 x3 u0 u1 u2 u3
  refine (CV.out _).mono ?_
  rintro e e5 ⟨rfl, hb⟩
  replace Ua := Ua.below hb
  replace Ur := Ur.below hb
  replace hB := below_then hB hb
  clear hb
  go_wp2_with fail
  refine (CX.out _).mono ?_
  rintro e e6 ⟨rfl, hb⟩
  replace Ua := Ua.below hb
  replace Ur := Ur.below hb
  replace hB := below_then hB hb
  clear hb
  go_wp2_with fail
  refine (CO.out _).mono ?_
  rintro e e7 ⟨rfl, hb⟩
  replace Ua := Ua.below hb
  replace Ur := Ur.below hb
  replace hB := below_then hB hb
  clear hb
  go_wp2
  go_ret
  exact ⟨rfl, hB⟩
theorem round9 : roundB ⟨1, 0, 0, 9⟩ ⟨5, 6⟩ = ⟨5, 0, 15, 3528531795⟩ := Bk.same (by decide +kernel) (by decide +kernel) (by decide +kernel) (by decide +kernel)
theorem out0 : mixB ⟨0, 0, 0, 0⟩ ⟨0, 0⟩ 10 = ⟨1713891541, 3781805453, 3159862348, 2600524760⟩ := Bk.same (by decide +kernel) (by decide +kernel) (by decide +kernel) (by decide +kernel)
theorem next12 : nextK ⟨1, 2⟩ = ⟨2654435770, 3144134279⟩ := rfl
theorem awake11 (X : HX) (w : World) : Calls Try.prog 7 #[] w (Bl true w) := by
  have k5 : Ky.Ok ⟨5, 6⟩ := ⟨by decide, by decide⟩
  have k0 : Ky.Ok ⟨0, 0⟩ := ⟨by decide, by decide⟩
  have b1 : Bk.Ok ⟨1, 2, 3, 4⟩ := ⟨by decide, by decide, by decide, by decide⟩
  have b9 : Bk.Ok ⟨1, 0, 0, 9⟩ := ⟨by decide, by decide, by decide, by decide⟩
  have b0 : Bk.Ok ⟨0, 0, 0, 0⟩ := ⟨by decide, by decide, by decide, by decide⟩
  have CR := X.round ⟨1, 0, 0, 9⟩ ⟨5, 6⟩ b9 k5
  have CV := X.unround (roundB ⟨1, 0, 0, 9⟩ ⟨5, 6⟩) ⟨5, 6⟩ (roundB_ok b9 k5) k5
  rw [unround_round b9, round9] at CV
  rw [round9] at CR
  have CO := X.out ⟨0, 0, 0, 0⟩ ⟨0, 0⟩ b0 k0
  rw [out0] at CO
  have CX := X.next ⟨1, 2⟩ ⟨by decide, by decide⟩
  rw [next12] at CX
  exact awake11Main w (Lib.hid (X.mixY ⟨1, 2, 3, 4⟩ ⟨5, 6⟩ 0 b1 k5 (by decide))) (Lib.hid (X.mixN ⟨1, 2, 3, 4⟩ ⟨0, 0⟩ 101 b1 k0 (by decide))) (Lib.hid (X.unmixN ⟨1, 2, 3, 4⟩ ⟨0, 0⟩ (-1) b1 k0 (by decide))) (Lib.hid CR) (Lib.hid CV) (Lib.hid CX) (Lib.hid CO)
end Go.Proofs.Ytfockbhicmdehaa
