/-
  awake of layer 18's statements answers true, by what the calls of package bound answer.
-/
import Derived.Test.YtkpignbmocpcaaaGreatBdO
namespace Go.Proofs.YtkpignbmocpcaaaGreat
open Go.RowKit
set_option linter.unusedVariables false
set_option maxRecDepth 100000

theorem aA1 (bx : BX) (w : World) : Calls Tryz.prog 6 #[.int .u64 9223372036854775809, .int .u64 6] w (fun e w' => e = .returned (.tuple #[.int .u64 3, .bool true]) ∧ Below w.heap.size w w') := by
  have h := bx.acc 9223372036854775809 6 (by decide) (by decide) w
  rw [show acV 9223372036854775809 6 = 3 from by kernel_rfl, show takenB N64 9223372036854775809 6 = true from by kernel_rfl] at h
  exact h

theorem aA2 (bx : BX) (w : World) : Calls Tryz.prog 6 #[.int .u64 0, .int .u64 3] w (fun e w' => e = .returned (.tuple #[.int .u64 0, .bool false]) ∧ Below w.heap.size w w') := by
  have h := bx.acc 0 3 (by decide) (by decide) w
  rw [show acV 0 3 = 0 from by kernel_rfl, show takenB N64 0 3 = false from by kernel_rfl] at h
  exact h

theorem aA3 (bx : BX) (w : World) : Calls Tryz.prog 6 #[.int .u64 5, .int .u64 0] w (fun e w' => e = .returned (.tuple #[.int .u64 0, .bool false]) ∧ Below w.heap.size w w') := by
  have h := bx.acc 5 0 (by decide) (by decide) w
  rw [show acV 5 0 = 0 from by kernel_rfl, show takenB N64 5 0 = false from by kernel_rfl] at h
  exact h

theorem aR1 (bx : BX) (w : World) : Calls Tryz.prog 8 #[.int .u64 1, .int .u64 3] w (fun e w' => e = .returned (.tuple #[.int .u64 6148914691236517206, .int .u64 12297829382473034410, .int .i64 0]) ∧ Below w.heap.size w w') := by
  have h := bx.rng 1 3 (by decide) (by decide) w
  rw [show rgL 1 3 = 6148914691236517206 from by kernel_rfl, show rgH 1 3 = 12297829382473034410 from by kernel_rfl, show rgE 1 3 = 0 from by kernel_rfl] at h
  exact h

theorem aR2 (bx : BX) (w : World) : Calls Tryz.prog 8 #[.int .u64 0, .int .u64 0] w (fun e w' => e = .returned (.tuple #[.int .u64 0, .int .u64 0, .int .i64 8]) ∧ Below w.heap.size w w') := by
  have h := bx.rng 0 0 (by decide) (by decide) w
  rw [show rgL 0 0 = 0 from by kernel_rfl, show rgH 0 0 = 0 from by kernel_rfl, show rgE 0 0 = 8 from by kernel_rfl] at h
  exact h

theorem aR3 (bx : BX) (w : World) : Calls Tryz.prog 8 #[.int .u64 3, .int .u64 3] w (fun e w' => e = .returned (.tuple #[.int .u64 0, .int .u64 0, .int .i64 1]) ∧ Below w.heap.size w w') := by
  have h := bx.rng 3 3 (by decide) (by decide) w
  rw [show rgL 3 3 = 0 from by kernel_rfl, show rgH 3 3 = 0 from by kernel_rfl, show rgE 3 3 = 1 from by kernel_rfl] at h
  exact h

theorem word1 : mixN (stepN 0) = 16294208416658607535 := by kernel_rfl
theorem word2 : mixN (stepN (stepN 0)) = 7960286522194355700 := by kernel_rfl
theorem aNext (bx : BX) {d c : Nat} {w : World} (h : Sm w d c 0 0 0 2) : Calls Tryz.prog 14 #[.pointer (some ⟨d, 0, none⟩), .int .u64 4294967296] w (fun e w' => e = .returned (.tuple #[.int .u64 3793791033, .int .i64 0]) ∧ Sm w' d c 0 1 (stepN 0) 2 ∧ Only c w w') := by
  have k := bx.take d c 0 0 0 2 4294967296 w h (by decide) (by decide) (by decide) (by decide) (by decide) (by rw [word1]; kernel_rfl)
  rw [word1, show tellB N64 16294208416658607535 4294967296 = 3793791033 from by kernel_rfl] at k
  exact k
theorem aFive (bx : BX) {d c : Nat} {w : World} (h : Sm w d c 0 1 (stepN 0) 2) : Calls Tryz.prog 15 #[.pointer (some ⟨d, 0, none⟩), .int .i64 5] w (fun e w' => e = .returned (.tuple #[.slice none 0 0, .int .i64 7]) ∧ Sz w' d c 2 2 ∧ Only c w w') :=
  bx.five d c 0 1 (stepN 0) w h (by decide) (by rw [word2]; kernel_rfl)
theorem aLeft {d c : Nat} {w : World} (h : Sz w d c 2 2) : Calls Tryz.prog 17 #[.pointer (some ⟨d, 0, none⟩)] w (fun e w' => e = .returned (.agg #[.int .u64 0, .int .u64 0]) ∧ Below w.heap.size w w') :=
  smLeft (Nat.le_refl 2) (by decide) h
set_option maxHeartbeats 8000000 in
theorem awake18 (bx : BX) (w : World) : Calls Tryz.prog 5 #[] w (fun e w' => e = .returned (.bool true) ∧ Below w.heap.size w w') := by
  have BX' := Lib.hid bx
  go_enter Tryz.func5, Tryz.ntmps5
  go_wp2_with fail
  refine (aA1 BX'.out _).mono ?_
  rintro e V1 ⟨rfl, hb⟩
  have B := Lib.hid hb
  clear hb
  go_wp2_with fail
  refine (aA2 BX'.out _).mono ?_
  rintro e V2 ⟨rfl, hb⟩
  replace B := Lib.hid (below_then B.out hb)
  clear hb
  go_wp2_with fail
  refine (aA3 BX'.out _).mono ?_
  rintro e V3 ⟨rfl, hb⟩
  replace B := Lib.hid (below_then B.out hb)
  clear hb
  go_wp2_with fail
  refine (aR1 BX'.out _).mono ?_
  rintro e V4 ⟨rfl, hb⟩
  replace B := Lib.hid (below_then B.out hb)
  clear hb
  go_wp2_with fail
  refine (aR2 BX'.out _).mono ?_
  rintro e V5 ⟨rfl, hb⟩
  replace B := Lib.hid (below_then B.out hb)
  clear hb
  go_wp2_with fail
  refine (aR3 BX'.out _).mono ?_
  rintro e V6 ⟨rfl, hb⟩
  replace B := Lib.hid (below_then B.out hb)
  clear hb
  go_wp2_with fail
  refine (lOpen (n := 0) (m := 2) (by decide) (by decide) _).mono ?_
  rintro e V7 ⟨d, c, x, rfl, S, hd, hc, hb⟩
  have K := Lib.hid (And.intro S (And.intro (show w.heap.size ≤ c from Nat.le_trans B.out.size hc) (below_then B.out hb)))
  clear hb S hd hc B
  go_wp2_with fail
  refine (aNext BX'.out K.out.1).mono ?_
  rintro e V8 ⟨rfl, S, ho⟩
  replace K := Lib.hid (And.intro S (And.intro K.out.2.1 (K.out.2.2.trans (ho.below K.out.2.1 K.out.2.2.size))))
  clear S ho
  go_wp2_with fail
  refine (BX'.out.zero d _).mono ?_
  rintro e V9 ⟨rfl, hb⟩
  replace K := Lib.hid (And.intro (K.out.1.below hb) (And.intro K.out.2.1 (below_then K.out.2.2 hb)))
  clear hb
  go_wp2_with fail
  refine (BX'.out.nil 5 _ (by decide)).mono ?_
  rintro e V10 ⟨rfl, hb⟩
  replace K := Lib.hid (And.intro (K.out.1.below hb) (And.intro K.out.2.1 (below_then K.out.2.2 hb)))
  clear hb
  go_wp2_with fail
  refine (aFive BX'.out K.out.1).mono ?_
  rintro e V11 ⟨rfl, S, ho⟩
  replace K := Lib.hid (And.intro S (And.intro K.out.2.1 (K.out.2.2.trans (ho.below K.out.2.1 K.out.2.2.size))))
  clear S ho
  go_wp2_with fail
  refine (BX'.out.long d _).mono ?_
  rintro e V12 ⟨rfl, hb⟩
  replace K := Lib.hid (And.intro (K.out.1.below hb) (And.intro K.out.2.1 (below_then K.out.2.2 hb)))
  clear hb
  go_wp2_with fail
  refine (BX'.out.one d _).mono ?_
  rintro e V13 ⟨g, cap, rfl, hg, hb⟩
  replace K := Lib.hid (And.intro (K.out.1.below hb) (And.intro hg (below_then K.out.2.2 hb)))
  clear hb hg BX'
  go_wp2_with fail
  have L14 := below_allocs V13 (.cells #[.int .i64 0] 3)
  have Y := Blk.new V13 #[.int .i64 0] 3
  have G14 : (V13.alloc (.cells #[.int .i64 0] 3)).cell? ⟨g, 0, none⟩ = some (.int .i64 0) := (L14.cell (p := ⟨g, 0, none⟩) (World.block_lt_of_cell? _ _ K.out.2.1)).trans K.out.2.1
  replace K := Lib.hid (And.intro (K.out.1.below L14) (And.intro G14 (And.intro (Y.cell 0 (.int .i64 0) rfl) (below_then K.out.2.2 L14))))
  clear L14 Y G14
  generalize V13.alloc _ = V14 at K ⊢
  refine (rInts1 K.out.2.1 K.out.2.2.1).mono ?_
  rintro e V15 ⟨rfl, hb⟩
  replace K := Lib.hid (And.intro (K.out.1.below hb) (below_then K.out.2.2.2 hb))
  clear hb
  go_wp2_with fail
  refine (aLeft K.out.1).mono ?_
  rintro e V16 ⟨rfl, hb⟩
  have B := Lib.hid (below_then K.out.2 hb)
  clear hb K
  go_wp2_with fail
  go_ret
  exact ⟨rfl, B.out⟩
end Go.Proofs.YtkpignbmocpcaaaGreat
