/-
  The calls whose answers the document fixes: layer 7's awake answers true.
-/
import Derived.Test.YthohgleklcoglaaXshC
namespace Go.Proofs.Ythohgleklcoglaa
open Go.RowKit G
set_option linter.unusedVariables false

/-- Four words in memory. -/
structure C4 (w : World) (b : Nat) (p q r s : Int) : Prop where
  c0 : w.cell? ⟨b, 0, none⟩ = some (.int .u64 p)
  c1 : w.cell? ⟨b, 1, none⟩ = some (.int .u64 q)
  c2 : w.cell? ⟨b, 2, none⟩ = some (.int .u64 r)
  c3 : w.cell? ⟨b, 3, none⟩ = some (.int .u64 s)
theorem C4.below {w w' : World} {b : Nat} {p q r s : Int} (h : C4 w b p q r s) (hb : Below w.heap.size w w') : C4 w' b p q r s :=
  ⟨(hb.cell (p := ⟨b, 0, none⟩) (World.block_lt_of_cell? w _ h.c0)).trans h.c0, (hb.cell (p := ⟨b, 1, none⟩) (World.block_lt_of_cell? w _ h.c1)).trans h.c1, (hb.cell (p := ⟨b, 2, none⟩) (World.block_lt_of_cell? w _ h.c2)).trans h.c2, (hb.cell (p := ⟨b, 3, none⟩) (World.block_lt_of_cell? w _ h.c3)).trans h.c3⟩
theorem C4.of {t : TypeId} {w : World} {b : Nat} {s : St} (h : Bx t w b s) : C4 w b s.a s.b s.c s.d := ⟨h.cells.1, h.cells.2.1, h.cells.2.2.1, h.cells.2.2.2⟩
theorem C4.new (w : World) (p q r s : Int) (t : TypeId) : C4 (w.alloc (.cells #[.int .u64 p, .int .u64 q, .int .u64 r, .int .u64 s] t)) w.heap.size p q r s := by
  have e : (w.alloc (.cells #[.int .u64 p, .int .u64 q, .int .u64 r, .int .u64 s] t)).heap[w.heap.size]? = some (.cells #[.int .u64 p, .int .u64 q, .int .u64 r, .int .u64 s] t (0, 0)) := by
    show (w.heap.push _)[w.heap.size]? = some _
    simp
  constructor <;> (simp only [World.cell?, e]; rfl)
theorem heapNew (w : World) (o : Obj) : (w.alloc o).heap[w.heap.size]? = some o := by
  show (w.heap.push o)[w.heap.size]? = some o
  simp
theorem brsN (w : World) (l : List Bool) (h : l.length ≤ 9223372036854775807 := by decide) : Brs (w.alloc (.cells (l.map Value.bool).toArray 4)) (some ⟨w.heap.size, 0, none⟩) l.length l :=
  ⟨Nat.le_refl _, h, fun i hi => ⟨w.heap.size, 0, rfl, by
    rw [Nat.zero_add]
    have e := heapNew w (.cells (l.map Value.bool).toArray 4)
    simp only [World.cell?, e]
    simp [List.getD_eq_getElem?_getD, List.getElem?_eq_getElem hi]⟩⟩
theorem polN (w : World) (l : List Nat) (hw : Wds l) (h : l.length ≤ 9223372036854775807 := by decide) : Pol (w.alloc (.cells (l.map fun x : Nat => Value.int .u64 (x : Int)).toArray 22)) (some ⟨w.heap.size, 0, none⟩) l.length l :=
  ⟨hw, Nat.le_refl _, h, fun i hi => ⟨w.heap.size, 0, rfl, by
    rw [Nat.zero_add]
    have e := heapNew w (.cells (l.map fun x : Nat => Value.int .u64 (x : Int)).toArray 22)
    simp only [World.cell?, e]
    simp [List.getD_eq_getElem?_getD, List.getElem?_eq_getElem hi]⟩⟩
def s4 : St := ⟨1, 2, 3, 4⟩
theorem s4ok : s4.Ok := ⟨by decide, by decide, by decide, by decide⟩
theorem row3 : rowS s4 3 = [11520, 0, 1509978240] := by decide +kernel
theorem iter3 : iterS s4 3 = ⟨211106635448322, 211106232532999, 211140593188866, 9223547958715220736⟩ := by decide +kernel
theorem bits2 : bitsS s4 2 = [true, true] := by decide +kernel
theorem step1 : stepS s4 = ⟨7, 0, 262146, 211106232532992⟩ := by decide +kernel
theorem aw1 (w : World) : Calls Try.prog 13 #[.agg #[.int .u64 1, .int .u64 2, .int .u64 3, .int .u64 4], .int .i64 3] w (fun e w' => ∃ (A : Option Addr) (cap : Nat), e = .returned (.tuple #[.slice A 3 cap, .agg #[.int .u64 211106635448322, .int .u64 211106232532999, .int .u64 211140593188866, .int .u64 9223547958715220736], .int .i64 0]) ∧ Pol w' A cap [11520, 0, 1509978240] ∧ Below w.heap.size w w') := by
  refine (wordsYes s4 s4ok 3 (by decide) (by decide) w).mono ?_
  rintro e w' ⟨A, cap, rfl, P, hb⟩
  rw [row3] at P ⊢
  rw [iter3]
  exact ⟨some A, cap, rfl, P, hb⟩
theorem aw2 (w : World) : Calls Try.prog 13 #[.agg #[.int .u64 0, .int .u64 0, .int .u64 0, .int .u64 0], .int .i64 999] w (fun e w' => e = .returned (.tuple #[.slice none 0 0, .agg #[.int .u64 0, .int .u64 0, .int .u64 0, .int .u64 0], .int .i64 3]) ∧ Below w.heap.size w w') := wordsZero 999 w
theorem aw3 (w : World) : Calls Try.prog 13 #[.agg #[.int .u64 1, .int .u64 0, .int .u64 0, .int .u64 0], .int .i64 257] w (fun e w' => e = .returned (.tuple #[.slice none 0 0, .agg #[.int .u64 0, .int .u64 0, .int .u64 0, .int .u64 0], .int .i64 1]) ∧ Below w.heap.size w w') := wordsArg ⟨1, 0, 0, 0⟩ 257 (by decide) (by decide) w
theorem aw4 (w : World) : Calls Try.prog 14 #[.agg #[.int .u64 1, .int .u64 2, .int .u64 3, .int .u64 4], .int .i64 2] w (fun e w' => ∃ (A : Option Addr) (cap : Nat), e = .returned (.tuple #[.slice A 2 cap, .int .i64 0]) ∧ Brs w' A cap [true, true] ∧ Below w.heap.size w w') := by
  refine (bitsYes s4 s4ok 2 (by decide) w).mono ?_
  rintro e w' ⟨A, cap, rfl, P, hb⟩
  rw [bits2] at P ⊢
  exact ⟨A, cap, rfl, P, hb⟩
theorem aw5 (w : World) : Calls Try.prog 14 #[.agg #[.int .u64 0, .int .u64 0, .int .u64 0, .int .u64 0], .int .i64 2049] w (fun e w' => e = .returned (.tuple #[.slice none 0 0, .int .i64 1]) ∧ Below w.heap.size w w') := bitsArg St.zero 2049 (by decide) w
theorem aw6 (w : World) : Calls Try.prog 10 #[.agg #[.int .u64 1, .int .u64 2, .int .u64 3, .int .u64 4]] w (fun e w' => e = .returned (.agg #[.int .u64 7, .int .u64 0, .int .u64 262146, .int .u64 211106232532992]) ∧ Below w.heap.size w w') := by
  have := cStep s4 s4ok w
  rwa [step1] at this
theorem aw7 (w : World) : Calls Try.prog 17 #[.agg #[.int .u64 7, .int .u64 0, .int .u64 262146, .int .u64 211106232532992]] w (fun e w' => e = .returned (.agg #[.int .u64 1, .int .u64 2, .int .u64 3, .int .u64 4]) ∧ Below w.heap.size w w') := by
  have := cBack (stepS s4) s4ok.step w
  rw [back_step s4ok, step1] at this
  exact this
theorem aw8 (w : World) : Calls Try.prog 18 #[.agg #[.int .u64 1, .int .u64 2, .int .u64 3, .int .u64 4], .agg #[.int .u64 1, .int .u64 1, .int .u64 1, .int .u64 1]] w (fun e w' => e = .returned (.agg #[.int .u64 0, .int .u64 3, .int .u64 2, .int .u64 5]) ∧ Below w.heap.size w w') := by
  have := cAdd s4 ⟨1, 1, 1, 1⟩ s4ok ⟨by decide, by decide, by decide, by decide⟩ w
  rw [show addS s4 ⟨1, 1, 1, 1⟩ = ⟨0, 3, 2, 5⟩ by decide +kernel] at this
  exact this
theorem aw9 (w : World) : Calls Try.prog 12 #[.agg #[.int .u64 211106635448322, .int .u64 211106232532999, .int .u64 211140593188866, .int .u64 9223547958715220736]] w (fun e w' => e = .returned (.bool true) ∧ Below w.heap.size w w') := cRight ⟨211106635448322, 211106232532999, 211140593188866, 9223547958715220736⟩ w
theorem aw10 (w : World) : Calls Try.prog 12 #[.agg #[.int .u64 0, .int .u64 0, .int .u64 0, .int .u64 0]] w (fun e w' => e = .returned (.bool false) ∧ Below w.heap.size w w') := cRight St.zero w
set_option maxHeartbeats 4000000 in
theorem awake7 (w : World) : Calls Try.prog 7 #[] w (Bl true w) := by
  have hB : Below w.heap.size w w := Below.refl _ _
  have q := eqS
  unfold Eq4 at q
  go_enter Try.func7, Try.ntmps7
  go_wp2_with fail
  refine (aw1 _).mono ?_
  rintro e w1 ⟨A, cap, rfl, P, hb⟩
  replace hB := below_then hB hb
  clear hb
  go_wp2_with fail
  have D := C4.new w1 211106635448322 211106232532999 211140593188866 9223547958715220736 24
  have LB : Below w1.heap.size w1 (w1.alloc (.cells #[.int .u64 211106635448322, .int .u64 211106232532999, .int .u64 211140593188866, .int .u64 9223547958715220736] 24)) := below_alloc (Below.refl _ _) _
  replace P := P.below LB
  replace hB := below_then hB LB
  clear LB
  generalize w1.alloc _ = v1 at hB P D ⊢
  refine (aw2 _).mono ?_
  rintro e w2 ⟨rfl, hb⟩
  replace P := P.below hb
  replace D := D.below hb
  replace hB := below_then hB hb
  clear hb
  go_wp2_with fail
  have LB : Below w2.heap.size w2 (w2.alloc (.cells #[.int .u64 0, .int .u64 0, .int .u64 0, .int .u64 0] 24)) := below_alloc (Below.refl _ _) _
  replace P := P.below LB
  replace D := D.below LB
  replace hB := below_then hB LB
  clear LB
  generalize w2.alloc _ = v2 at hB P D ⊢
  refine (aw3 _).mono ?_
  rintro e w3 ⟨rfl, hb⟩
  replace P := P.below hb
  replace D := D.below hb
  replace hB := below_then hB hb
  clear hb
  go_wp2_with fail
  have LB : Below w3.heap.size w3 (w3.alloc (.cells #[.int .u64 0, .int .u64 0, .int .u64 0, .int .u64 0] 24)) := below_alloc (Below.refl _ _) _
  replace P := P.below LB
  replace D := D.below LB
  replace hB := below_then hB LB
  clear LB
  generalize w3.alloc _ = v3 at hB P D ⊢
  refine (aw4 _).mono ?_
  rintro e w4 ⟨Ab, capb, rfl, R, hb⟩
  replace P := P.below hb
  replace D := D.below hb
  replace hB := below_then hB hb
  clear hb
  go_wp2_with fail
  refine (aw5 _).mono ?_
  rintro e w5 ⟨rfl, hb⟩
  replace P := P.below hb
  replace D := D.below hb
  replace R := R.below hb
  replace hB := below_then hB hb
  clear hb
  go_wp2_with fail
  have Q : Pol (w5.alloc (.cells #[.int .u64 11520, .int .u64 0, .int .u64 1509978240] 22)) (some ⟨w5.heap.size, 0, none⟩) 3 [11520, 0, 1509978240] := polN w5 [11520, 0, 1509978240] (by unfold Wds; decide)
  have LB : Below w5.heap.size w5 (w5.alloc (.cells #[.int .u64 11520, .int .u64 0, .int .u64 1509978240] 22)) := below_alloc (Below.refl _ _) _
  replace P := P.below LB
  replace D := D.below LB
  replace R := R.below LB
  replace hB := below_then hB LB
  clear LB
  generalize w5.alloc _ = v5 at hB P D R Q ⊢
  refine (gWords true P Q rfl rfl (by decide) (by decide)).mono ?_
  rintro e w6 ⟨rfl, hb⟩
  replace D := D.below hb
  replace R := R.below hb
  replace hB := below_then hB hb
  clear hb P Q
  obtain ⟨d0, d1, d2, d3⟩ := id D
  go_wp2_with fail
  have Q : Brs (w6.alloc (.cells #[.bool true, .bool true] 4)) (some ⟨w6.heap.size, 0, none⟩) 2 [true, true] := brsN w6 [true, true]
  have LB : Below w6.heap.size w6 (w6.alloc (.cells #[.bool true, .bool true] 4)) := below_alloc (Below.refl _ _) _
  replace D := D.below LB
  replace R := R.below LB
  replace hB := below_then hB LB
  clear LB d0 d1 d2 d3
  generalize w6.alloc _ = v6 at hB D R Q ⊢
  refine (gSameB true R Q rfl rfl (by decide) (by decide)).mono ?_
  rintro e w7 ⟨rfl, hb⟩
  replace D := D.below hb
  replace hB := below_then hB hb
  clear hb R Q
  go_wp2_with fail
  refine (aw6 _).mono ?_
  rintro e w8 ⟨rfl, hb⟩
  replace D := D.below hb
  replace hB := below_then hB hb
  clear hb
  go_wp2_with fail
  refine (aw7 _).mono ?_
  rintro e w9 ⟨rfl, hb⟩
  replace D := D.below hb
  replace hB := below_then hB hb
  clear hb
  go_wp2_with fail
  refine (aw8 _).mono ?_
  rintro e w10 ⟨rfl, hb⟩
  replace D := D.below hb
  replace hB := below_then hB hb
  clear hb
  obtain ⟨d0, d1, d2, d3⟩ := id D
  go_wp2_with fail
  clear d0 d1 d2 d3
  refine (aw9 _).mono ?_
  rintro e w11 ⟨rfl, hb⟩
  replace D := D.below hb
  replace hB := below_then hB hb
  clear hb
  go_wp2_with fail
  refine (aw10 _).mono ?_
  rintro e w12 ⟨rfl, hb⟩
  replace D := D.below hb
  replace hB := below_then hB hb
  clear hb
  go_wp2
  go_ret
  exact ⟨rfl, hB⟩
end Go.Proofs.Ythohgleklcoglaa
