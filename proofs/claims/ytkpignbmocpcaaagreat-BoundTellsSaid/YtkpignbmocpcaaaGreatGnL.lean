/-
  What the calls New, Allotment, Left and check of package stream answer for the kind Mix, and what a stream is in memory.
-/
import Derived.Test.YtkpignbmocpcaaaGreatGnK
namespace Go.Proofs.YtkpignbmocpcaaaGreat
open Go.RowKit
set_option linter.unusedVariables false
set_option maxRecDepth 100000

/-- A stream's cells. -/
def smC (c : Nat) (t : Int) : Array Value := #[.pointer (some ⟨c, 0, none⟩), .int .u64 0, .int .u64 t]
/-- A stream of the kind Mix. -/
structure Sm (w : World) (d c n f s t : Nat) : Prop where
  b : Blk 93 w d (smC c t)
  k : Cu w c n f s
  ne : d ≠ c
theorem Sm.below {w w' : World} {d c n f s t : Nat} (h : Sm w d c n f s t) (hb : Below w.heap.size w w') : Sm w' d c n f s t := ⟨h.b.below hb, h.k.below hb, h.ne⟩
theorem Sm.cells {w : World} {d c n f s t : Nat} (h : Sm w d c n f s t) : w.cell? ⟨d, 0, none⟩ = some (.pointer (some ⟨c, 0, none⟩)) ∧ w.cell? ⟨d, 1, none⟩ = some (.int .u64 0) ∧ w.cell? ⟨d, 2, none⟩ = some (.int .u64 (t : Int)) :=
  ⟨h.b.cell 0 _ rfl, h.b.cell 1 _ rfl, h.b.cell 2 _ rfl⟩
/-- The answer of New: a new stream. -/
def AnsSm (n f s t : Nat) (w : World) (e : Ending) (w' : World) : Prop :=
  ∃ d c : Nat, e = .returned (.tuple #[.pointer (some ⟨d, 0, none⟩), .int .i64 0]) ∧ Sm w' d c n f s t ∧ w.heap.size ≤ d ∧ w.heap.size ≤ c ∧ Below w.heap.size w w'
set_option maxHeartbeats 4000000 in
theorem smNew {n f t : Nat} (hn : n < 18446744073709551616) (hf : f ≤ t) (ht : t ≤ 9223372036854775808) (w : World) :
    Calls Tryz.prog 24 #[.int .i64 1, .int .u64 n, .agg #[.int .u64 0, .int .u64 f, .int .u64 0, .int .u64 t]] w (AnsSm n f (jumpN n f) t w) := by
  have C1 : Hid (TI 12 #[.agg #[.int .u64 0, .int .u64 (f : Int)], .agg #[.int .u64 0, .int .u64 (t : Int)]] (cmpN f t)) := Lib.hid (fun W => cmpW (M := f) (N := t) (by omega) (by omega) W)
  have CR := Lib.hid (rightMain 0 f 0 t _ C1)
  have hr : decide (cmpN f t ≤ 0) = true := by rw [cmpN_le]; exact decide_eq_true hf
  rw [hr] at CR
  clear C1 hr
  have C2 := Lib.hid (cmpLim (M := t) (by omega))
  have h2 : ¬ (cmpN t 9223372036854775808 : Int) > 0 := by unfold cmpN; split <;> (try split) <;> omega
  generalize cmpN t 9223372036854775808 = r2 at C2 h2
  have CN := Lib.hid (cuNew n f hn (by omega))
  have K := Lib.hid (And.intro (SB.new w 0 f 0 t 59) (below_allocs w (.cells #[.int .u64 0, .int .u64 f, .int .u64 0, .int .u64 t] 59)))
  go_enter Tryz.func24, Tryz.ntmps24
  go_upto_region 1 with fail
  generalize w.alloc _ = W1 at K ⊢
  go_wp2_with fail
  refine (gLimit _).mono ?_
  rintro e V ⟨rfl, hb⟩
  have L1 := below_allocs V (.cells #[.int .u64 0, .int .u64 9223372036854775808] 31)
  have U2 := UB.new V 0 9223372036854775808 31
  have K2 := Lib.hid (And.intro ((K.out.1.below hb).below L1) (And.intro U2 (below_then (below_then K.out.2 hb) L1)))
  clear K L1 U2 hb
  go_upto_region 2 with fail
  generalize V.alloc _ = W2 at K2 ⊢
  generalize V.heap.size = bl at K2 ⊢
  obtain ⟨x1, x2, x3, x4⟩ := K2.out.1.cells
  obtain ⟨u1, u2⟩ := K2.out.2.1.cells
  go_wp2_with fail
  refine (CR.out _).mono ?_
  rintro e V3 ⟨rfl, hb⟩
  have K3 := Lib.hid (And.intro (K2.out.1.below hb) (And.intro (K2.out.2.1.below hb) (below_then K2.out.2.2 hb)))
  clear x1 x2 x3 x4 u1 u2 K2 hb CR
  obtain ⟨x1, x2, x3, x4⟩ := K3.out.1.cells
  obtain ⟨u1, u2⟩ := K3.out.2.1.cells
  go_wp2_with fail
  refine (C2.out _).mono ?_
  rintro e V4 ⟨rfl, hb⟩
  have K4 := Lib.hid (And.intro (K3.out.1.below hb) (below_then K3.out.2.2 hb))
  clear x1 x2 x3 x4 u1 u2 K3 hb C2
  obtain ⟨x1, x2, x3, x4⟩ := K4.out.1.cells
  go_wp2_with fail
  refine (CN.out _).mono ?_
  rintro e V5 ⟨c, rfl, R, hc, hb⟩
  have K5 := Lib.hid (And.intro (K4.out.1.below hb) (And.intro R (And.intro (show w.heap.size ≤ c from Nat.le_trans K4.out.2.size hc) (below_then K4.out.2 hb))))
  clear x1 x2 x3 x4 K4 hb CN R hc
  obtain ⟨x1, x2, x3, x4⟩ := K5.out.1.cells
  go_wp2_with fail
  have L6 := below_allocs V5 (.cells (smC c t) 93)
  have F : Hid (Sm (V5.alloc (.cells (smC c t) 93)) V5.heap.size c n f (jumpN n f) t ∧ w.heap.size ≤ V5.heap.size ∧ w.heap.size ≤ c ∧ Below w.heap.size w (V5.alloc (.cells (smC c t) 93))) := Lib.hid
    ⟨⟨Blk.new _ _ _, Cu.fresh (jump_lt n f) (K5.out.2.1.below L6), by have := K5.out.2.1.lt; omega⟩, K5.out.2.2.2.size, K5.out.2.2.1, below_then K5.out.2.2.2 L6⟩
  go_returns
  exact ⟨V5.heap.size, c, rfl, F.out.1, F.out.2.1, F.out.2.2.1, F.out.2.2.2⟩
end Go.Proofs.YtkpignbmocpcaaaGreat
