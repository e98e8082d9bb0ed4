/-
  What the call New of package cursor answers for the kind Mix, and what a cursor is in memory.
-/
import Derived.Test.YtkpignbmocpcaaaGreatGnF
namespace Go.Proofs.YtkpignbmocpcaaaGreat
open Go.RowKit
set_option linter.unusedVariables false
set_option maxRecDepth 100000

/-- A cursor's cells: its seed, its place, the state there and the words that were made ahead. -/
def cuC (n p s : Int) (v : Value) : Array Value := #[.int .u64 n, .int .u64 0, .int .u64 p, .int .i64 1, .int .u64 s, .int .u64 0, .int .u64 0, .int .u64 0, .int .u64 0, .int .u64 0, .int .u64 0, .int .u64 0, .int .u64 0, .int .u64 0, .int .u64 0, .int .u32 0, .int .u32 0, .bool false, v]
theorem cmpW {M N : Nat} (hM : M < 18446744073709551616) (hN : N < 18446744073709551616) (w : World) : Calls Tryz.prog 12 #[.agg #[.int .u64 0, .int .u64 (M : Int)], .agg #[.int .u64 0, .int .u64 (N : Int)]] w (AnsI (cmpN M N) w) :=
  cCmp (M := M) (N := N) ⟨by decide, by decide, by omega, by omega, by omega⟩ ⟨by decide, by decide, by omega, by omega, by omega⟩ w
theorem cmpLim {M : Nat} (hM : M < 18446744073709551616) (w : World) : Calls Tryz.prog 12 #[.agg #[.int .u64 0, .int .u64 (M : Int)], .agg #[.int .u64 0, .int .u64 9223372036854775808]] w (fun e w' => e = .returned (.int .i64 (cmpN M 9223372036854775808)) ∧ Below w.heap.size w w') :=
  cmpW (N := 9223372036854775808) hM (by decide) w
/-- The answer of New: a new cursor. -/
def AnsCu (n p s : Int) (w : World) (e : Ending) (w' : World) : Prop :=
  ∃ c : Nat, e = .returned (.tuple #[.pointer (some ⟨c, 0, none⟩), .int .i64 0]) ∧ Blk 114 w' c (cuC n p s (.slice none 0 0)) ∧ w.heap.size ≤ c ∧ Below w.heap.size w w'
set_option maxHeartbeats 2000000 in
theorem cuNew (s p : Nat) (h : s < 18446744073709551616) (hp : p ≤ 9223372036854775808) (w : World) : Calls Tryz.prog 36 #[.int .i64 1, .int .u64 s, .agg #[.int .u64 0, .int .u64 p]] w (AnsCu s p ((jumpN s p : Nat) : Int) w) := by
  have U0 := UB.new w 0 p 31
  have B0 := below_allocs w (.cells #[.int .u64 0, .int .u64 p] 31)
  go_enter Tryz.func36, Tryz.ntmps36
  go_upto_region 1 with fail
  generalize hW : w.alloc _ = W1 at U0 B0 ⊢
  clear hW
  go_wp2_with (first | (refine list_store rfl _ _ rfl _ rfl rfl rfl (Blk.new _ stZ _) ?_; intro w5 N0 NL NF NS) | fail)
  refine (sNew s _).mono ?_
  rintro e V ⟨rfl, hb⟩
  have U1 := U0.below hb
  have B1 := below_then B0 hb
  clear hb U0 B0
  go_wp2_with (first | (refine list_store rfl _ _ rfl _ rfl rfl rfl (Blk.new _ stZ _) ?_; intro w5 N0 NL NF NS; have U2 := U1.below (NL _ (Nat.le_refl _) _ (below_allocs V _)); have B2 := below_then B1 (NL _ (Nat.le_refl _) _ (below_allocs V _)); rw [World.size_alloc] at NS; clear NL NF U1 B1) | fail)
  have C1 := Lib.hid (cmpLim (M := p) (by omega))
  have hr : ¬ (cmpN p 9223372036854775808 : Int) > 0 := by unfold cmpN; split <;> (try split) <;> omega
  generalize cmpN p 9223372036854775808 = r at C1 hr
  clear NS
  refine wp_region_class (fun w' => Below w5.heap.size w5 w') (by kernel_rfl) (by kernel_rfl) (Below.refl _ _).drew ?_
  iterate 6
    (refine WQ.yes ?_ (by rfl) (fun w' hC => ?_) ?_
     rotate_left
     · (obtain ⟨x1, x2⟩ := (U2.below hC).cells
        go_simp
        first | done | with_reducible rfl | exact ⟨rfl, rfl⟩ | (go_at_call 34; (with_reducible exact quietA (gLimit _) hC)) | (go_at_call 12; (with_reducible exact quietN (C1.out _) hC)))
     (try simp only [Act.put, List.setIfInBounds_toArray, List.set_cons_zero, List.set_cons_succ]))
  refine WQ.nil ?_
  intro wz hX
  have U3 := U2.below hX
  have N3 := N0.below hX
  have B3 := below_then B2 hX
  clear hX U2 N0 B2
  go_wp2_with (first | (refine list_load rfl _ rfl rfl N3 ?_; obtain ⟨x1, x2⟩ := U3.cells; clear N3) | fail)
  refine (gJump s h 0 p _).mono ?_
  rintro e V2 ⟨rfl, hb⟩
  have U4 := U3.below hb
  have B4 := below_then B3 hb
  clear hb U3 B3 x1 x2
  go_wp2_with (first | (refine list_store rfl _ _ rfl _ rfl rfl rfl (Blk.new _ stZ _) ?_; intro w6 N5 NL NF NS'; have U5 := U4.below (NL _ (Nat.le_refl _) _ (below_allocs V2 _)); have B5 := below_then B4 (NL _ (Nat.le_refl _) _ (below_allocs V2 _)); obtain ⟨x1, x2⟩ := U5.cells; clear NL NF U4 B4) | (refine list_load rfl _ rfl rfl N5 ?_; unfold stC) | fail)
  rw [World.size_alloc] at NS'
  have R := Blk.new w6 (cuC s p ((jumpN s p : Nat) : Int) (.slice none 0 0)) 114
  have B6 := below_then B5 (below_allocs w6 (.cells (cuC s p ((jumpN s p : Nat) : Int) (.slice none 0 0)) 114))
  rw [NS'] at R
  have B7 := B5.size
  go_returns
  exact ⟨V2.heap.size + 1, rfl, R, by omega, B6⟩
end Go.Proofs.YtkpignbmocpcaaaGreat
