/-
  What the calls Kind, Place and left of package cursor answer for the kind Mix.
-/
import Derived.Test.YtkpignbmocpcaaaGreatGnG
import Derived.Deep.RegionHeld3
import Derived.Deep.DeepCutAuto
namespace Go.Proofs.YtkpignbmocpcaaaGreat
open Go.RowKit
set_option linter.unusedVariables false
set_option maxRecDepth 100000

theorem cuCells {w : World} {c : Nat} {n p s : Int} {v : Value} (h : Blk 114 w c (cuC n p s v)) : w.cell? ⟨c, 1, none⟩ = some (.int .u64 0) ∧ w.cell? ⟨c, 2, none⟩ = some (.int .u64 p) ∧ w.cell? ⟨c, 3, none⟩ = some (.int .i64 1) ∧ w.cell? ⟨c, 18, none⟩ = some v :=
  ⟨h.cell 1 _ rfl, h.cell 2 _ rfl, h.cell 3 _ rfl, h.cell 18 _ rfl⟩
theorem cuKind {w : World} {c : Nat} {n p s : Int} {v : Value} (h : Blk 114 w c (cuC n p s v)) : Calls Tryz.prog 58 #[.pointer (some ⟨c, 0, none⟩)] w (fun e w' => e = .returned (.int .i64 1) ∧ Below w.heap.size w w') := by
  obtain ⟨k1, k2, k3, k4⟩ := cuCells h
  go_enter Tryz.func58, Tryz.ntmps58
  go_wp2
  go_ret
  exact ⟨rfl, Below.refl _ _⟩
theorem cuPlace {w : World} {c : Nat} {n p s : Int} {v : Value} (h : Blk 114 w c (cuC n p s v)) : Calls Tryz.prog 43 #[.pointer (some ⟨c, 0, none⟩)] w (fun e w' => e = .returned (.agg #[.int .u64 0, .int .u64 p]) ∧ Below w.heap.size w w') := by
  have B := below_allocs w (.cells #[.int .u64 0, .int .u64 0] 31)
  have h' := h.below B
  have U := UB.new w 0 0 31
  go_enter Tryz.func43, Tryz.ntmps43
  go_upto_region 1 with fail
  generalize w.alloc _ = W1 at B h' U ⊢
  have HR := Lib.hid (UB.put (p' := 0) (q' := p) U)
  have HB := Lib.hid (below_put2 B (Nat.le_refl w.heap.size) (.int .u64 0) (.int .u64 p))
  obtain ⟨k1, k2, k3, k4⟩ := cuCells h'
  obtain ⟨f1, f2⟩ := U.free
  obtain ⟨z1, z2⟩ := U.cells
  clear h h' U B
  go_wp2_with fail
  generalize World.setCell (World.setCell W1 _ _) _ _ = V5 at HR HB ⊢
  obtain ⟨r1, r2⟩ := HR.out.cells
  refine bodyPost_ret (by simp [results, Tryz.results43, go_sem, r1, r2]; try rfl) rfl ?_
  exact ⟨rfl, HB.out⟩
/-- Behind what is left: where the number lies. -/
def CutL (W : World) (q : Int) (v : Value) (wr : World) : Prop := ∃ b : Nat, v = .pointer (some ⟨b, 0, none⟩) ∧ UB 31 wr b 0 q ∧ Below W.heap.size W wr
theorem CutL.late {W x : World} {q : Int} (hb : Below W.heap.size W x) : CutL W q (.pointer (some ⟨x.heap.size, 0, none⟩)) (x.alloc (.cells #[.int .u64 0, .int .u64 q] 31)) :=
  ⟨x.heap.size, rfl, UB.new _ _ _ _, below_alloc hb _⟩
theorem CutL.early {W x : World} {b : Nat} {q : Int} (hb : Below W.heap.size W x) (z : UB 31 x b 0 0) (hn : W.heap.size ≤ b) : CutL W q (.pointer (some ⟨b, 0, none⟩)) ((x.setCell ⟨b, 0, none⟩ (.int .u64 0)).setCell ⟨b, 1, none⟩ (.int .u64 q)) :=
  ⟨b, rfl, UB.put z, below_put2 hb hn _ _⟩
set_option maxHeartbeats 4000000 in
theorem cuLeft {w : World} {c p : Nat} {n s : Int} {v : Value} (hp : p ≤ 9223372036854775808) (h : Blk 114 w c (cuC n p s v)) : Calls Tryz.prog 50 #[.pointer (some ⟨c, 0, none⟩)] w (fun e w' => e = .returned (.agg #[.int .u64 0, .int .u64 ((9223372036854775808 - p : Nat) : Int)]) ∧ Below w.heap.size w w') := by
  have CS : Hid (∀ W : World, Calls Tryz.prog 42 #[.agg #[.int .u64 0, .int .u64 9223372036854775808], .agg #[.int .u64 0, .int .u64 (p : Int)]] W (fun e w' => e = .returned (.tuple #[.agg #[.int .u64 0, .int .u64 ((9223372036854775808 - p : Nat) : Int)], .bool false]) ∧ Below W.heap.size W w')) := Lib.hid (fun W => by
    refine (cSub (M := 9223372036854775808) (N := p) ⟨by decide, by decide, by decide, by decide, by decide⟩ ⟨by decide, by decide, by omega, by omega, by omega⟩ W).mono ?_
    rintro e w' ⟨rfl, hb⟩
    have e0 : (9223372036854775808 + Q - p) % Q = 9223372036854775808 - p := by
      show (9223372036854775808 + 340282366920938463463374607431768211456 - p) % 340282366920938463463374607431768211456 = _
      omega
    refine ⟨?_, hb⟩
    rw [e0, decide_eq_false (by omega)]
    have e1 : hiW (9223372036854775808 - p) = 0 := by unfold hiW; omega
    have e2 : loW (9223372036854775808 - p) = 9223372036854775808 - p := by unfold loW; omega
    rw [e1, e2]; rfl)
  generalize ((9223372036854775808 - p : Nat) : Int) = q at CS ⊢
  have B := below_allocs w (.cells #[.int .u64 0, .int .u64 0] 31)
  have h' := h.below B
  have U := UB.new w 0 0 31
  go_enter Tryz.func50, Tryz.ntmps50
  go_upto_region 1 with fail
  generalize w.alloc _ = W1 at B h' U ⊢
  have HK := Lib.hid (And.intro h' (And.intro U B))
  clear h h' U B
  go_cut [3] (CutL W1 q)
  case first =>
    have CK : Hid (∀ X, Below W1.heap.size W1 X → Calls Tryz.prog 58 #[.pointer (some ⟨c, 0, none⟩)] X (fun e w' => e = .returned (.int .i64 1) ∧ Below X.heap.size X w')) := Lib.hid (fun X hX => cuKind (HK.out.1.below hX))
    obtain ⟨k1, k2, k3, k4⟩ := cuCells HK.out.1
    have b0 : Below W1.heap.size W1 W1.drew := below_drew W1
    have lc := HK.out.1.lt
    have p0 : c ≠ W1.heap.size := Nat.ne_of_lt lc
    have q0 := p0.symm
    go_region_held3 (fun w' => w'.cell? ⟨c, 1, none⟩ = some (.int .u64 0) ∧ w'.cell? ⟨c, 2, none⟩ = some (.int .u64 (p : Int))) (go_keep) (first
      | (go_at_call 58; refine (CK.out _ (by first | exact b0 | exact below_alloc b0 _)).mono ?_; rintro e x1 ⟨rfl, hb1⟩; (first | (have b1 := below_then (below_alloc b0 _) hb1; have z : UB 31 x1 W1.heap.size 0 0 := (UB.new W1.drew 0 0 31).below hb1) | (have b1 := below_then b0 hb1; replace z := z.below hb1) | (have b1 := below_then b0 hb1)); (try obtain ⟨zc1, zd1⟩ := z.cells); (try obtain ⟨zf1, zg1⟩ := z.free); obtain ⟨i1, j1, m1, n1⟩ := cuCells (HK.out.1.below b1); have p1 : c ≠ x1.heap.size := Nat.ne_of_lt (Nat.lt_of_lt_of_le lc b1.size); have q1 := p1.symm; clear hb1)
      | (go_at_call 34; (with_reducible refine (gLimit _).mono ?_); rintro e x2 ⟨rfl, hb2⟩; (first | (have b2 := below_then (below_alloc b1 _) hb2; have z := (UB.new x1 0 0 31).below hb2) | (have b2 := below_then b1 hb2; replace z := z.below hb2) | (have b2 := below_then b1 hb2)); (try obtain ⟨zc2, zd2⟩ := z.cells); (try obtain ⟨zf2, zg2⟩ := z.free); obtain ⟨i2, j2, m2, n2⟩ := cuCells (HK.out.1.below b2); have p2 : c ≠ x2.heap.size := Nat.ne_of_lt (Nat.lt_of_lt_of_le lc b2.size); have q2 := p2.symm; clear hb2)
      | (go_at_call 42; (with_reducible refine (CS.out _).mono ?_); rintro e x3 ⟨rfl, hb3⟩; (first | (have b3 := below_then (below_alloc b2 _) hb3; have z := (UB.new x2 0 0 31).below hb3) | (have b3 := below_then b2 hb3; replace z := z.below hb3) | (have b3 := below_then b2 hb3)); (try obtain ⟨zc3, zd3⟩ := z.cells); (try obtain ⟨zf3, zg3⟩ := z.free); obtain ⟨i3, j3, m3, n3⟩ := cuCells (HK.out.1.below b3); clear hb3))
    all_goals
      go_wp2_with fail
      go_meet
      first
        | exact CutL.late b3
        | exact CutL.early b3 z (Nat.le_refl _)
        | exact CutL.early b3 z b1.size
        | exact CutL.early b3 z b2.size
  obtain ⟨b, rfl, z, hb⟩ := hcut
  have U := HK.out.2.1.below hb
  have B := below_then HK.out.2.2 hb
  obtain ⟨y1, y2⟩ := z.cells
  have HR := Lib.hid (UB.put (p' := 0) (q' := q) U)
  have HB := Lib.hid (below_put2 B (Nat.le_refl w.heap.size) (.int .u64 0) (.int .u64 q))
  obtain ⟨f1, f2⟩ := U.free
  obtain ⟨z1, z2⟩ := U.cells
  clear HK U B z hb CS
  go_wp2_with fail
  generalize World.setCell (World.setCell wc _ _) _ _ = V5 at HR HB ⊢
  obtain ⟨r1, r2⟩ := HR.out.cells
  refine bodyPost_ret (by simp [results, Tryz.results50, go_sem, r1, r2]; try rfl) rfl ?_
  exact ⟨rfl, HB.out⟩
end Go.Proofs.YtkpignbmocpcaaaGreat
