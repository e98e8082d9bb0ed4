/-
  What the call Next of package cursor does for the kind Mix.
-/
import Derived.Test.YtkpignbmocpcaaaGreatGnJ
import Derived.Test.YtkpignbmocpcaaaGreatSpT2
namespace Go.Proofs.YtkpignbmocpcaaaGreat
open Go.RowKit
set_option linter.unusedVariables false
set_option maxRecDepth 100000

theorem quiet_load_cu {o : Oper} {a : Act} {w : World} {C : World → Prop} {c : Nat} {n p s : Int} {v : Value} (x : Operand) (ho : o.op = .load 106 x) (hx : a.eval x = .pointer (some ⟨c, 3, none⟩)) (h : Blk 114 w c (cuC n p s v)) : o.quietAt Tryz.prog a C w (.agg (stC s)) := by
  have e := run_loadAt_mid (P := Tryz.prog) w c 3 106 (stC s).toList _ (fun j u hj => h.cell _ _ (cu_state n p s v j u hj)) Tryz.underlying106 rfl (by kernel_rfl)
  simp only [Instr.loadAt, Instr.sureAddr, Sem.run_bind, Sem.run_pure, Result.andThen_ok] at e
  unfold Oper.quietAt execOp
  simp only [ho, hx, Instr.loadAt, Instr.sureAddr, Sem.run_bind, Sem.run_pure, Result.andThen_ok, e]
  exact ⟨rfl, by simp⟩
/-- The words that a block holds, from the place o on. -/
def Has8 (w : World) (g o L s : Nat) : Prop := o + L = 8 ∧ ∃ ws : List Nat, ws.length = 8 ∧ Blk 134 w g (wl ws) ∧ ∀ i, i < L → ws.getD (o + i) 0 = mixN (stepN (iterN s i))
/-- A cursor of the kind Mix. -/
structure Cu (w : World) (c n p s : Nat) : Prop where
  sl : s < 18446744073709551616
  ex : ∃ g o L : Nat, L ≤ 8 ∧ Blk 114 w c (cuC n p s (bufV g o L)) ∧ (L ≠ 0 → g ≠ c ∧ Has8 w g o L s)
theorem Cu.lt {w : World} {c n p s : Nat} (h : Cu w c n p s) : c < w.heap.size := by
  obtain ⟨g, o, L, _, b, _⟩ := h.ex
  exact b.lt
theorem Cu.below {w w' : World} {c n p s : Nat} (h : Cu w c n p s) (hb : Below w.heap.size w w') : Cu w' c n p s := by
  obtain ⟨g, o, L, l, b, k⟩ := h.ex
  refine ⟨h.sl, g, o, L, l, b.below hb, fun hl => ?_⟩
  obtain ⟨k1, k2, ws, k3, k4, k5⟩ := k hl
  exact ⟨k1, k2, ws, k3, k4.below hb, k5⟩
theorem iter_shift (s : Nat) (i : Nat) : iterN (stepN s) i = iterN s (i + 1) := by
  induction i with
  | zero => simp only [iterN]
  | succ i ih =>
    rw [iterN, ih]
    simp only [iterN]
set_option maxHeartbeats 4000000 in
/-- Next, where words were made ahead. -/
theorem cuNextBuf {w : World} {c g o L n p s : Nat} (hp : p + 8 ≤ 9223372036854775808) (hs : s < 18446744073709551616) (hL : 1 ≤ L) (hL8 : L ≤ 8) (hg : g ≠ c) (h : Blk 114 w c (cuC n p s (.slice (some ⟨g, o, none⟩) L L))) (H : Has8 w g o L s) :
    Calls Tryz.prog 41 #[.pointer (some ⟨c, 0, none⟩)] w (fun e w' => e = .returned (.tuple #[.int .u64 ((mixN (stepN s) : Nat) : Int), .int .i64 0]) ∧ Cu w' c n (p + 1) (stepN s) ∧ Only c w w') := by
  have CL := Lib.hid (cuLeft (by omega) h)
  have hq : ((9223372036854775808 - p : Nat) : Int) ≠ 0 := by omega
  generalize ((9223372036854775808 - p : Nat) : Int) = q at CL hq
  have HK := Lib.hid (And.intro h H)
  clear h H
  have lpos : (L : Int) ≠ 0 := by omega
  have lpos2 : L ≠ 0 := by omega
  go_enter Tryz.func41, Tryz.ntmps41
  go_wp2_with fail
  refine CL.out.mono ?_
  rintro e V ⟨rfl, hb⟩
  clear CL
  obtain ⟨ho, ws, h8, R, hw⟩ := HK.out.2
  have K2 := HK.out.1.below hb
  have R2 := R.below hb
  obtain ⟨k1, k2, k3, k4⟩ := cuCells K2
  have r0 := R2.cell o _ (wl_get ws o (by omega))
  have e0 := hw 0 (by omega)
  rw [Nat.add_zero, show iterN s 0 = s from rfl] at e0
  rw [e0] at r0
  have HB := Lib.hid (And.intro K2 (And.intro R2 (And.intro hb hw)))
  clear hb HK R K2 R2 hw e0
  go_upto_region 6 with fail
  refine wp_region_quiet_tail (C := fun w' => Below V.heap.size V w') 7 (by kernel_rfl) (by decide) (by kernel_rfl) (by kernel_rfl) (by kernel_rfl) (by kernel_rfl) (by kernel_rfl) (by kernel_rfl) (Below.refl _ _).drew ?_
  simp only [List.take_succ_cons, List.take_zero, List.drop_succ_cons, List.drop_zero]
  refine WQ.out (?_ : WQ _ _ _ _ _ _)
  iterate 7
    (first
     | (refine WQ.yes _ (by rfl) (fun w' hC => quiet_load_cu _ rfl rfl (HB.out.1.below hC)) ?_)
     | (refine WQ.yes ?_ (by rfl) (fun w' hC => ?_) ?_
        rotate_left
        · (go_simp
           first | done | with_reducible rfl | exact ⟨rfl, rfl⟩ | (go_at_call 10; (with_reducible exact quietA (cOne _) hC)) | (go_at_call 53; (with_reducible exact quietG (gStep s _) hC)))
        (try simp only [Act.put, List.setIfInBounds_toArray, List.set_cons_zero, List.set_cons_succ])))
  refine WQ.nil ?_
  intro wz hX
  go_wp2_with fail
  refine (cuPass (s' := stepN s) (by omega) hL hL8 (HB.out.1.below hX)).mono ?_
  rintro e V3 ⟨rfl, R3, O3⟩
  have F : Hid (Cu V3 c n (p + 1) (stepN s) ∧ Only c w V3) := Lib.hid (by
    refine ⟨⟨step_lt s, g, o + 1, L - 1, by omega, R3, fun hl => ⟨hg, by omega, ws, h8, (HB.out.2.1.below hX).only O3 hg, fun i hi => ?_⟩⟩, (Only.of_below (below_then HB.out.2.2.1 hX)).trans O3⟩
    rw [iter_shift, show o + 1 + i = o + (i + 1) by omega]
    exact HB.out.2.2.2 (i + 1) (by omega))
  clear HB hX R3 O3 k1 k2 k3 k4 r0
  go_wp2_with fail
  go_returns
  exact ⟨rfl, F.out.1, F.out.2⟩
theorem row_get (s n i : Nat) (h : i < n) : (rowN s n).getD i 0 = mixN (stepN (iterN s i)) := by
  have e : (rowN s n)[i]? = some (mixN (stepN (iterN s i))) := by
    unfold rowN
    rw [List.getElem?_map, List.getElem?_range h]
    simp only [Option.map_some]
  rw [List.getD_eq_getElem?_getD, e, Option.getD_some]
set_option maxHeartbeats 4000000 in
/-- Next, where nothing was made ahead. -/
theorem cuNextFill {w : World} {c n p s : Nat} (hp : p + 8 ≤ 9223372036854775808) (hs : s < 18446744073709551616) (h : Blk 114 w c (cuC n p s (.slice none 0 0))) :
    Calls Tryz.prog 41 #[.pointer (some ⟨c, 0, none⟩)] w (fun e w' => e = .returned (.tuple #[.int .u64 ((mixN (stepN s) : Nat) : Int), .int .i64 0]) ∧ Cu w' c n (p + 1) (stepN s) ∧ Only c w w') := by
  have CL := Lib.hid (cuLeft (by omega) h)
  have hq : ((9223372036854775808 - p : Nat) : Int) ≠ 0 := by omega
  generalize ((9223372036854775808 - p : Nat) : Int) = q at CL hq
  have HK := Lib.hid h
  clear h
  go_enter Tryz.func41, Tryz.ntmps41
  go_wp2_with fail
  refine CL.out.mono ?_
  rintro e V ⟨rfl, hb⟩
  clear CL
  have K2 := Lib.hid (HK.out.below hb)
  have O2 := Lib.hid (Only.of_below (c := c) hb)
  have lw := HK.out.lt
  obtain ⟨k1, k2, k3, k4⟩ := cuCells K2.out
  clear hb HK
  go_wp2_with fail
  refine (cuFill hp hs K2.out).mono ?_
  rintro e V4 ⟨rfl, g, hg, R4, K4, O4⟩
  have r0 := R4.cell 0 _ (wl_get (rowN s 8) 0 (by rw [row_len]; decide))
  rw [row_get s 8 0 (by decide), show iterN s 0 = s from rfl] at r0
  have hgc : g ≠ c := by have := O2.out.size; omega
  have HB := Lib.hid (And.intro K4 (And.intro R4 (And.intro (O2.out.trans O4) hgc)))
  clear k1 k2 k3 k4 K2 O2 R4 O4 hg
  obtain ⟨k1, k2, k3, k4⟩ := cuCells K4
  clear k1 k2 k3 K4
  go_upto_region 6 with fail
  refine wp_region_quiet_tail (C := fun w' => Below V4.heap.size V4 w') 7 (by kernel_rfl) (by decide) (by kernel_rfl) (by kernel_rfl) (by kernel_rfl) (by kernel_rfl) (by kernel_rfl) (by kernel_rfl) (Below.refl _ _).drew ?_
  simp only [List.take_succ_cons, List.take_zero, List.drop_succ_cons, List.drop_zero]
  refine WQ.out (?_ : WQ _ _ _ _ _ _)
  iterate 7
    (first
     | (refine WQ.yes _ (by rfl) (fun w' hC => quiet_load_cu _ rfl rfl (HB.out.1.below hC)) ?_)
     | (refine WQ.yes ?_ (by rfl) (fun w' hC => ?_) ?_
        rotate_left
        · (go_simp
           first | done | with_reducible rfl | exact ⟨rfl, rfl⟩ | (go_at_call 10; (with_reducible exact quietA (cOne _) hC)) | (go_at_call 53; (with_reducible exact quietG (gStep s _) hC)))
        (try simp only [Act.put, List.setIfInBounds_toArray, List.set_cons_zero, List.set_cons_succ])))
  refine WQ.nil ?_
  intro wz hX
  go_wp2_with fail
  refine (cuPass (s' := stepN s) (o := 0) (L := 8) (by omega) (by decide) (by decide) (HB.out.1.below hX)).mono ?_
  rintro e V3 ⟨rfl, R3, O3⟩
  have F : Hid (Cu V3 c n (p + 1) (stepN s) ∧ Only c w V3) := Lib.hid (by
    refine ⟨⟨step_lt s, g, 1, 7, by decide, R3, fun hl => ⟨HB.out.2.2.2, by decide, rowN s 8, row_len s 8, (HB.out.2.1.below hX).only O3 HB.out.2.2.2, fun i hi => ?_⟩⟩, (HB.out.2.2.1.trans (Only.of_below hX)).trans O3⟩
    rw [iter_shift, Nat.add_comm 1 i]
    exact row_get s 8 (i + 1) (by omega))
  clear HB hX R3 O3 r0 k4
  go_wp2_with fail
  go_returns
  exact ⟨rfl, F.out.1, F.out.2⟩
theorem bufV_nil (g o : Nat) : bufV g o 0 = .slice none 0 0 := if_pos rfl
theorem bufV_pos {g o L : Nat} (h : L ≠ 0) : bufV g o L = .slice (some ⟨g, o, none⟩) L L := if_neg h
theorem Cu.fresh {w : World} {c n p s : Nat} (hs : s < 18446744073709551616) (h : Blk 114 w c (cuC n p s (.slice none 0 0))) : Cu w c n p s :=
  ⟨hs, 0, 0, 0, by decide, by rw [bufV_nil]; exact h, fun h => absurd rfl h⟩
/-- The next word of a cursor of the kind Mix. -/
theorem cuNext {w : World} {c n p s : Nat} (hp : p + 8 ≤ 9223372036854775808) (h : Cu w c n p s) :
    Calls Tryz.prog 41 #[.pointer (some ⟨c, 0, none⟩)] w (fun e w' => e = .returned (.tuple #[.int .u64 ((mixN (stepN s) : Nat) : Int), .int .i64 0]) ∧ Cu w' c n (p + 1) (stepN s) ∧ Only c w w') := by
  obtain ⟨hs, g, o, L, hL, hb, hk⟩ := h
  by_cases h0 : L = 0
  · subst h0
    rw [bufV_nil] at hb
    exact cuNextFill hp hs hb
  · rw [bufV_pos h0] at hb
    obtain ⟨hg, H⟩ := hk h0
    exact cuNextBuf hp hs (by omega) hL hg hb H
theorem Cu.cells {w : World} {c n p s : Nat} (h : Cu w c n p s) : ∃ v, Blk 114 w c (cuC n p s v) := by
  obtain ⟨hs, g, o, L, hL, hb, hk⟩ := h
  exact ⟨_, hb⟩
end Go.Proofs.YtkpignbmocpcaaaGreat
