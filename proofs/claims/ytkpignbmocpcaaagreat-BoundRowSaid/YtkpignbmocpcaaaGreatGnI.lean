/-
  What the calls blockOf, fill, pass and Next of package cursor do for the kind Mix.
-/
import Derived.Test.YtkpignbmocpcaaaGreatGnH
import Derived.Laws.CopyRow
namespace Go.Proofs.YtkpignbmocpcaaaGreat
open Go.RowKit
set_option linter.unusedVariables false
set_option maxRecDepth 100000

theorem info1 : (Tryz.prog.info? 22).map (·.size) = some 1 := by kernel_rfl
theorem wl_eight {xs : List Nat} (h : xs.length = 8) : ((#[.int .u64 0, .int .u64 0, .int .u64 0, .int .u64 0, .int .u64 0, .int .u64 0, .int .u64 0, .int .u64 0] : Array Value).toList.take 0 ++ (wl xs).toList ++ (#[.int .u64 0, .int .u64 0, .int .u64 0, .int .u64 0, .int .u64 0, .int .u64 0, .int .u64 0, .int .u64 0] : Array Value).toList.drop (0 + (wl xs).toList.length)).toArray = wl xs := by
  have e : (wl xs).toList.length = 8 := by rw [Array.length_toList, wl_size, h]
  rw [e]
  simp
set_option maxHeartbeats 1000000 in
theorem cuBlockOf {w : World} {g : Nat} {xs : List Nat} (hx : xs.length = 8) (h : Blk 22 w g (wl xs)) : Calls Tryz.prog 60 #[.slice (some ⟨g, 0, none⟩) 8 8] w (fun e w' => e = .returned (.slice (some ⟨w.heap.size, 0, none⟩) 8 8) ∧ Blk 134 w' w.heap.size (wl xs) ∧ Below w.heap.size w w') := by
  have B := below_allocs w (.cells #[.int .u64 0, .int .u64 0, .int .u64 0, .int .u64 0, .int .u64 0, .int .u64 0, .int .u64 0, .int .u64 0] 134)
  have h' := h.below B
  have U := Blk.new w #[.int .u64 0, .int .u64 0, .int .u64 0, .int .u64 0, .int .u64 0, .int .u64 0, .int .u64 0, .int .u64 0] 134
  go_enter Tryz.func60, Tryz.ntmps60
  go_upto_region 2 with fail
  generalize w.alloc _ = W1 at B h' U ⊢
  have e8 : (wl xs).toList.length = 8 := by rw [Array.length_toList, wl_size, hx]
  have hrun := run_copy_row (P := Tryz.prog) W1 112 112 3 22 w.heap.size 0 8 8 ⟨g, 0, none⟩ 8 8 _ 134 (wl xs).toList Tryz.underlying112 info1 U (by rw [e8]; rfl) (fun j v hv => by
    have : (⟨g, 0, none⟩ : Addr).add j = ⟨g, 0 + j, none⟩ := by unfold Addr.add; split <;> simp_all
    rw [this, Nat.zero_add]
    exact h'.cell j v (by simpa using hv)) (by rw [e8]; decide) (fun v hv => by
    simp only [wl, List.mem_map] at hv
    obtain ⟨x, _, rfl⟩ := hv
    rfl)
  rw [wl_eight hx, e8] at hrun
  rw [show goInt ((8 : Nat) : Int) = Value.int .i64 8 from rfl] at hrun
  have R : Blk 134 (W1.setRow w.heap.size (wl xs)) w.heap.size (wl xs) := by
    unfold Blk at U ⊢
    simp [World.setRow, Array.getElem?_modify, U]
  have B2 : Below w.heap.size w (W1.setRow w.heap.size (wl xs)) := by
    refine ⟨B.os, B.tape, B.output, ?_, fun g hg => ?_⟩
    · show _ ≤ (W1.heap.modify _ _).size
      rw [Array.size_modify]; exact B.size
    · rw [← B.block g hg]
      show (W1.heap.modify _ _)[g]? = _
      rw [Array.getElem?_modify, if_neg (by omega)]
  generalize W1.setRow w.heap.size (wl xs) = W2 at hrun R B2
  clear B h h'
  go_wp2
  go_ret
  exact ⟨rfl, R, B2⟩
/-- All but one block is as it was. -/
structure Only (c : Nat) (w w' : World) : Prop where
  os : w'.os = w.os
  tape : w'.tape = w.tape
  output : w'.output = w.output
  size : w.heap.size ≤ w'.heap.size
  block : ∀ b, b < w.heap.size → b ≠ c → w'.heap[b]? = w.heap[b]?
theorem Only.of_below {c : Nat} {w w' : World} (h : Below w.heap.size w w') : Only c w w' := ⟨h.os, h.tape, h.output, h.size, fun b hb _ => h.block b hb⟩
theorem Only.trans {c : Nat} {w V w' : World} (h : Only c w V) (k : Only c V w') : Only c w w' :=
  ⟨k.os.trans h.os, k.tape.trans h.tape, k.output.trans h.output, Nat.le_trans h.size k.size, fun b hb hn => (k.block b (Nat.lt_of_lt_of_le hb h.size) hn).trans (h.block b hb hn)⟩
theorem Only.set {c : Nat} {w w' : World} (h : Only c w w') (i : Nat) (u : Value) : Only c w (w'.setCell ⟨c, i, none⟩ u) :=
  ⟨h.os, h.tape, h.output, by simpa [World.setCell] using h.size, fun b hb hn => (Below.heap_setCell w' ⟨c, i, none⟩ u b hn).trans (h.block b hb hn)⟩
theorem Only.drew {c : Nat} {w w' : World} (h : Only c w w') : Only c w w'.drew := ⟨h.os, h.tape, h.output, h.size, h.block⟩
theorem Only.below {c B : Nat} {w w' : World} (h : Only c w w') (hB : B ≤ c) (hs : B ≤ w.heap.size) : Below B w w' := ⟨h.os, h.tape, h.output, h.size, fun b hb => h.block b (Nat.lt_of_lt_of_le hb hs) (by omega)⟩
theorem Blk.only {t : TypeId} {w w' : World} {b c : Nat} {cs : Array Value} (h : Blk t w b cs) (k : Only c w w') (hn : b ≠ c) : Blk t w' b cs := (k.block b h.lt hn).trans h
theorem cu_state' (n p s : Int) (v : Value) : ∀ j, j < 15 → (cuC n p s v)[3 + j]? = (stC s).toList[j]?
  | 0, _ => rfl
  | 1, _ => rfl
  | 2, _ => rfl
  | 3, _ => rfl
  | 4, _ => rfl
  | 5, _ => rfl
  | 6, _ => rfl
  | 7, _ => rfl
  | 8, _ => rfl
  | 9, _ => rfl
  | 10, _ => rfl
  | 11, _ => rfl
  | 12, _ => rfl
  | 13, _ => rfl
  | 14, _ => rfl
theorem cu_state (n p s : Int) (v : Value) (j : Nat) (u : Value) (hj : (stC s).toList[j]? = some u) : (cuC n p s v)[3 + j]? = some u := by
  have hl : j < (stC s).toList.length := (List.getElem?_eq_some_iff.1 hj).1
  rw [cu_state' n p s v j hl, hj]
theorem list_load_cu {ops : Array Oper} {rest : List Oper} {o : Oper} {a : Act} {w : World} {Q : Exit → Act → World → Prop} {c : Nat} {n p s : Int} {v : Value} (hgd : o.guard = none) (x : Operand) (ho : o.op = .load 106 x) (hx : a.eval x = .pointer (some ⟨c, 3, none⟩)) (h : Blk 114 w c (cuC n p s v)) (k : wpList Tryz.prog ops Q rest (a.put o.dst (.agg (stC s))) w) : wpList Tryz.prog ops Q (o :: rest) a w :=
  wpList_load_mid hgd _ x ho c 3 hx (stC s).toList _ (fun j u hj => h.cell _ _ (cu_state n p s v j u hj)) Tryz.underlying106 rfl (by kernel_rfl) k
theorem cmp8 {M : Nat} (hM : M < 18446744073709551616) (w : World) : Calls Tryz.prog 12 #[.agg #[.int .u64 0, .int .u64 (M : Int)], .agg #[.int .u64 0, .int .u64 8]] w (fun e w' => e = .returned (.int .i64 (cmpN M 8)) ∧ Below w.heap.size w w') :=
  cmpW (N := 8) hM (by decide) w
set_option maxHeartbeats 4000000 in
theorem cuFill {w : World} {c p s : Nat} {n : Int} {v : Value} (hp : p + 8 ≤ 9223372036854775808) (hs : s < 18446744073709551616) (h : Blk 114 w c (cuC n p s v)) :
    Calls Tryz.prog 51 #[.pointer (some ⟨c, 0, none⟩)] w (fun e w' => e = .returned (.tuple #[]) ∧ ∃ g : Nat, w.heap.size ≤ g ∧ Blk 134 w' g (wl (rowN s 8)) ∧ Blk 114 w' c (cuC n p s (.slice (some ⟨g, 0, none⟩) 8 8)) ∧ Only c w w') := by
  have hr : ¬ (cmpN (9223372036854775808 - p) 8 : Int) < 0 := by unfold cmpN; split <;> (try split) <;> omega
  have C1 := Lib.hid (cmp8 (M := 9223372036854775808 - p) (by omega))
  generalize cmpN (9223372036854775808 - p) 8 = r at hr C1
  have CL := Lib.hid (cuLeft (by omega) h)
  generalize ((9223372036854775808 - p : Nat) : Int) = q at C1 CL
  have HK := Lib.hid h
  clear h
  go_enter Tryz.func51, Tryz.ntmps51
  go_wp2_with fail
  refine CL.out.mono ?_
  rintro e V ⟨rfl, hb⟩
  clear CL
  go_upto_region 2 with fail
  have B := below_then hb (below_allocs V (.cells #[.int .u64 0, .int .u64 q] 31))
  have U := UB.new V 0 q 31
  clear hb
  generalize V.alloc _ = W1 at B U ⊢
  generalize V.heap.size = cu at U ⊢
  refine wp_region_class (fun w' => Below W1.heap.size W1 w') (by kernel_rfl) (by kernel_rfl) (Below.refl _ _).drew ?_
  iterate 4
    (refine WQ.yes ?_ (by rfl) (fun w' hC => ?_) ?_
     rotate_left
     · (obtain ⟨x1, x2⟩ := (U.below hC).cells
        go_simp
        first | done | with_reducible rfl | exact ⟨rfl, rfl⟩ | (go_at_call 10; (with_reducible exact quietA (cEight _) hC)) | (go_at_call 12; (with_reducible exact quietN (C1.out _) hC)))
     (try simp only [Act.put, List.setIfInBounds_toArray, List.set_cons_zero, List.set_cons_succ]))
  refine WQ.nil ?_
  intro wz hX
  have B2 := below_then B hX
  have K2 := Lib.hid (HK.out.below B2)
  clear U B C1 hX
  go_wp2_with (first | (refine list_load_cu rfl _ rfl rfl K2.out ?_) | fail)
  refine (gWords s 8 hs (by decide) _).mono ?_
  rintro e V2 ⟨g0, rfl, G1, G2, hb⟩
  rw [row_len]
  have B3 := below_then B2 hb
  clear hb K2 B2 G2
  go_wp2_with (first | (refine list_store rfl _ _ rfl _ rfl rfl rfl (Blk.new _ stZ _) ?_; intro w5 N0 NL NF NS; have B4 := NL _ (Nat.le_refl _) _ (below_allocs V2 _); have G5 := G1.below B4; have B5 := below_then B3 B4; clear NL NF NS N0 B4 B3 G1) | fail)
  refine (cuBlockOf (row_len s 8) G5).mono ?_
  rintro e V6 ⟨rfl, R, hb⟩
  have B6 := below_then B5 hb
  have K6 := HK.out.below B6
  obtain ⟨k1, k2, k3, k4⟩ := cuCells K6
  have f4 := K6.free 18
  have n6 : w5.heap.size ≠ c := fun e => by have h1 := HK.out.lt; have h2 := B5.size; omega
  have s6 := B5.size
  have K7 : Blk 114 (V6.setCell ⟨c, 18, none⟩ (.slice (some ⟨w5.heap.size, 0, none⟩) 8 8)) c (cuC n p s (.slice (some ⟨w5.heap.size, 0, none⟩) 8 8)) := K6.set 18 _
  have R7 := R.far (a := ⟨c, 18, none⟩) n6 (.slice (some ⟨w5.heap.size, 0, none⟩) 8 8)
  have O7 := (Only.of_below (c := c) B6).set 18 (.slice (some ⟨w5.heap.size, 0, none⟩) 8 8)
  clear hb R K6 B6 B5 HK G5
  go_wp2_with fail
  go_end0
  exact ⟨rfl, w5.heap.size, s6, R7, K7, O7⟩
end Go.Proofs.YtkpignbmocpcaaaGreat
