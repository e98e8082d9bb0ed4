/-
  What the calls Allotment, Left, check, look and Uint64 of package stream do for the kind Mix.
-/
import Derived.Test.YtkpignbmocpcaaaGreatGnL
namespace Go.Proofs.YtkpignbmocpcaaaGreat
open Go.RowKit
set_option linter.unusedVariables false
set_option maxRecDepth 100000

/-- Where a stream stands, and where it ends: what is asked of one that tells no word. -/
structure Sz (w : World) (d c f t : Nat) : Prop where
  b : Blk 93 w d (smC c t)
  k : ∃ (n s : Int) (v : Value), Blk 114 w c (cuC n f s v)
  ne : d ≠ c
theorem Sm.z {w : World} {d c n f s t : Nat} (h : Sm w d c n f s t) : Sz w d c f t := ⟨h.b, by obtain ⟨v, hv⟩ := h.k.cells; exact ⟨n, s, v, hv⟩, h.ne⟩
theorem Sz.below {w w' : World} {d c f t : Nat} (h : Sz w d c f t) (hb : Below w.heap.size w w') : Sz w' d c f t := ⟨h.b.below hb, by obtain ⟨n, s, v, hv⟩ := h.k; exact ⟨n, s, v, hv.below hb⟩, h.ne⟩
theorem Sz.cells {w : World} {d c f t : Nat} (h : Sz w d c f t) : w.cell? ⟨d, 0, none⟩ = some (.pointer (some ⟨c, 0, none⟩)) ∧ w.cell? ⟨d, 1, none⟩ = some (.int .u64 0) ∧ w.cell? ⟨d, 2, none⟩ = some (.int .u64 (t : Int)) :=
  ⟨h.b.cell 0 _ rfl, h.b.cell 1 _ rfl, h.b.cell 2 _ rfl⟩
theorem Sz.far {w : World} {d c f t g : Nat} (h : Sz w d c f t) (h1 : d ≠ g) (h2 : c ≠ g) (i : Nat) (u : Value) : Sz (w.setCell ⟨g, i, none⟩ u) d c f t := ⟨h.b.far h1 u, by obtain ⟨n, s, v, hv⟩ := h.k; exact ⟨n, s, v, hv.far h2 u⟩, h.ne⟩
theorem Sz.lt {w : World} {d c f t : Nat} (h : Sz w d c f t) : d < w.heap.size ∧ c < w.heap.size := ⟨h.b.lt, by obtain ⟨n, s, v, hv⟩ := h.k; exact hv.lt⟩
set_option maxHeartbeats 4000000 in
theorem smAllot {w : World} {d c f t : Nat} (h : Sz w d c f t) : Calls Tryz.prog 29 #[.pointer (some ⟨d, 0, none⟩)] w (fun e w' => e = .returned (.agg #[.int .u64 0, .int .u64 f, .int .u64 0, .int .u64 t]) ∧ Below w.heap.size w w') := by
  have B := below_allocs w (.cells #[.int .u64 0, .int .u64 0, .int .u64 0, .int .u64 0] 59)
  have S := SB.new w 0 0 0 0 59
  obtain ⟨n', s', v, hv⟩ := h.k
  have HK := Lib.hid (And.intro (h.below B) (And.intro (hv.below B) (And.intro S B)))
  clear B S hv h
  go_enter Tryz.func29, Tryz.ntmps29
  go_upto_region 1 with fail
  generalize w.alloc _ = W1 at HK ⊢
  refine wp_region_quiet_tail (C := fun w' => Below W1.heap.size W1 w') 10 (by kernel_rfl) (by decide) (by kernel_rfl) (by kernel_rfl) (by kernel_rfl) (by kernel_rfl) (by kernel_rfl) (by kernel_rfl) (Below.refl _ _).drew ?_
  simp only [List.take_succ_cons, List.take_zero, List.drop_succ_cons, List.drop_zero]
  refine WQ.out (?_ : WQ _ _ _ _ _ _)
  iterate 10
    (refine WQ.yes ?_ (by rfl) (fun w' hC => ?_) ?_
     rotate_left
     · (obtain ⟨x1, x2, x3⟩ := (HK.out.1.below hC).cells
        go_simp
        first | done | with_reducible rfl | exact ⟨rfl, rfl⟩ | (go_at_call 43; (with_reducible exact quietA (cuPlace (HK.out.2.1.below hC)) hC)))
     (try simp only [Act.put, List.setIfInBounds_toArray, List.set_cons_zero, List.set_cons_succ]))
  refine WQ.nil ?_
  intro wz hX
  have S2 := HK.out.2.2.1.below hX
  have HR := Lib.hid (SB.put (p' := 0) (q' := f) (r' := 0) (s' := t) S2)
  have HB := Lib.hid (below_put4 (below_then HK.out.2.2.2 hX) (Nat.le_refl w.heap.size) (.int .u64 0) (.int .u64 f) (.int .u64 0) (.int .u64 t))
  obtain ⟨f1, f2, f3, f4⟩ := S2.free
  obtain ⟨z1, z2, z3, z4⟩ := S2.cells
  clear HK S2 hX
  go_wp2_with fail
  generalize World.setCell (World.setCell (World.setCell (World.setCell wz _ _) _ _) _ _) _ _ = V5 at HR HB ⊢
  obtain ⟨r1, r2, r3, r4⟩ := HR.out.cells
  refine bodyPost_ret (by simp [results, Tryz.results29, go_sem, r1, r2, r3, r4]; try rfl) rfl ?_
  exact ⟨rfl, HB.out⟩
theorem spanLen {f t : Nat} (hf : f ≤ t) (ht : t ≤ 9223372036854775808) : TU 28 #[.agg #[.int .u64 0, .int .u64 (f : Int), .int .u64 0, .int .u64 (t : Int)]] 0 ((t - f : Nat) : Int) := by
  have C1 : Hid (TI 12 #[.agg #[.int .u64 0, .int .u64 (f : Int)], .agg #[.int .u64 0, .int .u64 (t : Int)]] (cmpN f t)) := Lib.hid (fun W => cmpW (M := f) (N := t) (by omega) (by omega) W)
  have CR := Lib.hid (rightMain 0 f 0 t _ C1)
  have hr : decide (cmpN f t ≤ 0) = true := by rw [cmpN_le]; exact decide_eq_true hf
  rw [hr] at CR
  have D : Hid (TUB 42 #[.agg #[.int .u64 0, .int .u64 (t : Int)], .agg #[.int .u64 0, .int .u64 (f : Int)]] 0 ((t - f : Nat) : Int) false) := Lib.hid (fun W => by
    refine (cSub (M := t) (N := f) ⟨by decide, by decide, by omega, by omega, by omega⟩ ⟨by decide, by decide, by omega, by omega, by omega⟩ W).mono ?_
    rintro e w' ⟨rfl, hb⟩
    have e0 : (t + Q - f) % Q = t - f := by
      show (t + 340282366920938463463374607431768211456 - f) % 340282366920938463463374607431768211456 = _
      omega
    refine ⟨?_, hb⟩
    rw [e0, decide_eq_false (by omega)]
    have e1 : hiW (t - f) = 0 := by unfold hiW; omega
    have e2 : loW (t - f) = t - f := by unfold loW; omega
    rw [e1, e2]; rfl)
  exact lenYes 0 f 0 t 0 _ false CR D
set_option maxHeartbeats 4000000 in
theorem smLeft {w : World} {d c f t : Nat} (hf : f ≤ t) (ht : t ≤ 9223372036854775808) (h : Sz w d c f t) : Calls Tryz.prog 17 #[.pointer (some ⟨d, 0, none⟩)] w (fun e w' => e = .returned (.agg #[.int .u64 0, .int .u64 ((t - f : Nat) : Int)]) ∧ Below w.heap.size w w') := by
  have CL := Lib.hid (spanLen hf ht)
  generalize ((t - f : Nat) : Int) = q at CL ⊢
  have B := below_allocs w (.cells #[.int .u64 0, .int .u64 0] 31)
  have U := UB.new w 0 0 31
  have HK := Lib.hid (And.intro (h.below B) (And.intro U B))
  clear h B U
  go_enter Tryz.func17, Tryz.ntmps17
  go_upto_region 1 with fail
  generalize w.alloc _ = W1 at HK ⊢
  go_wp2_with fail
  refine (smAllot HK.out.1).mono ?_
  rintro e V ⟨rfl, hb⟩
  have K2 := Lib.hid (And.intro (HK.out.2.1.below hb) (below_then HK.out.2.2 hb))
  clear HK hb
  go_wp2_with fail
  refine (CL.out _).mono ?_
  rintro e V2 ⟨rfl, hb⟩
  have U2 := K2.out.1.below hb
  have HR := Lib.hid (UB.put (p' := 0) (q' := q) U2)
  have HB := Lib.hid (below_put2 (below_then K2.out.2 hb) (Nat.le_refl w.heap.size) (.int .u64 0) (.int .u64 q))
  obtain ⟨f1, f2⟩ := U2.free
  obtain ⟨z1, z2⟩ := U2.cells
  clear hb K2 U2 CL
  go_wp2_with fail
  generalize World.setCell (World.setCell V2 _ _) _ _ = V5 at HR HB ⊢
  obtain ⟨r1, r2⟩ := HR.out.cells
  refine bodyPost_ret (by simp [results, Tryz.results17, go_sem, r1, r2]; try rfl) rfl ?_
  exact ⟨rfl, HB.out⟩
/-- Whether so many words are left. -/
def ck (k l : Nat) : Int := if k ≤ l then 0 else 7
set_option maxHeartbeats 4000000 in
theorem smCheck {w : World} {d c f t k : Nat} (hk : k < 18446744073709551616) (hf : f ≤ t) (ht : t ≤ 9223372036854775808) (h : Sz w d c f t) : Calls Tryz.prog 40 #[.pointer (some ⟨d, 0, none⟩), .agg #[.int .u64 0, .int .u64 k]] w (fun e w' => e = .returned (.int .i64 (ck k (t - f))) ∧ Below w.heap.size w w') := by
  have CC : Hid (∀ W : World, Calls Tryz.prog 12 #[.agg #[.int .u64 0, .int .u64 (k : Int)], .agg #[.int .u64 0, .int .u64 ((t - f : Nat) : Int)]] W (fun e w' => e = .returned (.int .i64 (cmpN k (t - f))) ∧ Below W.heap.size W w')) := Lib.hid (fun W => cmpW (M := k) (N := t - f) hk (by omega) W)
  have hr : (0 : Int) < cmpN k (t - f) ↔ t - f < k := by unfold cmpN; constructor <;> intro h <;> (repeat' split at h) <;> (try split) <;> (try split) <;> omega
  have e0 : ck k (t - f) = if t - f < k then 7 else 0 := by unfold ck; split <;> split <;> first | rfl | omega
  rw [e0]
  generalize cmpN k (t - f) = r at CC hr
  have B := below_allocs w (.cells #[.int .u64 0, .int .u64 k] 31)
  have U := UB.new w 0 k 31
  have HK := Lib.hid (And.intro (h.below B) (And.intro U B))
  clear h B U e0
  have CL : Hid (∀ W, Below (w.alloc (.cells #[.int .u64 0, .int .u64 k] 31)).heap.size (w.alloc (.cells #[.int .u64 0, .int .u64 k] 31)) W → Calls Tryz.prog 17 #[.pointer (some ⟨d, 0, none⟩)] W (fun e w' => e = .returned (.agg #[.int .u64 0, .int .u64 ((t - f : Nat) : Int)]) ∧ Below W.heap.size W w')) := Lib.hid (fun W hW => smLeft hf ht (HK.out.1.below hW))
  generalize ((t - f : Nat) : Int) = q at CC CL
  generalize hl : t - f = l at hr ⊢
  clear hl
  go_enter Tryz.func40, Tryz.ntmps40
  go_upto_region 1 with fail
  generalize w.alloc _ = W1 at HK CL ⊢
  go_cut [9] (fun u wr => u = .bool (decide (0 < r)) ∧ Below W1.heap.size W1 wr)
  case first =>
    refine wp_region_class (fun w' => Below W1.heap.size W1 w') (by kernel_rfl) (by kernel_rfl) (Below.refl _ _).drew ?_
    clear hr
    iterate 5
      (refine WQ.yes ?_ (by rfl) (fun w' hC => ?_) ?_
       rotate_left
       · (obtain ⟨x1, x2⟩ := (HK.out.2.1.below hC).cells
          go_simp
          first | done | with_reducible rfl | exact ⟨rfl, rfl⟩ | (go_at_call 17; (with_reducible exact quietA (CL.out _ hC) hC)) | (go_at_call 12; (with_reducible exact quietN (CC.out _) hC)))
       (try simp only [Act.put, List.setIfInBounds_toArray, List.set_cons_zero, List.set_cons_succ]))
    refine WQ.nil ?_
    intro wz hX
    go_wp2_with fail
    go_meet
    exact ⟨rfl, hX⟩
  obtain ⟨rfl, hB⟩ := hcut
  have HB := Lib.hid (below_then HK.out.2.2 hB)
  clear HK CL CC hB
  by_cases hh : l < k
  · have h1 : 0 < r := hr.2 hh
    have e7 : (if l < k then (7 : Int) else 0) = 7 := if_pos hh
    clear hr hh
    go_wp2_with fail
    go_ret
    exact ⟨rfl, HB.out⟩
  · have h1 : ¬ 0 < r := fun x => hh (hr.1 x)
    have e7 : (if l < k then (7 : Int) else 0) = 0 := if_neg hh
    clear hr hh
    go_wp2_with fail
    go_ret
    exact ⟨rfl, HB.out⟩
/-- The check of a stream, as a method value. -/
def ckF (d : Nat) : Value := .func (.func 40) #[.pointer (some ⟨d, 0, none⟩)] #[]
set_option maxHeartbeats 4000000 in
theorem smLook {w : World} {d c f t k : Nat} (hk : k ≤ 256) (hf : f ≤ t) (ht : t ≤ 9223372036854775808) (h : Sz w d c f t) : Calls Tryz.prog 39 #[ckF d, .int .i64 k, .int .i64 1] w (fun e w' => e = .returned (.int .i64 (ck k (t - f))) ∧ Below w.heap.size w w') := by
  unfold ckF
  have HK := Lib.hid h
  clear h
  have k0 : ¬ (k : Int) < 0 := by omega
  have k1 : ¬ (k : Int) > 256 := by omega
  have w1 : IntKind.u64.wrap (k : Int) = (k : Int) := by rw [IntKind.wrap_u64]; omega
  have w2 : IntKind.i64.wrap ((k : Int) + 1) = (k : Int) + 1 := by rw [IntKind.wrap_i64]; omega
  have w3 : (k : Int) + 1 - 1 = k := by omega
  have w4 : IntKind.i64.wrap (k : Int) = (k : Int) := by rw [IntKind.wrap_i64]; omega
  go_enter Tryz.func39, Tryz.ntmps39
  go_wp2_with fail
  refine (cOfL (L := k) (by omega) _).mono ?_
  rintro e V ⟨rfl, hb⟩
  have K2 := Lib.hid (HK.out.below hb)
  have B2 := Lib.hid hb
  clear hb HK
  go_wp2_with fail
  refine (smCheck (by omega) hf ht K2.out).mono ?_
  rintro e V2 ⟨rfl, hb⟩
  have B3 := Lib.hid (below_then B2.out hb)
  clear hb K2 B2
  go_wp2_with fail
  go_ret
  exact ⟨rfl, B3.out⟩
theorem Sm.only {w w' : World} {d c n f s t f' s' : Nat} (h : Sm w d c n f s t) (k : Cu w' c n f' s') (o : Only c w w') : Sm w' d c n f' s' t := ⟨h.b.only o h.ne, k, h.ne⟩
set_option maxHeartbeats 4000000 in
/-- The next word of a stream of the kind Mix. -/
theorem smUint64 {w : World} {d c n f s t : Nat} (hf : f < t) (hp : f + 8 ≤ 9223372036854775808) (ht : t ≤ 9223372036854775808) (h : Sm w d c n f s t) :
    Calls Tryz.prog 27 #[.pointer (some ⟨d, 0, none⟩)] w (fun e w' => e = .returned (.tuple #[.int .u64 ((mixN (stepN s) : Nat) : Int), .int .i64 0]) ∧ Sm w' d c n (f + 1) (stepN s) t ∧ Only c w w') := by
  have hmf : ∀ (fn : Fn) (first cap : Array Value) (w : World), (Instr.makeFunc fn first cap).run Tryz.prog w = .ok (.func fn first cap) w := fun _ _ _ _ => rfl
  have CL := Lib.hid (smLook (k := 1) (by decide) (Nat.le_of_lt hf) ht h.z)
  unfold ckF at CL
  have e0 : ck 1 (t - f) = 0 := if_pos (by omega)
  rw [e0] at CL
  clear e0
  have HK := Lib.hid h
  clear h
  go_enter Tryz.func27, Tryz.ntmps27
  go_wp2_with fail
  refine CL.out.mono ?_
  rintro e V ⟨rfl, hb⟩
  have K2 := Lib.hid (HK.out.below hb)
  have B2 := Lib.hid hb
  clear hb HK CL
  obtain ⟨x1, x2, x3⟩ := K2.out.cells
  go_wp2_with fail
  refine (cuNext hp K2.out.k).mono ?_
  rintro e V2 ⟨rfl, hc, ho⟩
  have F := Lib.hid (And.intro (K2.out.only hc ho) ((Only.of_below B2.out).trans ho))
  clear hc ho K2 B2 x1 x2 x3
  go_wp2_with fail
  go_returns
  exact ⟨rfl, F.out.1, F.out.2⟩
set_option maxHeartbeats 4000000 in
/-- A stream with nothing left. -/
theorem smEmpty {w : World} {d c f : Nat} (ht : f ≤ 9223372036854775808) (h : Sz w d c f f) :
    Calls Tryz.prog 27 #[.pointer (some ⟨d, 0, none⟩)] w (fun e w' => e = .returned (.tuple #[.int .u64 0, .int .i64 7]) ∧ Below w.heap.size w w') := by
  have hmf : ∀ (fn : Fn) (first cap : Array Value) (w : World), (Instr.makeFunc fn first cap).run Tryz.prog w = .ok (.func fn first cap) w := fun _ _ _ _ => rfl
  have CL := Lib.hid (smLook (k := 1) (by decide) (Nat.le_refl f) ht h)
  unfold ckF at CL
  have e0 : ck 1 (f - f) = 7 := if_neg (by omega)
  rw [e0] at CL
  clear e0 h
  go_enter Tryz.func27, Tryz.ntmps27
  go_wp2_with fail
  refine CL.out.mono ?_
  rintro e V ⟨rfl, hb⟩
  have B2 := Lib.hid hb
  clear hb CL
  go_wp2_with fail
  go_returns
  exact ⟨rfl, B2.out⟩
end Go.Proofs.YtkpignbmocpcaaaGreat
