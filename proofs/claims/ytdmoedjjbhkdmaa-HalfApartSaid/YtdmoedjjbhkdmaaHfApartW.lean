/-
  The walk of HalfApart, from what half's calls answer. Made by wip/gen/hfapart.py.
-/
import Derived.Test.YtdmoedjjbhkdmaaHfStepsW
namespace Go.Proofs.Ytdmoedjjbhkdmaa
open Go.RowKit G
set_option linter.unusedVariables false
set_option maxRecDepth 100000

/-- Behind a region that lays two states. -/
def Cut2S (W0 : World) (a b : Hw) (p q : Value) (W : World) : Prop := ∃ x z : Nat, p = .pointer (some ⟨x, 0, none⟩) ∧ q = .pointer (some ⟨z, 0, none⟩) ∧ K5 29 W x a ∧ K5 29 W z b ∧ Below W0.heap.size W0 W
section
variable {W0 v : World} {a b : Hw}
theorem Cut2S.ab (h : Below W0.heap.size W0 v) : Cut2S W0 a b (.pointer (some ⟨v.heap.size, 0, none⟩)) (.pointer (some ⟨v.heap.size + 1, 0, none⟩)) ((v.alloc (.cells #[.int .u64 a.h, .int .u64 a.l, .int .u32 a.k, .int .u32 a.m, .bool a.s] 29)).alloc (.cells #[.int .u64 b.h, .int .u64 b.l, .int .u32 b.k, .int .u32 b.m, .bool b.s] 29)) := by
  have n := K5.new 29 (v.alloc (.cells #[.int .u64 a.h, .int .u64 a.l, .int .u32 a.k, .int .u32 a.m, .bool a.s] 29)) b
  rw [show (v.alloc (.cells #[.int .u64 a.h, .int .u64 a.l, .int .u32 a.k, .int .u32 a.m, .bool a.s] 29)).heap.size = v.heap.size + 1 from Array.size_push _] at n
  exact ⟨_, _, rfl, rfl, (K5.new 29 v a).below (below_allocs _ _), n, below_alloc (below_alloc h _) _⟩
theorem Cut2S.ba (h : Below W0.heap.size W0 v) : Cut2S W0 a b (.pointer (some ⟨v.heap.size + 1, 0, none⟩)) (.pointer (some ⟨v.heap.size, 0, none⟩)) ((v.alloc (.cells #[.int .u64 b.h, .int .u64 b.l, .int .u32 b.k, .int .u32 b.m, .bool b.s] 29)).alloc (.cells #[.int .u64 a.h, .int .u64 a.l, .int .u32 a.k, .int .u32 a.m, .bool a.s] 29)) := by
  have n := K5.new 29 (v.alloc (.cells #[.int .u64 b.h, .int .u64 b.l, .int .u32 b.k, .int .u32 b.m, .bool b.s] 29)) a
  rw [show (v.alloc (.cells #[.int .u64 b.h, .int .u64 b.l, .int .u32 b.k, .int .u32 b.m, .bool b.s] 29)).heap.size = v.heap.size + 1 from Array.size_push _] at n
  exact ⟨_, _, rfl, rfl, n, (K5.new 29 v b).below (below_allocs _ _), below_alloc (below_alloc h _) _⟩
end
/-- A block of two words of 64 bits. -/
def D2 (w : World) (b : Nat) (p q : Int) : Prop := w.heap[b]? = some (.cells #[.int .u64 p, .int .u64 q] 59 (0, 0))
section
variable {w w' : World} {b : Nat} {p q p' q' : Int}
theorem D2.lt (h : D2 w b p q) : b < w.heap.size := (Array.getElem?_eq_some_iff.1 h).1
theorem D2.below (h : D2 w b p q) (hb : Below w.heap.size w w') : D2 w' b p q := (hb.block b h.lt).trans h
theorem D2.new (w : World) (p q : Int) : D2 (w.alloc (.cells #[.int .u64 p, .int .u64 q] 59)) w.heap.size p q := show (w.heap.push _)[w.heap.size]? = some _ by simp
theorem D2.cells (h : D2 w b p q) : w.cell? ⟨b, 0, none⟩ = some (.int .u64 p) ∧ w.cell? ⟨b, 1, none⟩ = some (.int .u64 q) := by
  unfold D2 at h
  refine ⟨?_, ?_⟩ <;> simp [World.cell?, h]
theorem D2.free (h : D2 w b p q) : w.frozen? ⟨b, 0, none⟩ = false ∧ w.frozen? ⟨b, 1, none⟩ = false := by
  unfold D2 at h
  refine ⟨?_, ?_⟩ <;> simp [World.frozen?, h]
theorem D2.put (h : D2 w b p q) : D2 ((w.setCell ⟨b, 0, none⟩ (.int .u64 p')).setCell ⟨b, 1, none⟩ (.int .u64 q')) b p' q' := by
  have h0 := at_block h 0 (.int .u64 p')
  exact (at_block h0 1 (.int .u64 q')).trans rfl
end
def Zd (w : World) (b : Nat) : Prop := D2 w b 0 0
section
variable {w w' : World} {b : Nat}
theorem Zd.cells (h : Zd w b) : w.cell? ⟨b, 0, none⟩ = some (.int .u64 0) ∧ w.cell? ⟨b, 1, none⟩ = some (.int .u64 0) := D2.cells h
theorem Zd.free (h : Zd w b) : w.frozen? ⟨b, 0, none⟩ = false ∧ w.frozen? ⟨b, 1, none⟩ = false := D2.free h
theorem Zd.lt (h : Zd w b) : b < w.heap.size := D2.lt h
theorem Zd.below (h : Zd w b) (hb : Below w.heap.size w w') : Zd w' b := D2.below h hb
end
theorem zd_early {w v : World} (hb : Below (w.alloc (.cells #[.int .u64 0, .int .u64 0] 59)).heap.size (w.alloc (.cells #[.int .u64 0, .int .u64 0] 59)) v) : Zd v w.heap.size := D2.below (D2.new w 0 0) hb
def CutD (W0 : World) (p q : Int) (v : Value) (W : World) : Prop := ∃ b, v = .pointer (some ⟨b, 0, none⟩) ∧ D2 W b p q ∧ Below W0.heap.size W0 W
section
variable {W0 v : World} {b : Nat} {p q : Int}
theorem CutD.of (hb : Below W0.heap.size W0 v) : CutD W0 p q (.pointer (some ⟨v.heap.size, 0, none⟩)) (v.alloc (.cells #[.int .u64 p, .int .u64 q] 59)) := ⟨_, rfl, D2.new v p q, below_alloc hb _⟩
theorem CutD.early (hb : Below W0.heap.size W0 v) (le : W0.heap.size ≤ b) (z : Zd v b) : CutD W0 p q (.pointer (some ⟨b, 0, none⟩)) ((v.setCell ⟨b, 0, none⟩ (.int .u64 p)).setCell ⟨b, 1, none⟩ (.int .u64 q)) := ⟨_, rfl, D2.put z, (hb.setCell le _).setCell le _⟩
end
/-- Numbers, and states, that are the same, or aren't. -/
def Ne2 (a b c d : Int) : Prop := ((a = c) = False ∧ (a == c) = false) ∨ (a = c ∧ (b = d) = False ∧ (b == d) = false)
def Ne3 (a b c d : Int) (s t : Bool) : Prop := ((a = c) = False ∧ (a == c) = false) ∨ (a = c ∧ (b = d) = False ∧ (b == d) = false) ∨ (a = c ∧ b = d ∧ s = true ∧ t = false) ∨ (a = c ∧ b = d ∧ s = false ∧ t = true)
theorem ne2_of {a b c d : Int} (h : ¬ (a = c ∧ b = d)) : Ne2 a b c d := by
  by_cases e : a = c
  · exact .inr ⟨e, eq_false fun f => h ⟨e, f⟩, by simpa using fun f => h ⟨e, f⟩⟩
  · exact .inl ⟨eq_false e, by simpa using e⟩
theorem ne3_of {a b c d : Int} {s t : Bool} (h : ¬ (a = c ∧ b = d ∧ s = t)) : Ne3 a b c d s t := by
  by_cases e : a = c
  · by_cases f : b = d
    · cases s <;> cases t
      · exact absurd ⟨e, f, rfl⟩ h
      · exact .inr (.inr (.inr ⟨e, f, rfl, rfl⟩))
      · exact .inr (.inr (.inl ⟨e, f, rfl, rfl⟩))
      · exact absurd ⟨e, f, rfl⟩ h
    · exact .inr (.inl ⟨e, eq_false f, by simpa using f⟩)
  · exact .inl ⟨eq_false e, by simpa using e⟩
theorem eqD (a b a' b' : Int) (w : World) : Sem.run Try.prog (Op.equalIn 10000 59 (.agg #[.int .u64 a, .int .u64 b]) (.agg #[.int .u64 a', .int .u64 b'])) w = .ok (a == a' && b == b') w := by
  have u3 := Try.underlying22
  have a3 := Try.isAgg22
  have z3 := Try.sizeOf22
  have q := fun a b => run_equalIn_int w 9998 _ .u64 .u64 a b u3
  show Sem.run Try.prog (Op.equalIn (9998 + 1 + 1) 59 _ _) w = _
  rw [Op.equalIn]
  simp only [Sem.run_bind, run_underlying Try.underlying59, Result.andThen_ok]
  simp only [Std.Legacy.Range.forIn_eq_forIn_range', Std.Legacy.Range.size, Nat.sub_zero, Nat.add_sub_cancel, Nat.div_one, List.range'_succ, List.range'_zero, List.forIn_cons, List.forIn_nil]
  go_simp
  by_cases h1 : a = a' <;> by_cases h2 : b = b' <;> simp [h1, h2]
set_option maxHeartbeats 16000000 in
theorem papartMain (aw : Hid (∀ W, Calls Try.prog 8 #[] W (Bl true W))) (y : Hw) (hn ln hm lm uh ul vh vl p1 p2 r1 r2 : Int) (us vs e : Bool) (w : World)
    (J1 : Hid (TH 16 #[y.val, .agg #[.int .u64 hn, .int .u64 ln]] ⟨uh, ul, y.k, y.m, us⟩)) (J2 : Hid (TH 16 #[y.val, .agg #[.int .u64 hm, .int .u64 lm]] ⟨vh, vl, y.k, y.m, vs⟩))
    (D : Hid ((e = true ∧ hn = hm ∧ ln = lm ∧ uh = vh ∧ ul = vl ∧ us = vs) ∨ (e = false ∧ Ne2 hn ln hm lm ∧ Ne3 uh ul vh vl us vs)))
    (WA1 : Hid (TU 14 #[.agg #[.int .u64 hn, .int .u64 ln, .int .u32 y.k, .int .u32 y.m, .bool false]] p1)) (SA : Hid (TH 15 #[.agg #[.int .u64 hn, .int .u64 ln, .int .u32 y.k, .int .u32 y.m, .bool false]] ⟨hn, ln, y.k, y.m, true⟩)) (WA2 : Hid (TU 14 #[.agg #[.int .u64 hn, .int .u64 ln, .int .u32 y.k, .int .u32 y.m, .bool true]] p2))
    (WB1 : Hid (TU 14 #[.agg #[.int .u64 hm, .int .u64 lm, .int .u32 y.k, .int .u32 y.m, .bool false]] r1)) (SB : Hid (TH 15 #[.agg #[.int .u64 hm, .int .u64 lm, .int .u32 y.k, .int .u32 y.m, .bool false]] ⟨hm, lm, y.k, y.m, true⟩)) (WB2 : Hid (TU 14 #[.agg #[.int .u64 hm, .int .u64 lm, .int .u32 y.k, .int .u32 y.m, .bool true]] r2))
    (E4 : Hid (∀ W : World, Sem.run Try.prog (Op.equalIn 10000 59 (.agg #[.int .u64 p1, .int .u64 p2]) (.agg #[.int .u64 r1, .int .u64 r2])) W = .ok e W)) :
    Calls Try.prog 7 #[y.val, .agg #[.int .u64 hn, .int .u64 ln], .agg #[.int .u64 hm, .int .u64 lm]] w (Bl true w) := by
  have hB : Below w.heap.size w w := Below.refl _ _
  go_enter Try.func7, Try.ntmps7
  go_wp2_with fail
  have Uy := K5.new 29 w y
  have LB := below_allocs w (.cells #[.int .u64 y.h, .int .u64 y.l, .int .u32 y.k, .int .u32 y.m, .bool y.s] 29)
  replace hB := below_then hB LB
  clear LB
  have z1 : (w.alloc (.cells #[.int .u64 y.h, .int .u64 y.l, .int .u32 y.k, .int .u32 y.m, .bool y.s] 29)).heap.size = w.heap.size + 1 := Array.size_push _
  generalize w.alloc _ = V1 at Uy hB z1 ⊢
  have Un := CU.new V1 hn ln 24
  have LB := below_allocs V1 (.cells #[.int .u64 hn, .int .u64 ln] 24)
  replace Uy := Uy.below LB
  replace hB := below_then hB LB
  clear LB
  have z2 : (V1.alloc (.cells #[.int .u64 hn, .int .u64 ln] 24)).heap.size = w.heap.size + 2 := (Array.size_push _).trans (by rw [z1])
  rw [z1] at Un
  generalize V1.alloc _ = V2 at Uy Un hB z2 ⊢
  have Um := CU.new V2 hm lm 24
  have LB := below_allocs V2 (.cells #[.int .u64 hm, .int .u64 lm] 24)
  replace Uy := Uy.below LB
  replace Un := Un.below LB
  replace hB := below_then hB LB
  clear LB
  have z3 : (V2.alloc (.cells #[.int .u64 hm, .int .u64 lm] 24)).heap.size = w.heap.size + 3 := (Array.size_push _).trans (by rw [z2])
  rw [z2] at Um
  generalize V2.alloc _ = V3 at Uy Un Um hB z3 ⊢
  clear z1 z2 z3
  generalize w.heap.size + 2 = cm at Um ⊢
  generalize w.heap.size + 1 = cn at Un ⊢
  obtain ⟨cy, hcy⟩ : ∃ c, c = w.heap.size := ⟨_, rfl⟩
  rw [← hcy] at Uy ⊢
  clear hcy
  refine (aw.out _).mono ?_
  rintro e W0 ⟨rfl, hb⟩
  replace Uy := Uy.below hb
  replace Un := Un.below hb
  replace Um := Um.below hb
  replace hB := below_then hB hb
  clear hb
  clear aw
  go_wp2_with fail
  have HS := Lib.hid (And.intro Uy (And.intro Un Um))
  have HBB := Lib.hid hB
  clear Uy Un Um hB
  go_cut [23] (fun v W => v = .bool false ∧ Below W0.heap.size W0 W)
  case first =>
    clear HBB
    rcases D.out with ⟨rfl, rfl, rfl, rfl, rfl, rfl⟩ | ⟨rfl, N, UV⟩
    · skip
      refine wp_region_class (fun w' => Below W0.heap.size W0 w') (by kernel_rfl) (by kernel_rfl) (Below.refl _ _).drew ?_
      iterate 11
        (refine WQ.yes ?_ (by rfl) (fun w' hC => ?_) ?_
         rotate_left
         · (obtain ⟨x0, x1, x2, x3, x4⟩ := (HS.out.1.below hC).cells
            obtain ⟨a0, a1⟩ := (HS.out.2.1.below hC).c
            obtain ⟨b0, b1⟩ := (HS.out.2.2.below hC).c
            have q1 := qK; have q2 := qP; have q3 := eqB
            go_simp
            first
              | done
              | with_reducible rfl
              | exact ⟨rfl, rfl⟩
              | (go_at_call 16; first | (with_reducible exact quietH (J1.out _) hC) | (with_reducible exact quietH (J2.out _) hC)))
         (try simp only [Act.put, List.setIfInBounds_toArray, List.set_cons_zero, List.set_cons_succ]))
      refine WQ.nil ?_
      intro wz hX
      go_wp2
      go_meet
      exact ⟨rfl, hX⟩
    · rcases N with ⟨n1, n2⟩ | ⟨rfl, n1, n2⟩
      all_goals
        rcases UV with ⟨u1, u2⟩ | ⟨rfl, u1, u2⟩ | ⟨rfl, rfl, rfl, rfl⟩ | ⟨rfl, rfl, rfl, rfl⟩
        all_goals
          refine wp_region_class (fun w' => Below W0.heap.size W0 w') (by kernel_rfl) (by kernel_rfl) (Below.refl _ _).drew ?_
          iterate 11
            (refine WQ.yes ?_ (by rfl) (fun w' hC => ?_) ?_
             rotate_left
             · (obtain ⟨x0, x1, x2, x3, x4⟩ := (HS.out.1.below hC).cells
                obtain ⟨a0, a1⟩ := (HS.out.2.1.below hC).c
                obtain ⟨b0, b1⟩ := (HS.out.2.2.below hC).c
                have q1 := qK; have q2 := qP; have q3 := eqB
                go_simp
                first
                  | done
                  | with_reducible rfl
                  | exact ⟨rfl, rfl⟩
                  | (go_at_call 16; first | (with_reducible exact quietH (J1.out _) hC) | (with_reducible exact quietH (J2.out _) hC)))
             (try simp only [Act.put, List.setIfInBounds_toArray, List.set_cons_zero, List.set_cons_succ]))
          refine WQ.nil ?_
          intro wz hX
          go_wp2
          go_meet
          exact ⟨rfl, hX⟩
  obtain ⟨rfl, hb⟩ := hcut
  have H5 := Lib.hid (And.intro (HS.out.1.below hb) (And.intro (HS.out.2.1.below hb) (And.intro (HS.out.2.2.below hb) (below_then HBB.out hb))))
  clear HS HBB hb J1 J2
  obtain ⟨Y5, hY5⟩ : ∃ x : World, x = wc := ⟨_, rfl⟩
  subst hY5
  obtain ⟨x0, x1_, x2_, x3_, x4_⟩ := H5.out.1.cells
  obtain ⟨a0, a1⟩ := H5.out.2.1.c
  obtain ⟨b0, b1⟩ := H5.out.2.2.1.c
  have ly : cy < Y5.heap.size := H5.out.1.lt
  have l_n : cn < Y5.heap.size := H5.out.2.1.lt
  have l_m : cm < Y5.heap.size := H5.out.2.2.1.lt
  go_wp2_with fail
  go_cut [7, 8] (Cut2S Y5 ⟨hn, ln, y.k, y.m, false⟩ ⟨hm, lm, y.k, y.m, false⟩)
  case first =>
    have hY : Below Y5.heap.size Y5 Y5.drew := (Below.refl _ _).drew
    go_region
    all_goals
      go_wp2_with fail
      go_meet
      first
        | exact Cut2S.ab (Below.refl _ _)
        | exact Cut2S.ba (Below.refl _ _)
        | exact Cut2S.ab hY
        | exact Cut2S.ba hY
  obtain ⟨ca, cb, rfl, rfl, UA, UB, hb⟩ := hcut
  have HK := Lib.hid (And.intro UA (And.intro UB (And.intro (H5.out.2.1.below hb) (And.intro (H5.out.2.2.1.below hb) (below_then H5.out.2.2.2 hb)))))
  clear H5 UA UB hb ly l_n l_m x0 x1_ x2_ x3_ x4_ a0 a1 b0 b1
  obtain ⟨Y6, hY6⟩ : ∃ x : World, x = wc := ⟨_, rfl⟩
  subst hY6
  go_wp2_with fail
  go_cut [9] (CutD Y6 p1 p2)
  case first =>
    have hX : Below Y6.heap.size Y6 Y6 := Below.refl _ _
    obtain ⟨f0, f1, f2, f3, f4⟩ := HK.out.1.cells
    have l0 : ca < Y6.heap.size := HK.out.1.lt
    go_region_held3 (fun w' => w'.cell? ⟨ca, 0, none⟩ = some (.int .u64 hn) ∧ w'.cell? ⟨ca, 1, none⟩ = some (.int .u64 ln) ∧ w'.cell? ⟨ca, 2, none⟩ = some (.int .u32 y.k) ∧ w'.cell? ⟨ca, 3, none⟩ = some (.int .u32 y.m) ∧ w'.cell? ⟨ca, 4, none⟩ = some (.bool false)) (go_keep) (first
      | (go_at_call 14; (with_reducible refine (WA1.out _).mono ?_); rintro e xp ⟨rfl, hb⟩; (first | (have z_Y6 : Zd xp Y6.heap.size := zd_early (w := World.drew Y6) hb; obtain ⟨apY60, apY61⟩ := Zd.cells z_Y6; obtain ⟨apY62, apY63⟩ := Zd.free z_Y6; have apY6l := Zd.lt z_Y6) | (have z_xs : Zd xp xs.heap.size := zd_early (w := xs) hb; obtain ⟨apxs0, apxs1⟩ := Zd.cells z_xs; obtain ⟨apxs2, apxs3⟩ := Zd.free z_xs; have apxsl := Zd.lt z_xs) | (have z_xq : Zd xp xq.heap.size := zd_early (w := xq) hb; obtain ⟨apxq0, apxq1⟩ := Zd.cells z_xq; obtain ⟨apxq2, apxq3⟩ := Zd.free z_xq; have apxql := Zd.lt z_xq) | skip); (first | (replace z_Y6 := Zd.below z_Y6 hb; obtain ⟨bpY60, bpY61⟩ := Zd.cells z_Y6; obtain ⟨bpY62, bpY63⟩ := Zd.free z_Y6; have bpY6l := Zd.lt z_Y6) | skip); (first | (replace z_xs := Zd.below z_xs hb; obtain ⟨bpxs0, bpxs1⟩ := Zd.cells z_xs; obtain ⟨bpxs2, bpxs3⟩ := Zd.free z_xs; have bpxsl := Zd.lt z_xs) | skip); (first | (replace z_xq := Zd.below z_xq hb; obtain ⟨bpxq0, bpxq1⟩ := Zd.cells z_xq; obtain ⟨bpxq2, bpxq3⟩ := Zd.free z_xq; have bpxql := Zd.lt z_xq) | skip); replace hX := below_then (show Below Y6.heap.size Y6 _ by first | exact hX | exact hX.drew | exact hX.alloc hX.size _ | exact hX.drew.alloc hX.drew.size _) hb; clear hb; have s_xp : Y6.heap.size ≤ xp.heap.size := hX.size; have dp0 := Nat.ne_of_lt l0; have dp0s := Nat.ne_of_gt l0; clear l0; clear f0 f1 f2 f3 f4; obtain ⟨f0, f1, f2, f3, f4⟩ := (HK.out.1.below hX).cells; have l0 := (HK.out.1.below hX).lt; have ep0 := Nat.ne_of_lt l0; have ep0s := Nat.ne_of_gt l0)
      | (go_at_call 14; (with_reducible refine (WA2.out _).mono ?_); rintro e xq ⟨rfl, hb⟩; (first | (have z_Y6 : Zd xq Y6.heap.size := zd_early (w := World.drew Y6) hb; obtain ⟨aqY60, aqY61⟩ := Zd.cells z_Y6; obtain ⟨aqY62, aqY63⟩ := Zd.free z_Y6; have aqY6l := Zd.lt z_Y6) | (have z_xs : Zd xq xs.heap.size := zd_early (w := xs) hb; obtain ⟨aqxs0, aqxs1⟩ := Zd.cells z_xs; obtain ⟨aqxs2, aqxs3⟩ := Zd.free z_xs; have aqxsl := Zd.lt z_xs) | (have z_xp : Zd xq xp.heap.size := zd_early (w := xp) hb; obtain ⟨aqxp0, aqxp1⟩ := Zd.cells z_xp; obtain ⟨aqxp2, aqxp3⟩ := Zd.free z_xp; have aqxpl := Zd.lt z_xp) | skip); (first | (replace z_Y6 := Zd.below z_Y6 hb; obtain ⟨bqY60, bqY61⟩ := Zd.cells z_Y6; obtain ⟨bqY62, bqY63⟩ := Zd.free z_Y6; have bqY6l := Zd.lt z_Y6) | skip); (first | (replace z_xs := Zd.below z_xs hb; obtain ⟨bqxs0, bqxs1⟩ := Zd.cells z_xs; obtain ⟨bqxs2, bqxs3⟩ := Zd.free z_xs; have bqxsl := Zd.lt z_xs) | skip); (first | (replace z_xp := Zd.below z_xp hb; obtain ⟨bqxp0, bqxp1⟩ := Zd.cells z_xp; obtain ⟨bqxp2, bqxp3⟩ := Zd.free z_xp; have bqxpl := Zd.lt z_xp) | skip); replace hX := below_then (show Below Y6.heap.size Y6 _ by first | exact hX | exact hX.drew | exact hX.alloc hX.size _ | exact hX.drew.alloc hX.drew.size _) hb; clear hb; have s_xq : Y6.heap.size ≤ xq.heap.size := hX.size; have dq0 := Nat.ne_of_lt l0; have dq0s := Nat.ne_of_gt l0; clear l0; clear f0 f1 f2 f3 f4; obtain ⟨f0, f1, f2, f3, f4⟩ := (HK.out.1.below hX).cells; have l0 := (HK.out.1.below hX).lt; have eq0 := Nat.ne_of_lt l0; have eq0s := Nat.ne_of_gt l0)
      | (go_at_call 15; (with_reducible refine (SA.out _).mono ?_); rintro e xs ⟨rfl, hb⟩; (first | (have z_Y6 : Zd xs Y6.heap.size := zd_early (w := World.drew Y6) hb; obtain ⟨asY60, asY61⟩ := Zd.cells z_Y6; obtain ⟨asY62, asY63⟩ := Zd.free z_Y6; have asY6l := Zd.lt z_Y6) | (have z_xp : Zd xs xp.heap.size := zd_early (w := xp) hb; obtain ⟨asxp0, asxp1⟩ := Zd.cells z_xp; obtain ⟨asxp2, asxp3⟩ := Zd.free z_xp; have asxpl := Zd.lt z_xp) | skip); (first | (replace z_Y6 := Zd.below z_Y6 hb; obtain ⟨bsY60, bsY61⟩ := Zd.cells z_Y6; obtain ⟨bsY62, bsY63⟩ := Zd.free z_Y6; have bsY6l := Zd.lt z_Y6) | skip); (first | (replace z_xp := Zd.below z_xp hb; obtain ⟨bsxp0, bsxp1⟩ := Zd.cells z_xp; obtain ⟨bsxp2, bsxp3⟩ := Zd.free z_xp; have bsxpl := Zd.lt z_xp) | skip); replace hX := below_then (show Below Y6.heap.size Y6 _ by first | exact hX | exact hX.drew | exact hX.alloc hX.size _ | exact hX.drew.alloc hX.drew.size _) hb; clear hb; have s_xs : Y6.heap.size ≤ xs.heap.size := hX.size; have ds0 := Nat.ne_of_lt l0; have ds0s := Nat.ne_of_gt l0; clear l0; clear f0 f1 f2 f3 f4; obtain ⟨f0, f1, f2, f3, f4⟩ := (HK.out.1.below hX).cells; have l0 := (HK.out.1.below hX).lt; have es0 := Nat.ne_of_lt l0; have es0s := Nat.ne_of_gt l0))
    all_goals
      go_wp2_with fail
      go_meet
      first
          | with_reducible exact CutD.of hX
          | with_reducible exact CutD.early hX (Nat.le_refl _) z_Y6
          | with_reducible exact CutD.early hX s_xp z_xp
          | with_reducible exact CutD.early hX s_xq z_xq
          | with_reducible exact CutD.early hX s_xs z_xs
  obtain ⟨cd, rfl, UD, hb⟩ := hcut
  have HK2 := Lib.hid (And.intro (HK.out.2.1.below hb) (And.intro UD (And.intro (HK.out.2.2.1.below hb) (And.intro (HK.out.2.2.2.1.below hb) (below_then HK.out.2.2.2.2 hb)))))
  clear HK UD hb WA1 SA WA2
  have HK := HK2
  clear HK2
  obtain ⟨Y7, hY7⟩ : ∃ x : World, x = wc := ⟨_, rfl⟩
  subst hY7
  go_wp2_with fail
  go_cut [10] (CutD Y7 r1 r2)
  case first =>
    have hX : Below Y7.heap.size Y7 Y7 := Below.refl _ _
    obtain ⟨f0, f1, f2, f3, f4⟩ := HK.out.1.cells
    have l0 : cb < Y7.heap.size := HK.out.1.lt
    go_region_held3 (fun w' => w'.cell? ⟨cb, 0, none⟩ = some (.int .u64 hm) ∧ w'.cell? ⟨cb, 1, none⟩ = some (.int .u64 lm) ∧ w'.cell? ⟨cb, 2, none⟩ = some (.int .u32 y.k) ∧ w'.cell? ⟨cb, 3, none⟩ = some (.int .u32 y.m) ∧ w'.cell? ⟨cb, 4, none⟩ = some (.bool false)) (go_keep) (first
      | (go_at_call 14; (with_reducible refine (WB1.out _).mono ?_); rintro e xp ⟨rfl, hb⟩; (first | (have z_Y7 : Zd xp Y7.heap.size := zd_early (w := World.drew Y7) hb; obtain ⟨apY70, apY71⟩ := Zd.cells z_Y7; obtain ⟨apY72, apY73⟩ := Zd.free z_Y7; have apY7l := Zd.lt z_Y7) | (have z_xs : Zd xp xs.heap.size := zd_early (w := xs) hb; obtain ⟨apxs0, apxs1⟩ := Zd.cells z_xs; obtain ⟨apxs2, apxs3⟩ := Zd.free z_xs; have apxsl := Zd.lt z_xs) | (have z_xq : Zd xp xq.heap.size := zd_early (w := xq) hb; obtain ⟨apxq0, apxq1⟩ := Zd.cells z_xq; obtain ⟨apxq2, apxq3⟩ := Zd.free z_xq; have apxql := Zd.lt z_xq) | skip); (first | (replace z_Y7 := Zd.below z_Y7 hb; obtain ⟨bpY70, bpY71⟩ := Zd.cells z_Y7; obtain ⟨bpY72, bpY73⟩ := Zd.free z_Y7; have bpY7l := Zd.lt z_Y7) | skip); (first | (replace z_xs := Zd.below z_xs hb; obtain ⟨bpxs0, bpxs1⟩ := Zd.cells z_xs; obtain ⟨bpxs2, bpxs3⟩ := Zd.free z_xs; have bpxsl := Zd.lt z_xs) | skip); (first | (replace z_xq := Zd.below z_xq hb; obtain ⟨bpxq0, bpxq1⟩ := Zd.cells z_xq; obtain ⟨bpxq2, bpxq3⟩ := Zd.free z_xq; have bpxql := Zd.lt z_xq) | skip); replace hX := below_then (show Below Y7.heap.size Y7 _ by first | exact hX | exact hX.drew | exact hX.alloc hX.size _ | exact hX.drew.alloc hX.drew.size _) hb; clear hb; have s_xp : Y7.heap.size ≤ xp.heap.size := hX.size; have dp0 := Nat.ne_of_lt l0; have dp0s := Nat.ne_of_gt l0; clear l0; clear f0 f1 f2 f3 f4; obtain ⟨f0, f1, f2, f3, f4⟩ := (HK.out.1.below hX).cells; have l0 := (HK.out.1.below hX).lt; have ep0 := Nat.ne_of_lt l0; have ep0s := Nat.ne_of_gt l0)
      | (go_at_call 14; (with_reducible refine (WB2.out _).mono ?_); rintro e xq ⟨rfl, hb⟩; (first | (have z_Y7 : Zd xq Y7.heap.size := zd_early (w := World.drew Y7) hb; obtain ⟨aqY70, aqY71⟩ := Zd.cells z_Y7; obtain ⟨aqY72, aqY73⟩ := Zd.free z_Y7; have aqY7l := Zd.lt z_Y7) | (have z_xs : Zd xq xs.heap.size := zd_early (w := xs) hb; obtain ⟨aqxs0, aqxs1⟩ := Zd.cells z_xs; obtain ⟨aqxs2, aqxs3⟩ := Zd.free z_xs; have aqxsl := Zd.lt z_xs) | (have z_xp : Zd xq xp.heap.size := zd_early (w := xp) hb; obtain ⟨aqxp0, aqxp1⟩ := Zd.cells z_xp; obtain ⟨aqxp2, aqxp3⟩ := Zd.free z_xp; have aqxpl := Zd.lt z_xp) | skip); (first | (replace z_Y7 := Zd.below z_Y7 hb; obtain ⟨bqY70, bqY71⟩ := Zd.cells z_Y7; obtain ⟨bqY72, bqY73⟩ := Zd.free z_Y7; have bqY7l := Zd.lt z_Y7) | skip); (first | (replace z_xs := Zd.below z_xs hb; obtain ⟨bqxs0, bqxs1⟩ := Zd.cells z_xs; obtain ⟨bqxs2, bqxs3⟩ := Zd.free z_xs; have bqxsl := Zd.lt z_xs) | skip); (first | (replace z_xp := Zd.below z_xp hb; obtain ⟨bqxp0, bqxp1⟩ := Zd.cells z_xp; obtain ⟨bqxp2, bqxp3⟩ := Zd.free z_xp; have bqxpl := Zd.lt z_xp) | skip); replace hX := below_then (show Below Y7.heap.size Y7 _ by first | exact hX | exact hX.drew | exact hX.alloc hX.size _ | exact hX.drew.alloc hX.drew.size _) hb; clear hb; have s_xq : Y7.heap.size ≤ xq.heap.size := hX.size; have dq0 := Nat.ne_of_lt l0; have dq0s := Nat.ne_of_gt l0; clear l0; clear f0 f1 f2 f3 f4; obtain ⟨f0, f1, f2, f3, f4⟩ := (HK.out.1.below hX).cells; have l0 := (HK.out.1.below hX).lt; have eq0 := Nat.ne_of_lt l0; have eq0s := Nat.ne_of_gt l0)
      | (go_at_call 15; (with_reducible refine (SB.out _).mono ?_); rintro e xs ⟨rfl, hb⟩; (first | (have z_Y7 : Zd xs Y7.heap.size := zd_early (w := World.drew Y7) hb; obtain ⟨asY70, asY71⟩ := Zd.cells z_Y7; obtain ⟨asY72, asY73⟩ := Zd.free z_Y7; have asY7l := Zd.lt z_Y7) | (have z_xp : Zd xs xp.heap.size := zd_early (w := xp) hb; obtain ⟨asxp0, asxp1⟩ := Zd.cells z_xp; obtain ⟨asxp2, asxp3⟩ := Zd.free z_xp; have asxpl := Zd.lt z_xp) | skip); (first | (replace z_Y7 := Zd.below z_Y7 hb; obtain ⟨bsY70, bsY71⟩ := Zd.cells z_Y7; obtain ⟨bsY72, bsY73⟩ := Zd.free z_Y7; have bsY7l := Zd.lt z_Y7) | skip); (first | (replace z_xp := Zd.below z_xp hb; obtain ⟨bsxp0, bsxp1⟩ := Zd.cells z_xp; obtain ⟨bsxp2, bsxp3⟩ := Zd.free z_xp; have bsxpl := Zd.lt z_xp) | skip); replace hX := below_then (show Below Y7.heap.size Y7 _ by first | exact hX | exact hX.drew | exact hX.alloc hX.size _ | exact hX.drew.alloc hX.drew.size _) hb; clear hb; have s_xs : Y7.heap.size ≤ xs.heap.size := hX.size; have ds0 := Nat.ne_of_lt l0; have ds0s := Nat.ne_of_gt l0; clear l0; clear f0 f1 f2 f3 f4; obtain ⟨f0, f1, f2, f3, f4⟩ := (HK.out.1.below hX).cells; have l0 := (HK.out.1.below hX).lt; have es0 := Nat.ne_of_lt l0; have es0s := Nat.ne_of_gt l0))
    all_goals
      go_wp2_with fail
      go_meet
      first
          | with_reducible exact CutD.of hX
          | with_reducible exact CutD.early hX (Nat.le_refl _) z_Y7
          | with_reducible exact CutD.early hX s_xp z_xp
          | with_reducible exact CutD.early hX s_xq z_xq
          | with_reducible exact CutD.early hX s_xs z_xs
  obtain ⟨cf, rfl, UF, hb⟩ := hcut
  have HL := Lib.hid (And.intro (HK.out.2.1.below hb) (And.intro UF (And.intro (HK.out.2.2.1.below hb) (And.intro (HK.out.2.2.2.1.below hb) (below_then HK.out.2.2.2.2 hb)))))
  clear HK UF hb WB1 SB WB2
  obtain ⟨Y8, hY8⟩ : ∃ x : World, x = wc := ⟨_, rfl⟩
  subst hY8
  go_wp2_with fail
  have hB := HL.out.2.2.2.2
  rcases D.out with ⟨rfl, rfl, rfl, _, _, _⟩ | ⟨rfl, N, _⟩
  · skip
    refine wp_region_class (fun w' => Below Y8.heap.size Y8 w') (by kernel_rfl) (by kernel_rfl) (Below.refl _ _).drew ?_
    iterate 8
      (refine WQ.yes ?_ (by rfl) (fun w' hC => ?_) ?_
       rotate_left
       · (obtain ⟨x0, x1_⟩ := (HL.out.1.below hC).cells
          obtain ⟨u0, u1_⟩ := (HL.out.2.1.below hC).cells
          obtain ⟨a0, a1⟩ := (HL.out.2.2.1.below hC).c
          obtain ⟨b0, b1⟩ := (HL.out.2.2.2.1.below hC).c
          have q5 := E4.out w'
          go_simp
          first
            | done
            | with_reducible rfl
            | exact ⟨rfl, rfl⟩
      )
       (try simp only [Act.put, List.setIfInBounds_toArray, List.set_cons_zero, List.set_cons_succ]))
    refine WQ.nil ?_
    intro wz hX
    go_wp2
    go_ret
    exact ⟨rfl, below_then hB hX⟩
  · rcases N with ⟨n1, n2⟩ | ⟨rfl, n1, n2⟩
    all_goals
      refine wp_region_class (fun w' => Below Y8.heap.size Y8 w') (by kernel_rfl) (by kernel_rfl) (Below.refl _ _).drew ?_
      iterate 8
        (refine WQ.yes ?_ (by rfl) (fun w' hC => ?_) ?_
         rotate_left
         · (obtain ⟨x0, x1_⟩ := (HL.out.1.below hC).cells
            obtain ⟨u0, u1_⟩ := (HL.out.2.1.below hC).cells
            obtain ⟨a0, a1⟩ := (HL.out.2.2.1.below hC).c
            obtain ⟨b0, b1⟩ := (HL.out.2.2.2.1.below hC).c
            have q5 := E4.out w'
            go_simp
            first
              | done
              | with_reducible rfl
              | exact ⟨rfl, rfl⟩
        )
         (try simp only [Act.put, List.setIfInBounds_toArray, List.set_cons_zero, List.set_cons_succ]))
      refine WQ.nil ?_
      intro wz hX
      go_wp2
      go_ret
      exact ⟨rfl, below_then hB hX⟩
end Go.Proofs.Ytdmoedjjbhkdmaa
