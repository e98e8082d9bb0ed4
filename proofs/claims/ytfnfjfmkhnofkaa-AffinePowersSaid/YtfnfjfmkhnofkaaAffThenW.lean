/-
  The walk of AffineThen, from what affine's calls answer.
-/
import Derived.Test.YtfnfjfmkhnofkaaAffA
namespace Go.Proofs.Ytfnfjfmkhnofkaa
open Go.RowKit G
set_option linter.unusedVariables false
set_option maxRecDepth 100000

/-- A map's four words, named. -/
theorem mp_words (m : Mp) : ∃ p q r s : Int, m.val = .agg #[.int .u64 p, .int .u64 q, .int .u64 r, .int .u64 s] := ⟨_, _, _, _, rfl⟩
/-- Four words in memory. -/
structure F4 (w : World) (b : Nat) (p q r s : Int) : Prop where
  c0 : w.cell? ⟨b, 0, none⟩ = some (.int .u64 p)
  c1 : w.cell? ⟨b, 1, none⟩ = some (.int .u64 q)
  c2 : w.cell? ⟨b, 2, none⟩ = some (.int .u64 r)
  c3 : w.cell? ⟨b, 3, none⟩ = some (.int .u64 s)
theorem F4.below {w w' : World} {b : Nat} {p q r s : Int} (h : F4 w b p q r s) (hb : Below w.heap.size w w') : F4 w' b p q r s :=
  ⟨(hb.cell (p := ⟨b, 0, none⟩) (World.block_lt_of_cell? w _ h.c0)).trans h.c0, (hb.cell (p := ⟨b, 1, none⟩) (World.block_lt_of_cell? w _ h.c1)).trans h.c1, (hb.cell (p := ⟨b, 2, none⟩) (World.block_lt_of_cell? w _ h.c2)).trans h.c2, (hb.cell (p := ⟨b, 3, none⟩) (World.block_lt_of_cell? w _ h.c3)).trans h.c3⟩
theorem f4_of_block {w : World} {b : Nat} {p q r s : Int} {t : TypeId} (h : w.heap[b]? = some (.cells #[.int .u64 p, .int .u64 q, .int .u64 r, .int .u64 s] t (0, 0))) : F4 w b p q r s := by
  constructor <;> simp [World.cell?, h]
theorem F4.new (w : World) (p q r s : Int) (t : TypeId) : F4 (w.alloc (.cells #[.int .u64 p, .int .u64 q, .int .u64 r, .int .u64 s] t)) w.heap.size p q r s :=
  f4_of_block (t := t) (show (w.heap.push _)[w.heap.size]? = some _ by simp)
/-- A call that tells a map: its words named. -/
abbrev TM (f : FuncId) (args : Array Value) (p q r s : Int) : Prop := ∀ W : World, Calls Try.prog f args W (fun e w' => e = .returned (.agg #[.int .u64 p, .int .u64 q, .int .u64 r, .int .u64 s]) ∧ Below W.heap.size W w')
abbrev TN (f : FuncId) (args : Array Value) (h l : Int) : Prop := ∀ W : World, Calls Try.prog f args W (fun e w' => e = .returned (.agg #[.int .u64 h, .int .u64 l]) ∧ Below W.heap.size W w')
set_option maxHeartbeats 8000000 in
theorem thenMain (aw : Hid (∀ W, Calls Try.prog 7 #[] W (Bl true W)))
    (a0 a1 a2 a3 b0 b1 b2 b3 c0 c1 c2 c3 h l d0 d1 d2 d3 e0 e1 e2 e3 g0 g1 g2 g3 x0 x1 y0 y1 : Int) (w : World)
    (T1 : Hid (TM 15 #[.agg #[.int .u64 a0, .int .u64 a1, .int .u64 a2, .int .u64 a3], .agg #[.int .u64 b0, .int .u64 b1, .int .u64 b2, .int .u64 b3]] d0 d1 d2 d3))
    (T2 : Hid (TM 15 #[.agg #[.int .u64 d0, .int .u64 d1, .int .u64 d2, .int .u64 d3], .agg #[.int .u64 c0, .int .u64 c1, .int .u64 c2, .int .u64 c3]] g0 g1 g2 g3))
    (T3 : Hid (TM 15 #[.agg #[.int .u64 b0, .int .u64 b1, .int .u64 b2, .int .u64 b3], .agg #[.int .u64 c0, .int .u64 c1, .int .u64 c2, .int .u64 c3]] e0 e1 e2 e3))
    (T4 : Hid (TM 15 #[.agg #[.int .u64 a0, .int .u64 a1, .int .u64 a2, .int .u64 a3], .agg #[.int .u64 e0, .int .u64 e1, .int .u64 e2, .int .u64 e3]] g0 g1 g2 g3))
    (P1 : Hid (TN 13 #[.agg #[.int .u64 d0, .int .u64 d1, .int .u64 d2, .int .u64 d3], .agg #[.int .u64 h, .int .u64 l]] x0 x1))
    (P2 : Hid (TN 13 #[.agg #[.int .u64 a0, .int .u64 a1, .int .u64 a2, .int .u64 a3], .agg #[.int .u64 h, .int .u64 l]] y0 y1))
    (P3 : Hid (TN 13 #[.agg #[.int .u64 b0, .int .u64 b1, .int .u64 b2, .int .u64 b3], .agg #[.int .u64 y0, .int .u64 y1]] x0 x1))
    (O : Hid (TM 18 #[] 0 1 0 0))
    (T5 : Hid (TM 15 #[.agg #[.int .u64 a0, .int .u64 a1, .int .u64 a2, .int .u64 a3], .agg #[.int .u64 0, .int .u64 1, .int .u64 0, .int .u64 0]] a0 a1 a2 a3))
    (T6 : Hid (TM 15 #[.agg #[.int .u64 0, .int .u64 1, .int .u64 0, .int .u64 0], .agg #[.int .u64 a0, .int .u64 a1, .int .u64 a2, .int .u64 a3]] a0 a1 a2 a3)) :
    Calls Try.prog 4 #[.agg #[.int .u64 a0, .int .u64 a1, .int .u64 a2, .int .u64 a3], .agg #[.int .u64 b0, .int .u64 b1, .int .u64 b2, .int .u64 b3], .agg #[.int .u64 c0, .int .u64 c1, .int .u64 c2, .int .u64 c3], .agg #[.int .u64 h, .int .u64 l]] w (Bl true w) := by
  have hB : Below w.heap.size w w := Below.refl _ _
  go_enter Try.func4, Try.ntmps4
  go_wp2_with fail
  have UA := F4.new w a0 a1 a2 a3 26
  have s1 : (w.alloc (.cells #[.int .u64 a0, .int .u64 a1, .int .u64 a2, .int .u64 a3] 26)).heap.size = w.heap.size + 1 := Array.size_push _
  replace hB := below_alloc hB (.cells #[.int .u64 a0, .int .u64 a1, .int .u64 a2, .int .u64 a3] 26)
  generalize w.alloc _ = V1 at UA hB s1 ⊢
  have UB := F4.new V1 b0 b1 b2 b3 26
  have s2 : (V1.alloc (.cells #[.int .u64 b0, .int .u64 b1, .int .u64 b2, .int .u64 b3] 26)).heap.size = w.heap.size + 1 + 1 := (Array.size_push _).trans (by rw [s1])
  rw [s1] at UB
  have LB := below_allocs V1 (.cells #[.int .u64 b0, .int .u64 b1, .int .u64 b2, .int .u64 b3] 26)
  replace UA := UA.below LB
  replace hB := below_then hB LB
  clear LB
  generalize V1.alloc _ = V2 at UA UB hB s2 ⊢
  have UC := F4.new V2 c0 c1 c2 c3 26
  have s3 : (V2.alloc (.cells #[.int .u64 c0, .int .u64 c1, .int .u64 c2, .int .u64 c3] 26)).heap.size = w.heap.size + 1 + 1 + 1 := (Array.size_push _).trans (by rw [s2])
  rw [s2] at UC
  have LB := below_allocs V2 (.cells #[.int .u64 c0, .int .u64 c1, .int .u64 c2, .int .u64 c3] 26)
  replace UA := UA.below LB
  replace UB := UB.below LB
  replace hB := below_then hB LB
  clear LB
  generalize V2.alloc _ = V3 at UA UB UC hB s3 ⊢
  have UX := CU.new V3 h l 24
  rw [s3] at UX
  have LB := below_allocs V3 (.cells #[.int .u64 h, .int .u64 l] 24)
  replace UA := UA.below LB
  replace UB := UB.below LB
  replace UC := UC.below LB
  replace hB := below_then hB LB
  clear LB s1 s2 s3
  generalize V3.alloc _ = V4 at UA UB UC UX hB ⊢
  generalize w.heap.size + 1 + 1 + 1 = cx at UX ⊢
  generalize w.heap.size + 1 + 1 = cc at UC ⊢
  generalize w.heap.size + 1 = cb at UB ⊢
  refine (aw.out _).mono ?_
  rintro e W0 ⟨rfl, hb⟩
  replace UA := UA.below hb
  replace UB := UB.below hb
  replace UC := UC.below hb
  replace UX := UX.below hb
  replace hB := below_then hB hb
  clear hb aw
  have HK := Lib.hid (And.intro UA (And.intro UB (And.intro UC UX)))
  clear UA UB UC UX
  go_wp2_with fail
  refine wp_region_class (fun w' => Below W0.heap.size W0 w') (by kernel_rfl) (by kernel_rfl) (Below.refl _ _).drew ?_
  iterate 39
    (refine WQ.yes ?_ (by rfl) (fun w' hC => ?_) ?_
     rotate_left
     · (obtain ⟨k1, k2, k3, k4⟩ := HK.out.1.below hC
        obtain ⟨m1, m2, m3, m4⟩ := HK.out.2.1.below hC
        obtain ⟨n1, n2, n3, n4⟩ := HK.out.2.2.1.below hC
        obtain ⟨u1, u2⟩ := (HK.out.2.2.2.below hC).c
        go_simp
        first
          | done
          | with_reducible rfl
          | exact ⟨rfl, rfl⟩
          | (go_at_call 18; (exact quietA4 (O.out _) hC))
          | (go_at_call 13; first | (with_reducible exact quietA (P1.out _) hC) | (with_reducible exact quietA (P2.out _) hC) | (with_reducible exact quietA (P3.out _) hC))
          | (go_at_call 15; first | (with_reducible exact quietA4 (T1.out _) hC) | (with_reducible exact quietA4 (T2.out _) hC) | (with_reducible exact quietA4 (T3.out _) hC) | (with_reducible exact quietA4 (T4.out _) hC) | (with_reducible exact quietA4 (T5.out _) hC) | (with_reducible exact quietA4 (T6.out _) hC)))
     (try simp only [Act.put, List.setIfInBounds_toArray, List.set_cons_zero, List.set_cons_succ]))
  refine WQ.nil ?_
  intro wz hX
  go_wp2
  go_ret
  exact ⟨rfl, below_then hB hX⟩
theorem affineThen (X : AX) (aw : Hid (∀ W, Calls Try.prog 7 #[] W (Bl true W))) (a b c : Mp) {h l : Int} {x : Nat} (ha : a.Ok) (hb : b.Ok) (hc : c.Ok) (i : Wn h l x) (w : World) :
    Calls Try.prog 4 #[a.val, b.val, c.val, .agg #[.int .u64 h, .int .u64 l]] w (Bl true w) := by
  have T1 := fun W => X.thn a b W ha hb
  have T2 := fun W => X.thn (thenM a b) c W (thenM_ok a b) hc
  have T3 := fun W => X.thn b c W hb hc
  have T4 := fun W => X.thn a (thenM b c) W ha (thenM_ok b c)
  have T5 := fun W => X.thn a Mp.one W ha Mp.Ok.one
  have T6 := fun W => X.thn Mp.one a W Mp.Ok.one ha
  have P1 := fun W => X.at_ (thenM a b) h l x W (thenM_ok a b) i
  have P2 := fun W => X.at_ a h l x W ha i
  have P3 := fun W => X.at_ b _ _ (atM a x) W hb (wn_of (atM_lt a x))
  rw [then_assoc] at T2
  rw [then_one ha] at T5
  rw [one_then ha] at T6
  rw [at_then] at P1
  exact thenMain aw _ _ _ _ _ _ _ _ _ _ _ _ h l _ _ _ _ _ _ _ _ _ _ _ _ _ _ _ _ w (Lib.hid T1) (Lib.hid T2) (Lib.hid T3) (Lib.hid T4) (Lib.hid P1) (Lib.hid P2) (Lib.hid P3) (Lib.hid X.one) (Lib.hid T5) (Lib.hid T6)
end Go.Proofs.Ytfnfjfmkhnofkaa
