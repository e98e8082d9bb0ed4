/-
  At of package affine: a product and a sum.
-/
import Derived.Test.YtfnfjfmkhnofkaaAffRj
import Derived.Test.YtfnfjfmkhnofkaaAffA
import Derived.Deep.LoopGhost
import Derived.Deep.RegionWith
import Derived.ScopeJumps
import Derived.WalkMore
import Derived.Test.YtfnfjfmkhnofkaaAffJ
namespace Go.Proofs.Ytfnfjfmkhnofkaa
open Go.RowKit G
set_option linter.unusedVariables false
set_option maxRecDepth 100000

/-- A block of two words in memory: a number. -/
def U2 (w : World) (b : Nat) (p q : Int) : Prop := w.heap[b]? = some (.cells #[.int .u64 p, .int .u64 q] 24 (0, 0))
section
variable {w w' : World} {b x : Nat} {p q p' q' : Int}
theorem U2.lt (h : U2 w b p q) : b < w.heap.size := (Array.getElem?_eq_some_iff.1 h).1
theorem U2.below (h : U2 w b p q) (hb : Below w.heap.size w w') : U2 w' b p q := (hb.block b h.lt).trans h
theorem U2.new (w : World) (p q : Int) : U2 (w.alloc (.cells #[.int .u64 p, .int .u64 q] 24)) w.heap.size p q := show (w.heap.push _)[w.heap.size]? = some _ by simp
theorem U2.cells (h : U2 w b p q) : w.cell? ⟨b, 0, none⟩ = some (.int .u64 p) ∧ w.cell? ⟨b, 1, none⟩ = some (.int .u64 q) := by
  unfold U2 at h
  refine ⟨?_, ?_⟩ <;> simp [World.cell?, h]
theorem U2.free (h : U2 w b p q) : w.frozen? ⟨b, 0, none⟩ = false ∧ w.frozen? ⟨b, 1, none⟩ = false := by
  unfold U2 at h
  refine ⟨?_, ?_⟩ <;> simp [World.frozen?, h]
theorem U2.far (h : U2 w b p q) {a : Addr} (hne : b ≠ a.block) (u : Value) : U2 (w.setCell a u) b p q := (Below.heap_setCell w a u b hne).trans h
theorem U2.far2 (h : U2 w b p q) (hne : b ≠ x) (u v : Value) : U2 ((w.setCell ⟨x, 0, none⟩ u).setCell ⟨x, 1, none⟩ v) b p q := (h.far hne _).far hne _
theorem U2.at (h : U2 w b p q) (i : Nat) (v : Value) : (w.setCell ⟨b, i, none⟩ v).heap[b]? = some (.cells ((#[.int .u64 p, .int .u64 q] : Array Value).setIfInBounds i v) 24 (0, 0)) := by
  unfold U2 at h
  simp [World.setCell, Array.getElem?_modify, h]
theorem U2.set0 (h : U2 w b p q) (x : Int) : U2 (w.setCell ⟨b, 0, none⟩ (.int .u64 x)) b x q := (h.at 0 _).trans rfl
theorem U2.set1 (h : U2 w b p q) (x : Int) : U2 (w.setCell ⟨b, 1, none⟩ (.int .u64 x)) b p x := (h.at 1 _).trans rfl
theorem U2.put (h : U2 w x p q) : U2 ((w.setCell ⟨x, 0, none⟩ (.int .u64 p')).setCell ⟨x, 1, none⟩ (.int .u64 q')) x p' q' := (h.set0 p').set1 q'
theorem below_putU2 {B : Nat} {a : World} (h : Below B a w) (hb : B ≤ x) (u v : Value) : Below B a ((w.setCell ⟨x, 0, none⟩ u).setCell ⟨x, 1, none⟩ v) := (h.setCell hb _).setCell hb _
end
theorem u2_early {w v : World} (hb : Below (w.alloc (.cells #[.int .u64 0, .int .u64 0] 24)).heap.size (w.alloc (.cells #[.int .u64 0, .int .u64 0] 24)) v) : U2 v w.heap.size 0 0 := U2.below (U2.new w 0 0) hb
/-- Behind a region that lays one number. -/
def CutU (W0 : World) (h l : Int) (p : Value) (wr : World) : Prop := ∃ b, p = .pointer (some ⟨b, 0, none⟩) ∧ U2 wr b h l ∧ Below W0.heap.size W0 wr
theorem CutU.of {W0 x : World} {h l : Int} (hb : Below W0.heap.size W0 x) : CutU W0 h l (.pointer (some ⟨x.heap.size, 0, none⟩)) (x.alloc (.cells #[.int .u64 h, .int .u64 l] 24)) := ⟨_, rfl, U2.new x h l, below_alloc hb _⟩
theorem CutU.early {W0 x : World} {b : Nat} {h l : Int} (hb : Below W0.heap.size W0 x) (le : W0.heap.size ≤ b) (z : U2 x b 0 0) : CutU W0 h l (.pointer (some ⟨b, 0, none⟩)) ((x.setCell ⟨b, 0, none⟩ (.int .u64 h)).setCell ⟨b, 1, none⟩ (.int .u64 l)) := ⟨_, rfl, U2.put z, below_putU2 hb le _ _⟩
set_option maxHeartbeats 4000000 in
theorem xatMain (a0 a1 c0 c1 h l p0 p1 s0 s1 : Int) (o : Bool)
    (M : Hid (TN 23 #[.agg #[.int .u64 a0, .int .u64 a1], .agg #[.int .u64 h, .int .u64 l]] p0 p1))
    (D : Hid (TNB 19 #[.agg #[.int .u64 p0, .int .u64 p1], .agg #[.int .u64 c0, .int .u64 c1]] s0 s1 o)) :
    TN 13 #[.agg #[.int .u64 a0, .int .u64 a1, .int .u64 c0, .int .u64 c1], .agg #[.int .u64 h, .int .u64 l]] s0 s1 := fun w => by
  have U := B4.new w a0 a1 c0 c1
  have z1 : (w.alloc (.cells #[.int .u64 a0, .int .u64 a1, .int .u64 c0, .int .u64 c1] 26)).heap.size = w.heap.size + 1 := Array.size_push _
  have L := below_alloc (Below.refl w.heap.size w) (.cells #[.int .u64 a0, .int .u64 a1, .int .u64 c0, .int .u64 c1] 26)
  have H1 := Lib.hid (And.intro U (And.intro z1 L))
  clear U z1 L
  go_enter Try.func13, Try.ntmps13
  go_upto_region 1 with fail
  generalize w.alloc _ = V1 at H1 ⊢
  have UX := U2.new V1 h l
  have z2 : (V1.alloc (.cells #[.int .u64 h, .int .u64 l] 24)).heap.size = w.heap.size + 1 + 1 := (Array.size_push _).trans (by rw [H1.out.2.1])
  rw [H1.out.2.1] at UX
  have LB := below_allocs V1 (.cells #[.int .u64 h, .int .u64 l] 24)
  have H2 := Lib.hid (And.intro (H1.out.1.below LB) (And.intro UX (And.intro z2 (below_then H1.out.2.2 LB))))
  clear UX z2 LB H1
  generalize V1.alloc _ = V2 at H2 ⊢
  have UZ := U2.new V2 0 0
  rw [H2.out.2.2.1] at UZ
  have LB := below_allocs V2 (.cells #[.int .u64 0, .int .u64 0] 24)
  have HK := Lib.hid (And.intro (H2.out.1.below LB) (And.intro (H2.out.2.1.below LB) (And.intro UZ (below_then H2.out.2.2.2 LB))))
  clear UZ LB H2
  generalize V2.alloc _ = V4 at HK ⊢
  have hc : w.heap.size ≤ w.heap.size + 1 := Nat.le_succ _
  generalize w.heap.size + 1 = cx at HK hc ⊢
  go_cut [5] (CutU V4 s0 s1)
  case first =>
    have hX : Below V4.heap.size V4 V4 := Below.refl _ _
    obtain ⟨f1, f2, f3, f4⟩ := HK.out.1.cells
    obtain ⟨f5, f6⟩ := HK.out.2.1.cells
    have l1 : w.heap.size < V4.heap.size := HK.out.1.lt
    have l2 : cx < V4.heap.size := HK.out.2.1.lt
    go_region_held3 (fun w' => w'.cell? ⟨w.heap.size, 0, none⟩ = some (.int .u64 a0) ∧ w'.cell? ⟨w.heap.size, 1, none⟩ = some (.int .u64 a1) ∧ w'.cell? ⟨w.heap.size, 2, none⟩ = some (.int .u64 c0) ∧ w'.cell? ⟨w.heap.size, 3, none⟩ = some (.int .u64 c1) ∧ w'.cell? ⟨cx, 0, none⟩ = some (.int .u64 h) ∧ w'.cell? ⟨cx, 1, none⟩ = some (.int .u64 l)) (go_keep) (first
      | (go_at_call 23; (with_reducible refine (M.out _).mono ?_); rintro e x1 ⟨rfl, hb⟩; (first | (have za : U2 x1 V4.heap.size 0 0 := u2_early (w := World.drew V4) hb; obtain ⟨za0, za1⟩ := U2.cells za; obtain ⟨za2, za3⟩ := U2.free za; have za4 := U2.lt za) | skip); replace hX := below_then (show Below V4.heap.size V4 _ by first | exact hX | exact hX.drew | exact hX.alloc hX.size _ | exact hX.drew.alloc hX.drew.size _) hb; clear hb; have sx1 : V4.heap.size ≤ x1.heap.size := hX.size; have d1 : w.heap.size ≠ V4.heap.size := Nat.ne_of_lt l1; have d2 : V4.heap.size ≠ w.heap.size := Nat.ne_of_gt l1; have d3 : cx ≠ V4.heap.size := Nat.ne_of_lt l2; have d4 : V4.heap.size ≠ cx := Nat.ne_of_gt l2; clear f1 f2 f3 f4 f5 f6 l1 l2; obtain ⟨f1, f2, f3, f4⟩ := (HK.out.1.below hX).cells; obtain ⟨f5, f6⟩ := (HK.out.2.1.below hX).cells; have l1 : w.heap.size < x1.heap.size := (HK.out.1.below hX).lt; have l2 : cx < x1.heap.size := (HK.out.2.1.below hX).lt)
      | (go_at_call 19; (with_reducible refine (D.out _).mono ?_); rintro e x2 ⟨rfl, hb⟩; (first | (have zc : U2 x2 x1.heap.size 0 0 := u2_early (w := x1) hb; obtain ⟨zc0, zc1⟩ := U2.cells zc; obtain ⟨zc2, zc3⟩ := U2.free zc; have zc4 := U2.lt zc) | skip); (first | (replace za := U2.below za (below_then (by first | exact Below.refl _ _ | exact below_allocs _ _) hb); obtain ⟨ya0, ya1⟩ := U2.cells za; obtain ⟨ya2, ya3⟩ := U2.free za; have ya4 := U2.lt za) | skip); replace hX := below_then (show Below V4.heap.size V4 _ by first | exact hX | exact hX.drew | exact hX.alloc hX.size _ | exact hX.drew.alloc hX.drew.size _) hb; clear hb; have d5 : w.heap.size ≠ x1.heap.size := Nat.ne_of_lt l1; have d6 : x1.heap.size ≠ w.heap.size := Nat.ne_of_gt l1; have d7 : cx ≠ x1.heap.size := Nat.ne_of_lt l2; have d8 : x1.heap.size ≠ cx := Nat.ne_of_gt l2; clear f1 f2 f3 f4 f5 f6 l1 l2; obtain ⟨f1, f2, f3, f4⟩ := (HK.out.1.below hX).cells; obtain ⟨f5, f6⟩ := (HK.out.2.1.below hX).cells; have l1 : w.heap.size < x2.heap.size := (HK.out.1.below hX).lt; have l2 : cx < x2.heap.size := (HK.out.2.1.below hX).lt; have d9 : w.heap.size ≠ x2.heap.size := Nat.ne_of_lt l1; have d10 : cx ≠ x2.heap.size := Nat.ne_of_lt l2))
    all_goals
      go_wp2_with fail
      go_meet
      first
        | with_reducible exact CutU.of hX
        | with_reducible exact CutU.early hX (Nat.le_refl _) za
        | with_reducible exact CutU.early hX sx1 zc
  obtain ⟨b, rfl, N, hX⟩ := hcut
  have hU := HK.out.2.2.1.below hX
  have HR := Lib.hid (U2.put (p' := s0) (q' := s1) hU)
  have HB : Hid (Below w.heap.size w ((wc.setCell ⟨cx + 1, 0, none⟩ (.int .u64 s0)).setCell ⟨cx + 1, 1, none⟩ (.int .u64 s1))) := Lib.hid (below_putU2 (below_then HK.out.2.2.2 hX) (Nat.le_trans hc (Nat.le_succ _)) _ _)
  obtain ⟨n1, n2⟩ := N.cells
  obtain ⟨z1, z2⟩ := hU.cells
  obtain ⟨f1, f2⟩ := hU.free
  clear HK M D hU N hX
  go_wp2_with fail
  generalize World.setCell (World.setCell wc _ _) _ _ = V5 at HR HB ⊢
  obtain ⟨r1, r2⟩ := HR.out.cells
  try simp only [Exit.inBlock, Exit.then, Exit.noGoto]
  refine bodyPost_ret (by simp [results, Try.results13, go_sem, r1, r2]; try rfl) rfl ?_
  exact ⟨rfl, HB.out⟩
theorem xAtM (m : Mp) (h l : Int) (x : Nat) (W : World) (hm : m.Ok) (i : Wn h l x) : Calls Try.prog 13 #[m.val, .agg #[.int .u64 h, .int .u64 l]] W (AnsW (atM m x) W) := by
  have D := fun W => cAdd128 (wn_of (N := m.A * x % Q) (Nat.mod_lt _ (by decide))) (wn_of hm.c) W
  rw [Nat.mod_add_mod] at D
  exact xatMain _ _ _ _ _ _ _ _ _ _ _ (Lib.hid fun W => cMul128 (wn_of hm.a) i W) (Lib.hid D) W
end Go.Proofs.Ytfnfjfmkhnofkaa
/-
  Then and One of package affine .
-/
namespace Go.Proofs.Ytfnfjfmkhnofkaa
open Go.RowKit G
set_option linter.unusedVariables false
set_option maxRecDepth 100000

set_option maxHeartbeats 8000000 in
theorem xthenMain (a0 a1 a2 a3 b0 b1 b2 b3 d0 d1 e0 e1 : Int)
    (M : Hid (TN 23 #[.agg #[.int .u64 b0, .int .u64 b1], .agg #[.int .u64 a0, .int .u64 a1]] d0 d1))
    (A : Hid (TN 13 #[.agg #[.int .u64 b0, .int .u64 b1, .int .u64 b2, .int .u64 b3], .agg #[.int .u64 a2, .int .u64 a3]] e0 e1)) :
    TM 15 #[.agg #[.int .u64 a0, .int .u64 a1, .int .u64 a2, .int .u64 a3], .agg #[.int .u64 b0, .int .u64 b1, .int .u64 b2, .int .u64 b3]] d0 d1 e0 e1 := fun w => by
  have U := B4.new w a0 a1 a2 a3
  have z1 : (w.alloc (.cells #[.int .u64 a0, .int .u64 a1, .int .u64 a2, .int .u64 a3] 26)).heap.size = w.heap.size + 1 := Array.size_push _
  have L := below_alloc (Below.refl w.heap.size w) (.cells #[.int .u64 a0, .int .u64 a1, .int .u64 a2, .int .u64 a3] 26)
  have H1 := Lib.hid (And.intro U (And.intro z1 L))
  clear U z1 L
  go_enter Try.func15, Try.ntmps15
  go_upto_region 1 with fail
  generalize w.alloc _ = V1 at H1 ⊢
  have UX := B4.new V1 b0 b1 b2 b3
  have z2 : (V1.alloc (.cells #[.int .u64 b0, .int .u64 b1, .int .u64 b2, .int .u64 b3] 26)).heap.size = w.heap.size + 1 + 1 := (Array.size_push _).trans (by rw [H1.out.2.1])
  rw [H1.out.2.1] at UX
  have LB := below_allocs V1 (.cells #[.int .u64 b0, .int .u64 b1, .int .u64 b2, .int .u64 b3] 26)
  have H2 := Lib.hid (And.intro (H1.out.1.below LB) (And.intro UX (And.intro z2 (below_then H1.out.2.2 LB))))
  clear UX z2 LB H1
  generalize V1.alloc _ = V2 at H2 ⊢
  have UZ := B4.new V2 0 0 0 0
  rw [H2.out.2.2.1] at UZ
  have LB := below_allocs V2 (.cells #[.int .u64 0, .int .u64 0, .int .u64 0, .int .u64 0] 26)
  have HK := Lib.hid (And.intro (H2.out.1.below LB) (And.intro (H2.out.2.1.below LB) UZ))
  have HW := Lib.hid (below_then H2.out.2.2.2 LB)
  clear UZ LB H2
  generalize V2.alloc _ = V4 at HK HW ⊢
  have hc : w.heap.size ≤ w.heap.size + 1 + 1 := Nat.le_trans (Nat.le_succ _) (Nat.le_succ _)
  have n1 : w.heap.size ≠ w.heap.size + 1 + 1 := by omega
  have n2 : w.heap.size + 1 ≠ w.heap.size + 1 + 1 := by omega
  generalize w.heap.size + 1 + 1 = cz at HK hc n1 n2 ⊢
  generalize w.heap.size + 1 = cn at HK n2 ⊢
  obtain ⟨cm, hcm⟩ : ∃ cm, cm = w.heap.size := ⟨_, rfl⟩
  rw [← hcm] at HK n1 ⊢
  have hX : Below V4.heap.size V4 V4 := Below.refl _ _
  obtain ⟨f1, f2, f3, f4⟩ := (HK.out.1.below hX).cells
  obtain ⟨f5, f6, f7, f8⟩ := (HK.out.2.1.below hX).cells
  obtain ⟨g1, g2, g3, g4⟩ := (HK.out.2.2.below hX).cells
  obtain ⟨g5, g6, g7, g8⟩ := (HK.out.2.2.below hX).free
  have l1 : cm < V4.heap.size := (HK.out.1.below hX).lt
  have l2 : cn < V4.heap.size := (HK.out.2.1.below hX).lt
  have l3 : cz < V4.heap.size := (HK.out.2.2.below hX).lt
  have n3 := n1.symm
  have n4 := n2.symm
  go_cut [] (fun wr => B4 wr cz d0 d1 e0 e1 ∧ Below w.heap.size w wr)
  case first =>
    clear hcm
    go_region_held3 (fun w' => w'.cell? ⟨cm, 0, none⟩ = some (.int .u64 a0) ∧ w'.cell? ⟨cm, 1, none⟩ = some (.int .u64 a1) ∧ w'.cell? ⟨cm, 2, none⟩ = some (.int .u64 a2) ∧ w'.cell? ⟨cm, 3, none⟩ = some (.int .u64 a3) ∧ w'.cell? ⟨cn, 0, none⟩ = some (.int .u64 b0) ∧ w'.cell? ⟨cn, 1, none⟩ = some (.int .u64 b1) ∧ w'.cell? ⟨cn, 2, none⟩ = some (.int .u64 b2) ∧ w'.cell? ⟨cn, 3, none⟩ = some (.int .u64 b3)) (go_keep) (first
      | (go_at_call 23; (with_reducible refine (M.out _).mono ?_); rintro e x1 ⟨rfl, hb⟩; replace hX := below_then (show Below V4.heap.size V4 _ by first | exact hX | exact hX.drew) hb; clear hb; clear f1 f2 f3 f4 f5 f6 f7 f8 g1 g2 g3 g4 g5 g6 g7 g8 l1 l2 l3; obtain ⟨f1, f2, f3, f4⟩ := (HK.out.1.below hX).cells; obtain ⟨f5, f6, f7, f8⟩ := (HK.out.2.1.below hX).cells; obtain ⟨g1, g2, g3, g4⟩ := (HK.out.2.2.below hX).cells; obtain ⟨g5, g6, g7, g8⟩ := (HK.out.2.2.below hX).free; have l1 : cm < x1.heap.size := (HK.out.1.below hX).lt; have l2 : cn < x1.heap.size := (HK.out.2.1.below hX).lt; have l3 : cz < x1.heap.size := (HK.out.2.2.below hX).lt)
      | (go_at_call 13; (with_reducible refine (A.out _).mono ?_); rintro e x2 ⟨rfl, hb⟩; replace hX := below_then (show Below V4.heap.size V4 _ by first | exact hX | exact hX.drew) hb; clear hb; clear f1 f2 f3 f4 f5 f6 f7 f8 g1 g2 g3 g4 g5 g6 g7 g8 l1 l2 l3; obtain ⟨f1, f2, f3, f4⟩ := (HK.out.1.below hX).cells; obtain ⟨f5, f6, f7, f8⟩ := (HK.out.2.1.below hX).cells; obtain ⟨g1, g2, g3, g4⟩ := (HK.out.2.2.below hX).cells; obtain ⟨g5, g6, g7, g8⟩ := (HK.out.2.2.below hX).free; have l1 : cm < x2.heap.size := (HK.out.1.below hX).lt; have l2 : cn < x2.heap.size := (HK.out.2.1.below hX).lt; have l3 : cz < x2.heap.size := (HK.out.2.2.below hX).lt))
    all_goals
      go_wp2_with fail
      go_meet
      exact ⟨B4.put (HK.out.2.2.below hX), below_put4 (below_then HW.out hX) hc⟩
  obtain ⟨HR, HB⟩ := hcut
  obtain ⟨r1, r2, r3, r4⟩ := HR.cells
  clear f1 f2 f3 f4 f5 f6 f7 f8 g1 g2 g3 g4 g5 g6 g7 g8 l1 l2 l3
  go_wp2_with fail
  try simp only [Exit.inBlock, Exit.then, Exit.noGoto]
  refine bodyPost_ret (by simp [results, Try.results15, go_sem, r1, r2, r3, r4]; try rfl) rfl ?_
  exact ⟨rfl, HB⟩
theorem xThenM (m n : Mp) (W : World) (hm : m.Ok) (hn : n.Ok) : Calls Try.prog 15 #[m.val, n.val] W (AnsM (thenM m n) W) := by
  have M := fun V => cMul128 (wn_of hn.a) (wn_of hm.a) V
  rw [Nat.mul_comm] at M
  exact xthenMain _ _ _ _ _ _ _ _ _ _ _ _ (Lib.hid M) (Lib.hid fun V => xAtM n _ _ m.C V hn (wn_of hm.c)) W
set_option maxHeartbeats 2000000 in
theorem xOne (w : World) : Calls Try.prog 18 #[] w (AnsM Mp.one w) := by
  have C : Hid (TN 21 #[.int .u64 1] 0 1) := Lib.hid fun W => cOf 1 1 rfl (by decide) W
  have Z := Lib.hid (ZB.new w)
  go_enter Try.func18, Try.ntmps18
  go_wp2_with fail
  refine (C.out _).mono ?_
  rintro e V ⟨rfl, hb⟩
  have Z2 : ZB V w.heap.size := B4.below Z.out hb
  have hB : Below w.heap.size w V := below_then (below_allocs _ _) hb
  have HR := Lib.hid (B4.put (p' := 0) (q' := 1) (r' := 0) (s' := 0) Z2)
  have HB : Hid (Below w.heap.size w ((((V.setCell ⟨w.heap.size, 0, none⟩ (.int .u64 0)).setCell ⟨w.heap.size, 1, none⟩ (.int .u64 1)).setCell ⟨w.heap.size, 2, none⟩ (.int .u64 0)).setCell ⟨w.heap.size, 3, none⟩ (.int .u64 0))) := Lib.hid (below_put4 hB (Nat.le_refl _))
  obtain ⟨x1, x2, x3, x4⟩ := B4.cells Z2
  obtain ⟨f1, f2, f3, f4⟩ := B4.free Z2
  clear Z Z2 hB hb C
  go_wp2_with fail
  generalize World.setCell (World.setCell (World.setCell (World.setCell V _ _) _ _) _ _) _ _ = V9 at HR HB ⊢
  obtain ⟨r1, r2, r3, r4⟩ := HR.out.cells
  try simp only [Exit.inBlock, Exit.then, Exit.noGoto]
  refine bodyPost_ret (by simp [results, Try.results18, go_sem, r1, r2, r3, r4]; try rfl) rfl ?_
  exact ⟨rfl, HB.out⟩
end Go.Proofs.Ytfnfjfmkhnofkaa
/-
  For what package affine calls: differences and halves of numbers, numbers and maps that are compared; the rounds that make what makes an odd number 1; powers from the lowest bit on.
-/
namespace Go.Proofs.Ytfnfjfmkhnofkaa
open Go.RowKit G
set_option linter.unusedVariables false
set_option maxRecDepth 100000

theorem cSub128 {a b c d : Int} {M N : Nat} (i : Wn a b M) (j : Wn c d N) (w : World) :
    Calls Try.prog 24 #[.agg #[.int .u64 a, .int .u64 b], .agg #[.int .u64 c, .int .u64 d]] w (AnsWB ((M + (Q - N)) % Q) (decide (M < N)) w) := by
  have h := Wd.wSub a b c d i.h0 i.h1 i.l0 i.l1 j.h0 j.h1 j.l0 j.l1 w
  rw [i.eq, j.eq] at h
  have lM := i.lt
  have lN := j.lt
  refine h.mono ?_
  rintro e w' ⟨x, y, z, ⟨k, hz⟩, rfl, hb⟩
  obtain ⟨rfl, rfl⟩ := (wn_is (N := (M + (340282366920938463463374607431768211456 - N)) % 340282366920938463463374607431768211456) k (by omega)).of
  refine ⟨?_, hb⟩
  rw [hz]
  have : decide ((M : Int) < (N : Int)) = decide (M < N) := decide_eq_decide.2 (by omega)
  rw [this]
theorem cRight1 {a b : Int} {M : Nat} (i : Wn a b M) (w : World) : Calls Try.prog 35 #[.agg #[.int .u64 a, .int .u64 b], .int .i64 1] w (AnsW (M / 2) w) := by
  have h := Wd.wRight a b 1 i.h0 i.h1 i.l0 i.l1 w
  rw [i.eq] at h
  refine h.mono ?_
  rintro e w' ⟨x, y, k, rfl, hb⟩
  exact ansW_of (wn_is k (by rw [show (2 : Int) ^ (1 : Int).toNat = 2 from rfl]; omega)) hb
/-- Numbers, and maps, that are compared. -/
theorem eqUv (a b c d : Int) (r : Bool) (hr : r = decide (a = c ∧ b = d)) (w : World) : Sem.run Try.prog (Op.equalIn 10000 24 (.agg #[.int .u64 a, .int .u64 b]) (.agg #[.int .u64 c, .int .u64 d])) w = .ok r w := by
  subst hr
  by_cases h1 : a = c <;> by_cases h2 : b = d
  · subst h1 h2
    have := eqU a b w
    simpa using this
  · subst h1
    have e : (b == d) = false := by simpa using h2
    simp only [h2, and_false, decide_false]
    go_simp
  · have e : (a == c) = false := by simpa using h1
    simp only [h1, false_and, decide_false]
    go_simp
  · have e : (a == c) = false := by simpa using h1
    simp only [h1, false_and, decide_false]
    go_simp
/-- The rounds of Odd: so many of the lowest bits are right. -/
structure OddIs (n r b : Nat) : Prop where
  lt : b < Q
  dv : (2 ^ r : Int) ∣ (n : Int) * (b : Int) - 1
def nextOdd (n b : Nat) : Nat := b * ((2 + (Q - n * b % Q)) % Q) % Q
theorem odd_start {n : Nat} (h : n % 2 = 1) (l : n < Q) : OddIs n 3 n := by
  refine ⟨l, ?_⟩
  obtain ⟨j, rfl⟩ : ∃ j, n = 2 * j + 1 := ⟨n / 2, by omega⟩
  rcases Nat.mod_two_eq_zero_or_one j with e | e
  · obtain ⟨i, rfl⟩ : ∃ i, j = 2 * i := ⟨j / 2, by omega⟩
    exact ⟨(2 * i * i + i : Nat), by push_cast; grind⟩
  · obtain ⟨i, rfl⟩ : ∃ i, j = 2 * i + 1 := ⟨j / 2, by omega⟩
    exact ⟨(2 * i * i + 3 * i + 1 : Nat), by push_cast; grind⟩
theorem odd_next {n r r' b : Nat} (h : OddIs n r b) (h1 : r' ≤ 2 * r) (h2 : r' ≤ 128) : OddIs n r' (nextOdd n b) := by
  refine ⟨Nat.mod_lt _ (by decide), ?_⟩
  have hx : n * b % Q < Q := Nat.mod_lt _ (by decide)
  obtain ⟨f, hf⟩ : ∃ f, (2 + (Q - n * b % Q)) % Q = f := ⟨_, rfl⟩
  have e1 := Nat.div_add_mod (n * b) Q
  have e2 := Nat.div_add_mod (2 + (Q - n * b % Q)) Q
  have e3 := Nat.div_add_mod (b * f) Q
  obtain ⟨c, hc⟩ : ∃ c, b * f % Q = c := ⟨_, rfl⟩
  unfold nextOdd
  rw [hf, hc]
  rw [hf] at e2
  rw [hc] at e3
  generalize b * f / Q = k3 at e3
  generalize (2 + (Q - n * b % Q)) / Q = k2 at e2
  generalize n * b / Q = k1 at e1
  generalize n * b % Q = x at e1 e2 hx
  have dq : (2 ^ r' : Int) ∣ (Q : Int) := by
    refine ⟨((2 ^ (128 - r') : Nat) : Int), ?_⟩
    rw [show (Q : Nat) = 2 ^ r' * 2 ^ (128 - r') by rw [← Nat.pow_add, show r' + (128 - r') = 128 by omega]]
    push_cast
    rfl
  have d2 : (2 ^ r' : Int) ∣ ((n : Int) * (b : Int) - 1) * ((n : Int) * (b : Int) - 1) := by
    have := Int.mul_dvd_mul h.dv h.dv
    rw [← Int.pow_add] at this
    exact Int.dvd_trans ⟨2 ^ (r + r - r'), by rw [← Int.pow_add, show r' + (r + r - r') = r + r by omega]⟩ this
  have i1 : (Q : Int) * (k1 : Int) + (x : Int) = (n : Int) * (b : Int) := by exact_mod_cast e1
  have i2 : (Q : Int) * (k2 : Int) + (f : Int) = 2 + ((Q : Int) - (x : Int)) := by omega
  have i3 : (Q : Int) * (k3 : Int) + (c : Int) = (b : Int) * (f : Int) := by exact_mod_cast e3
  clear e1 e2 e3 hf hc hx h
  generalize (Q : Int) = q at *
  have key : (n : Int) * (c : Int) - 1 = q * ((n : Int) * (b : Int) * (1 + k1 - k2) - (n : Int) * k3) - ((n : Int) * (b : Int) - 1) * ((n : Int) * (b : Int) - 1) := by
    have fe : (f : Int) = 2 + q * (1 + k1 - k2) - (n : Int) * (b : Int) := by grind
    have ce : (c : Int) = (b : Int) * (f : Int) - q * k3 := by grind
    rw [ce, fe]
    grind
  rw [key]
  exact Int.dvd_sub (Int.dvd_trans dq (Int.dvd_mul_right _ _)) d2
theorem odd_end {n b : Nat} (hn : n % 2 = 1) (h : OddIs n 128 b) : b = invQ n := by
  refine invQ_is hn h.lt ?_
  obtain ⟨k, e⟩ := h.dv
  have q : (2 : Int) ^ 128 = 340282366920938463463374607431768211456 := by decide
  rw [q] at e
  have : ((n * b : Nat) : Int) = 1 + 340282366920938463463374607431768211456 * k := by push_cast; omega
  show n * b % 340282366920938463463374607431768211456 = 1
  omega
/-- Powers, from the lowest bit on. -/
theorem pow_one_any (k : Nat) : powM Mp.one k = Mp.one := by
  have := pow_pow Mp.one 0 k
  rwa [pow_zero, Nat.zero_mul, pow_zero] at this
theorem pow_half {m : Mp} (h : m.Ok) (n : Nat) : powM m n = thenM (if n % 2 = 1 then m else Mp.one) (powM (thenM m m) (n / 2)) := by
  have e : thenM m m = powM m 2 := by
    have := pow_two m 1
    rwa [pow_one h] at this
  rw [e, pow_pow]
  by_cases o : n % 2 = 1
  · rw [if_pos o]
    have := pow_add m 1 (2 * (n / 2))
    rw [pow_one h] at this
    rw [this]
    congr 1
    omega
  · rw [if_neg o, one_then (powM_ok _ _)]
    congr 1
    omega
end Go.Proofs.Ytfnfjfmkhnofkaa
/-
  What Odd of package affine answers.
-/
namespace Go.Proofs.Ytfnfjfmkhnofkaa
open Go.RowKit G
set_option linter.unusedVariables false
set_option maxRecDepth 100000

set_option maxHeartbeats 4000000 in
theorem xOddN (h l : Int) (n : Nat) (w : World) (i : Wn h l n) (hn : n % 2 = 0) : Calls Try.prog 8 #[.agg #[.int .u64 h, .int .u64 l]] w (AnsWE 0 1 w) := by
  have B : Hid (∀ W, Calls Try.prog 22 #[.agg #[.int .u64 h, .int .u64 l], .int .i64 0] W (AnsI 0 W)) := Lib.hid fun W => cBit0 i 0 (by omega) W
  have U := U2.new w h l
  have z1 : (w.alloc (.cells #[.int .u64 h, .int .u64 l] 24)).heap.size = w.heap.size + 1 := Array.size_push _
  have L := below_allocs w (.cells #[.int .u64 h, .int .u64 l] 24)
  have H1 := Lib.hid (And.intro U (And.intro z1 L))
  clear U z1 L
  go_enter Try.func8, Try.ntmps8
  go_upto_region 1 with fail
  generalize w.alloc _ = V1 at H1 ⊢
  have UX := U2.new V1 0 0
  rw [H1.out.2.1] at UX
  have LB := below_allocs V1 (.cells #[.int .u64 0, .int .u64 0] 24)
  have H2 := Lib.hid (And.intro (H1.out.1.below LB) (And.intro UX (below_then H1.out.2.2 LB)))
  clear UX LB H1
  generalize V1.alloc _ = V2 at H2 ⊢
  have hc : w.heap.size ≤ w.heap.size + 1 := Nat.le_succ _
  generalize w.heap.size + 1 = cz at H2 hc ⊢
  obtain ⟨x1, x2⟩ := H2.out.1.cells
  go_wp2_with fail
  clear x1 x2
  refine (B.out _).mono ?_
  rintro e V3 ⟨rfl, hb⟩
  have Z := H2.out.2.1.below hb
  have HR := Lib.hid (U2.put (p' := 0) (q' := 0) Z)
  have HB : Hid (Below w.heap.size w ((V3.setCell ⟨cz, 0, none⟩ (.int .u64 0)).setCell ⟨cz, 1, none⟩ (.int .u64 0))) := Lib.hid (below_putU2 (below_then H2.out.2.2 hb) hc _ _)
  obtain ⟨x1, x2⟩ := Z.cells
  obtain ⟨f1, f2⟩ := Z.free
  clear H2 Z hb B
  go_wp2_with fail
  generalize World.setCell (World.setCell V3 _ _) _ _ = V9 at HR HB ⊢
  obtain ⟨r1, r2⟩ := HR.out.cells
  try simp only [Exit.inBlock, Exit.then, Exit.noGoto]
  refine bodyPost_ret (by simp [results, Try.results8, go_sem, r1, r2]; try rfl) rfl ?_
  exact ⟨rfl, HB.out⟩
/-- How many bits are right behind so many rounds. -/
def rgt (g : Nat) : Nat := 3 * 2 ^ (6 - g)
theorem rgt_facts : ∀ j, j < 6 → rgt (j + 1) < 128 ∧ 2 * rgt (j + 1) = rgt j := by decide
set_option maxHeartbeats 8000000 in
theorem xoddMain (h l : Int) (n : Nat) (w : World)
    (B : Hid (∀ W, Calls Try.prog 22 #[.agg #[.int .u64 h, .int .u64 l], .int .i64 0] W (AnsI 1 W)))
    (O : Hid (TN 21 #[.int .u64 2] 0 2))
    (S : Hid (∀ (r b : Nat) (p q : Int), Wn p q b → OddIs n r b → ∀ r', r' ≤ 2 * r → r' ≤ 128 → ∃ (o0 o1 s0 s1 q0 q1 : Int) (u : Bool) (b' : Nat), Wn q0 q1 b' ∧ OddIs n r' b' ∧ TN 23 #[.agg #[.int .u64 h, .int .u64 l], .agg #[.int .u64 p, .int .u64 q]] o0 o1 ∧ TNB 24 #[.agg #[.int .u64 0, .int .u64 2], .agg #[.int .u64 o0, .int .u64 o1]] s0 s1 u ∧ TN 23 #[.agg #[.int .u64 p, .int .u64 q], .agg #[.int .u64 s0, .int .u64 s1]] q0 q1))
    (I : Hid (Wn h l n ∧ OddIs n 3 n)) :
    Calls Try.prog 8 #[.agg #[.int .u64 h, .int .u64 l]] w (fun e w' => ∃ (p q : Int) (b : Nat), Wn p q b ∧ OddIs n 128 b ∧ e = .returned (.tuple #[.agg #[.int .u64 p, .int .u64 q], .int .i64 0]) ∧ Below w.heap.size w w') := by
  have U := U2.new w h l
  have z1 : (w.alloc (.cells #[.int .u64 h, .int .u64 l] 24)).heap.size = w.heap.size + 1 := Array.size_push _
  have L := below_allocs w (.cells #[.int .u64 h, .int .u64 l] 24)
  have H1 := Lib.hid (And.intro U (And.intro z1 L))
  clear U z1 L
  go_enter Try.func8, Try.ntmps8
  go_upto_region 1 with fail
  generalize w.alloc _ = V1 at H1 ⊢
  have UX := U2.new V1 0 0
  have z2 : (V1.alloc (.cells #[.int .u64 0, .int .u64 0] 24)).heap.size = w.heap.size + 1 + 1 := (Array.size_push _).trans (by rw [H1.out.2.1])
  rw [H1.out.2.1] at UX
  have LB := below_allocs V1 (.cells #[.int .u64 0, .int .u64 0] 24)
  have H2 := Lib.hid (And.intro (H1.out.1.below LB) (And.intro UX (below_then H1.out.2.2 LB)))
  clear UX LB H1 z2
  generalize V1.alloc _ = V2 at H2 ⊢
  have hc : w.heap.size ≤ w.heap.size + 1 := Nat.le_succ _
  have hz : w.heap.size + 1 ≠ w.heap.size := Nat.succ_ne_self _
  generalize w.heap.size + 1 = cz at H2 hc hz ⊢
  obtain ⟨x1, x2⟩ := H2.out.1.cells
  go_wp2_with fail
  clear x1 x2
  refine (B.out _).mono ?_
  rintro e V3 ⟨rfl, hb⟩
  have H3 := Lib.hid (And.intro (H2.out.1.below hb) (And.intro (H2.out.2.1.below hb) (below_then H2.out.2.2 hb)))
  clear H2 hb B
  obtain ⟨x1, x2⟩ := H3.out.1.cells
  go_upto_region 4 with fail
  clear x1 x2
  have UB := U2.new V3 h l
  have LB := below_allocs V3 (.cells #[.int .u64 h, .int .u64 l] 24)
  have H4 := Lib.hid (And.intro (H3.out.1.below LB) (And.intro (H3.out.2.1.below LB) (And.intro UB (below_then H3.out.2.2 LB))))
  have nn : w.heap.size ≠ V3.heap.size := Nat.ne_of_lt H3.out.1.lt
  have nz : cz ≠ V3.heap.size := Nat.ne_of_lt H3.out.2.1.lt
  have hb' : w.heap.size ≤ V3.heap.size := H3.out.2.2.size
  clear UB LB H3
  generalize V3.alloc _ = V4 at H4 ⊢
  generalize V3.heap.size = cb at H4 nn nz hb' ⊢
  go_wp2_with fail
  have F0 : Hid (U2 V4 w.heap.size h l ∧ U2 V4 cz 0 0 ∧ (∃ (p q : Int) (b : Nat), Wn p q b ∧ OddIs n (min (rgt 6) 128) b ∧ U2 V4 cb p q) ∧ Below w.heap.size w V4) := Lib.hid ⟨H4.out.1, H4.out.2.1, ⟨h, l, n, I.out.1, I.out.2, H4.out.2.2.1⟩, H4.out.2.2.2⟩
  have Hc := Lib.hid (And.intro hc (And.intro hb' (And.intro nn (And.intro nz hz))))
  clear H4 hc hb' nn nz hz I
  go_loopg [5] 6 (fun gh z wr => ∃ v : Int, z = .int .i64 v ∧ v = (rgt gh : Int) ∧ gh ≤ 6 ∧ Hid (U2 wr w.heap.size h l ∧ U2 wr cz 0 0 ∧ (∃ (p q : Int) (b : Nat), Wn p q b ∧ OddIs n (min (rgt gh) 128) b ∧ U2 wr cb p q) ∧ Below w.heap.size w wr))
  case atStart => exact ⟨_, rfl, rfl, Nat.le_refl _, F0⟩
  case round =>
    obtain ⟨v, rfl, hv, hle, F⟩ := hrel
    clear F0
    rcases gk with _ | j
    · obtain rfl : v = 192 := hv
      clear hle S O
      obtain ⟨FN, FZ, ⟨p, q, b, hw, ho, FB⟩, FL⟩ := F.out
      have HQ := Lib.hid (And.intro hw ho)
      have HR := Lib.hid (U2.put (p' := p) (q' := q) FZ)
      have HB : Hid (Below w.heap.size w ((wr.setCell ⟨cz, 0, none⟩ (.int .u64 p)).setCell ⟨cz, 1, none⟩ (.int .u64 q))) := Lib.hid (below_putU2 FL Hc.out.1 _ _)
      obtain ⟨x1, x2⟩ := FB.cells
      obtain ⟨y1, y2⟩ := FZ.cells
      obtain ⟨f1, f2⟩ := FZ.free
      clear F FN FZ FB FL hw ho
      go_wp2_with fail
      generalize World.setCell (World.setCell wr _ _) _ _ = V9 at HR HB ⊢
      obtain ⟨r1, r2⟩ := HR.out.cells
      try simp only [Exit.inBlock, Exit.then, Exit.noGoto]
      refine bodyPost_ret (by simp [results, Try.results8, go_sem, r1, r2]; try rfl) rfl ?_
      exact ⟨p, q, b, HQ.out.1, HQ.out.2, rfl, HB.out⟩
    · have hj : j < 6 := by omega
      obtain ⟨r1, r2⟩ := rgt_facts j hj
      have k1 : v < 128 := by omega
      have w1 : IntKind.i64.wrap (v * 2) = v * 2 := by rw [IntKind.wrap_i64]; omega
      have hv2 := Lib.hid (show v * 2 = (rgt j : Int) by omega)
      obtain ⟨FN, FZ, ⟨p, q, b, hw, ho, FB⟩, FL⟩ := F.out
      obtain ⟨o0, o1, s0, s1, q0, q1, u, b', hw', ho', M, D, M2⟩ := S.out _ b p q hw ho (min (rgt j) 128) (by omega) (by omega)
      have HJ := Lib.hid (And.intro hj (And.intro hw' ho'))
      have M := Lib.hid M
      have D := Lib.hid D
      have M2 := Lib.hid M2
      have HK := Lib.hid (And.intro FN (And.intro FZ FB))
      have HL := Lib.hid FL
      clear F FN FZ FB FL hw ho hw' ho' hv hj r1 r2 S
      go_upto_region 7 with fail
      obtain ⟨W5, h5⟩ : ∃ x : World, x = wr := ⟨_, rfl⟩
      subst h5
      go_cut [6] (CutU W5 s0 s1)
      case first =>
        have hX : Below W5.heap.size W5 W5 := Below.refl _ _
        obtain ⟨f1, f2⟩ := HK.out.1.cells
        obtain ⟨f3, f4⟩ := HK.out.2.2.cells
        have l0 : w.heap.size < W5.heap.size := HK.out.1.lt
        have l1 : cb < W5.heap.size := HK.out.2.2.lt
        go_region_held3 (fun w' => w'.cell? ⟨w.heap.size, 0, none⟩ = some (.int .u64 h) ∧ w'.cell? ⟨w.heap.size, 1, none⟩ = some (.int .u64 l) ∧ w'.cell? ⟨cb, 0, none⟩ = some (.int .u64 p) ∧ w'.cell? ⟨cb, 1, none⟩ = some (.int .u64 q)) (go_keep) (first
      | (go_at_call 21; (with_reducible refine (O.out _).mono ?_); rintro e xo ⟨rfl, hb⟩; (first | (have z_W5 : U2 xo W5.heap.size 0 0 := u2_early (w := World.drew W5) hb; obtain ⟨aoW50, aoW51⟩ := U2.cells z_W5; obtain ⟨aoW52, aoW53⟩ := U2.free z_W5; have aoW54 := U2.lt z_W5) | (have z_xm : U2 xo xm.heap.size 0 0 := u2_early (w := xm) hb; obtain ⟨aoxm0, aoxm1⟩ := U2.cells z_xm; obtain ⟨aoxm2, aoxm3⟩ := U2.free z_xm; have aoxm4 := U2.lt z_xm) | skip); (first | (replace z_W5 := U2.below z_W5 hb; obtain ⟨boW50, boW51⟩ := U2.cells z_W5; obtain ⟨boW52, boW53⟩ := U2.free z_W5; have boW54 := U2.lt z_W5) | skip); (first | (replace z_xm := U2.below z_xm hb; obtain ⟨boxm0, boxm1⟩ := U2.cells z_xm; obtain ⟨boxm2, boxm3⟩ := U2.free z_xm; have boxm4 := U2.lt z_xm) | skip); replace hX := below_then (show Below W5.heap.size W5 _ by first | exact hX | exact hX.drew | exact hX.alloc hX.size _ | exact hX.drew.alloc hX.drew.size _) hb; clear hb; have s_xo : W5.heap.size ≤ xo.heap.size := hX.size; have do0 := Nat.ne_of_lt l0; have do0s := Nat.ne_of_gt l0; clear l0; have do1 := Nat.ne_of_lt l1; have do1s := Nat.ne_of_gt l1; clear l1; clear f1 f2 f3 f4; obtain ⟨f1, f2⟩ := (HK.out.1.below hX).cells; obtain ⟨f3, f4⟩ := (HK.out.2.2.below hX).cells; have l0 := (HK.out.1.below hX).lt; have l1 := (HK.out.2.2.below hX).lt; have eo0 := Nat.ne_of_lt l0; have eo0s := Nat.ne_of_gt l0; have eo1 := Nat.ne_of_lt l1; have eo1s := Nat.ne_of_gt l1)
      | (go_at_call 23; (with_reducible refine (M.out _).mono ?_); rintro e xm ⟨rfl, hb⟩; (first | (have z_W5 : U2 xm W5.heap.size 0 0 := u2_early (w := World.drew W5) hb; obtain ⟨amW50, amW51⟩ := U2.cells z_W5; obtain ⟨amW52, amW53⟩ := U2.free z_W5; have amW54 := U2.lt z_W5) | (have z_xo : U2 xm xo.heap.size 0 0 := u2_early (w := xo) hb; obtain ⟨amxo0, amxo1⟩ := U2.cells z_xo; obtain ⟨amxo2, amxo3⟩ := U2.free z_xo; have amxo4 := U2.lt z_xo) | skip); (first | (replace z_W5 := U2.below z_W5 hb; obtain ⟨bmW50, bmW51⟩ := U2.cells z_W5; obtain ⟨bmW52, bmW53⟩ := U2.free z_W5; have bmW54 := U2.lt z_W5) | skip); (first | (replace z_xo := U2.below z_xo hb; obtain ⟨bmxo0, bmxo1⟩ := U2.cells z_xo; obtain ⟨bmxo2, bmxo3⟩ := U2.free z_xo; have bmxo4 := U2.lt z_xo) | skip); replace hX := below_then (show Below W5.heap.size W5 _ by first | exact hX | exact hX.drew | exact hX.alloc hX.size _ | exact hX.drew.alloc hX.drew.size _) hb; clear hb; have s_xm : W5.heap.size ≤ xm.heap.size := hX.size; have dm0 := Nat.ne_of_lt l0; have dm0s := Nat.ne_of_gt l0; clear l0; have dm1 := Nat.ne_of_lt l1; have dm1s := Nat.ne_of_gt l1; clear l1; clear f1 f2 f3 f4; obtain ⟨f1, f2⟩ := (HK.out.1.below hX).cells; obtain ⟨f3, f4⟩ := (HK.out.2.2.below hX).cells; have l0 := (HK.out.1.below hX).lt; have l1 := (HK.out.2.2.below hX).lt; have em0 := Nat.ne_of_lt l0; have em0s := Nat.ne_of_gt l0; have em1 := Nat.ne_of_lt l1; have em1s := Nat.ne_of_gt l1)
      | (go_at_call 24; (with_reducible refine (D.out _).mono ?_); rintro e xs ⟨rfl, hb⟩; (first | (have z_W5 : U2 xs W5.heap.size 0 0 := u2_early (w := World.drew W5) hb; obtain ⟨asW50, asW51⟩ := U2.cells z_W5; obtain ⟨asW52, asW53⟩ := U2.free z_W5; have asW54 := U2.lt z_W5) | (have z_xo : U2 xs xo.heap.size 0 0 := u2_early (w := xo) hb; obtain ⟨asxo0, asxo1⟩ := U2.cells z_xo; obtain ⟨asxo2, asxo3⟩ := U2.free z_xo; have asxo4 := U2.lt z_xo) | (have z_xm : U2 xs xm.heap.size 0 0 := u2_early (w := xm) hb; obtain ⟨asxm0, asxm1⟩ := U2.cells z_xm; obtain ⟨asxm2, asxm3⟩ := U2.free z_xm; have asxm4 := U2.lt z_xm) | skip); (first | (replace z_W5 := U2.below z_W5 hb; obtain ⟨bsW50, bsW51⟩ := U2.cells z_W5; obtain ⟨bsW52, bsW53⟩ := U2.free z_W5; have bsW54 := U2.lt z_W5) | skip); (first | (replace z_xo := U2.below z_xo hb; obtain ⟨bsxo0, bsxo1⟩ := U2.cells z_xo; obtain ⟨bsxo2, bsxo3⟩ := U2.free z_xo; have bsxo4 := U2.lt z_xo) | skip); (first | (replace z_xm := U2.below z_xm hb; obtain ⟨bsxm0, bsxm1⟩ := U2.cells z_xm; obtain ⟨bsxm2, bsxm3⟩ := U2.free z_xm; have bsxm4 := U2.lt z_xm) | skip); replace hX := below_then (show Below W5.heap.size W5 _ by first | exact hX | exact hX.drew | exact hX.alloc hX.size _ | exact hX.drew.alloc hX.drew.size _) hb; clear hb; have s_xs : W5.heap.size ≤ xs.heap.size := hX.size; have ds0 := Nat.ne_of_lt l0; have ds0s := Nat.ne_of_gt l0; clear l0; have ds1 := Nat.ne_of_lt l1; have ds1s := Nat.ne_of_gt l1; clear l1; clear f1 f2 f3 f4; obtain ⟨f1, f2⟩ := (HK.out.1.below hX).cells; obtain ⟨f3, f4⟩ := (HK.out.2.2.below hX).cells; have l0 := (HK.out.1.below hX).lt; have l1 := (HK.out.2.2.below hX).lt; have es0 := Nat.ne_of_lt l0; have es0s := Nat.ne_of_gt l0; have es1 := Nat.ne_of_lt l1; have es1s := Nat.ne_of_gt l1))
        all_goals
          go_wp2_with fail
          go_meet
          first
            | with_reducible exact CutU.of hX
            | with_reducible exact CutU.early hX (Nat.le_refl _) z_W5
            | with_reducible exact CutU.early hX s_xo z_xo
            | with_reducible exact CutU.early hX s_xm z_xm
            | with_reducible exact CutU.early hX s_xs z_xs
      obtain ⟨bf, rfl, UF, hX⟩ := hcut
      have K2 := Lib.hid (And.intro (HK.out.1.below hX) (And.intro (HK.out.2.1.below hX) (And.intro (HK.out.2.2.below hX) (And.intro UF (below_then HL.out hX)))))
      clear HK UF HL hX M D O
      obtain ⟨x1, x2⟩ := K2.out.2.2.1.cells
      obtain ⟨y1, y2⟩ := K2.out.2.2.2.1.cells
      go_wp2_with fail
      refine (M2.out _).mono ?_
      rintro e W6 ⟨rfl, hb⟩
      clear x1 x2 y1 y2 M2
      have B6 := K2.out.2.2.1.below hb
      have K3 := Lib.hid (And.intro (K2.out.1.below hb) (And.intro (K2.out.2.1.below hb) (And.intro B6 (below_then K2.out.2.2.2.2 hb))))
      obtain ⟨x1, x2⟩ := B6.cells
      obtain ⟨f1, f2⟩ := B6.free
      clear K2 hb B6
      go_wp2_with fail
      go_roundg j
      case measure => omega
      case rel => exact ⟨_, rfl, hv2.out, by omega, Lib.hid ⟨K3.out.1.far2 Hc.out.2.2.1 _ _, K3.out.2.1.far2 Hc.out.2.2.2.1 _ _, ⟨q0, q1, b', HJ.out.2.1, HJ.out.2.2, U2.put K3.out.2.2.1⟩, below_putU2 K3.out.2.2.2 Hc.out.2.1 _ _⟩⟩
theorem xOddY (h l : Int) (n : Nat) (W : World) (i : Wn h l n) (hn : n % 2 = 1) : Calls Try.prog 8 #[.agg #[.int .u64 h, .int .u64 l]] W (AnsWE (invQ n) 0 W) := by
  refine (xoddMain h l n W (Lib.hid fun V => cBit0 i 1 (by omega) V) (Lib.hid fun V => cOf 2 2 rfl (by decide) V) (Lib.hid ?_) (Lib.hid ⟨i, odd_start hn i.lt⟩)).mono ?_
  · intro r b p q hw ho r' h1 h2
    have j2 : Wn 0 2 2 := ⟨by decide, by decide, by decide, by decide, rfl⟩
    have l1 : n * b % Q < Q := Nat.mod_lt _ (by decide)
    have l2 : (2 + (Q - n * b % Q)) % Q < Q := Nat.mod_lt _ (by decide)
    have l3 : nextOdd n b < Q := Nat.mod_lt _ (by decide)
    exact ⟨_, _, _, _, _, _, _, _, wn_of l3, odd_next ho h1 h2, fun V => cMul128 i hw V, fun V => cSub128 j2 (wn_of l1) V, fun V => cMul128 hw (wn_of l2) V⟩
  · rintro e w' ⟨p, q, b, hw, ho, rfl, hb⟩
    obtain ⟨rfl, rfl⟩ := hw.of
    rw [odd_end hn ho]
    exact ⟨rfl, hb⟩
end Go.Proofs.Ytfnfjfmkhnofkaa
/-
  What Inverse of package affine answers.
-/
namespace Go.Proofs.Ytfnfjfmkhnofkaa
open Go.RowKit G
set_option linter.unusedVariables false
set_option maxRecDepth 100000

set_option maxHeartbeats 4000000 in
theorem xinvNo (a0 a1 a2 a3 : Int) (w : World)
    (OD : Hid (∀ W, Calls Try.prog 8 #[.agg #[.int .u64 a0, .int .u64 a1]] W (fun e w' => e = .returned (.tuple #[.agg #[.int .u64 0, .int .u64 0], .int .i64 1]) ∧ Below W.heap.size W w'))) :
    Calls Try.prog 10 #[.agg #[.int .u64 a0, .int .u64 a1, .int .u64 a2, .int .u64 a3]] w (AnsME Mp.zero 1 w) := by
  have U := B4.new w a0 a1 a2 a3
  have z1 : (w.alloc (.cells #[.int .u64 a0, .int .u64 a1, .int .u64 a2, .int .u64 a3] 26)).heap.size = w.heap.size + 1 := Array.size_push _
  have L := below_allocs w (.cells #[.int .u64 a0, .int .u64 a1, .int .u64 a2, .int .u64 a3] 26)
  have H1 := Lib.hid (And.intro U (And.intro z1 L))
  clear U z1 L
  go_enter Try.func10, Try.ntmps10
  go_upto_region 1 with fail
  generalize w.alloc _ = V1 at H1 ⊢
  have UX := ZB.new V1
  rw [H1.out.2.1] at UX
  have LB := below_allocs V1 (.cells #[.int .u64 0, .int .u64 0, .int .u64 0, .int .u64 0] 26)
  have H2 := Lib.hid (And.intro (H1.out.1.below LB) (And.intro UX (below_then H1.out.2.2 LB)))
  clear UX LB H1
  generalize V1.alloc _ = V2 at H2 ⊢
  have hc : w.heap.size ≤ w.heap.size + 1 := Nat.le_succ _
  generalize w.heap.size + 1 = cz at H2 hc ⊢
  obtain ⟨x1, x2, x3, x4⟩ := H2.out.1.cells
  go_wp2_with fail
  clear x1 x2 x3 x4
  refine (OD.out _).mono ?_
  rintro e V3 ⟨rfl, hb⟩
  have H3 := Lib.hid (And.intro (H2.out.1.below hb) (And.intro (B4.below H2.out.2.1 hb) (below_then H2.out.2.2 hb)))
  clear H2 hb OD
  have LB := below_allocs V3 (.cells #[.int .u64 0, .int .u64 0] 24)
  have H4 := Lib.hid (And.intro (B4.below H3.out.2.1 LB) (below_then H3.out.2.2 LB))
  clear LB H3
  go_upto_region 3 with fail
  generalize V3.alloc _ = V4 at H4 ⊢
  have HR := Lib.hid (B4.put (p' := 0) (q' := 0) (r' := 0) (s' := 0) H4.out.1)
  have HB : Hid (Below w.heap.size w ((((V4.setCell ⟨cz, 0, none⟩ (.int .u64 0)).setCell ⟨cz, 1, none⟩ (.int .u64 0)).setCell ⟨cz, 2, none⟩ (.int .u64 0)).setCell ⟨cz, 3, none⟩ (.int .u64 0))) := Lib.hid (below_put4 H4.out.2 hc)
  obtain ⟨x1, x2, x3, x4⟩ := B4.cells H4.out.1
  obtain ⟨f1, f2, f3, f4⟩ := B4.free H4.out.1
  clear H4
  go_wp2_with fail
  generalize World.setCell (World.setCell (World.setCell (World.setCell V4 _ _) _ _) _ _) _ _ = V9 at HR HB ⊢
  obtain ⟨r1, r2, r3, r4⟩ := HR.out.cells
  try simp only [Exit.inBlock, Exit.then, Exit.noGoto]
  refine bodyPost_ret (by simp [results, Try.results10, go_sem, r1, r2, r3, r4]; try rfl) rfl ?_
  exact ⟨rfl, HB.out⟩
set_option maxHeartbeats 8000000 in
theorem xinvYes (a0 a1 a2 a3 b0 b1 o0 o1 s0 s1 : Int) (u : Bool) (w : World)
    (OD : Hid (∀ W, Calls Try.prog 8 #[.agg #[.int .u64 a0, .int .u64 a1]] W (fun e w' => e = .returned (.tuple #[.agg #[.int .u64 b0, .int .u64 b1], .int .i64 0]) ∧ Below W.heap.size W w')))
    (O : Hid (TN 21 #[.int .u64 0] 0 0))
    (M : Hid (TN 23 #[.agg #[.int .u64 b0, .int .u64 b1], .agg #[.int .u64 a2, .int .u64 a3]] o0 o1))
    (D : Hid (TNB 24 #[.agg #[.int .u64 0, .int .u64 0], .agg #[.int .u64 o0, .int .u64 o1]] s0 s1 u)) :
    Calls Try.prog 10 #[.agg #[.int .u64 a0, .int .u64 a1, .int .u64 a2, .int .u64 a3]] w (fun e w' => e = .returned (.tuple #[.agg #[.int .u64 b0, .int .u64 b1, .int .u64 s0, .int .u64 s1], .int .i64 0]) ∧ Below w.heap.size w w') := by
  have U := B4.new w a0 a1 a2 a3
  have z1 : (w.alloc (.cells #[.int .u64 a0, .int .u64 a1, .int .u64 a2, .int .u64 a3] 26)).heap.size = w.heap.size + 1 := Array.size_push _
  have L := below_allocs w (.cells #[.int .u64 a0, .int .u64 a1, .int .u64 a2, .int .u64 a3] 26)
  have H1 := Lib.hid (And.intro U (And.intro z1 L))
  clear U z1 L
  go_enter Try.func10, Try.ntmps10
  go_upto_region 1 with fail
  generalize w.alloc _ = V1 at H1 ⊢
  have UX := ZB.new V1
  rw [H1.out.2.1] at UX
  have LB := below_allocs V1 (.cells #[.int .u64 0, .int .u64 0, .int .u64 0, .int .u64 0] 26)
  have H2 := Lib.hid (And.intro (H1.out.1.below LB) (And.intro UX (below_then H1.out.2.2 LB)))
  clear UX LB H1
  generalize V1.alloc _ = V2 at H2 ⊢
  have hc : w.heap.size ≤ w.heap.size + 1 := Nat.le_succ _
  generalize w.heap.size + 1 = cz at H2 hc ⊢
  obtain ⟨x1, x2, x3, x4⟩ := H2.out.1.cells
  go_wp2_with fail
  clear x1 x2 x3 x4
  refine (OD.out _).mono ?_
  rintro e V3 ⟨rfl, hb⟩
  have H3 := Lib.hid (And.intro (H2.out.1.below hb) (And.intro (B4.below H2.out.2.1 hb) (below_then H2.out.2.2 hb)))
  clear H2 hb OD
  have UB := U2.new V3 b0 b1
  have LB := below_allocs V3 (.cells #[.int .u64 b0, .int .u64 b1] 24)
  have HK := Lib.hid (And.intro (H3.out.1.below LB) (And.intro (B4.below H3.out.2.1 LB) (And.intro UB (below_then H3.out.2.2 LB))))
  clear UB LB H3
  go_upto_region 4 with fail
  generalize V3.alloc _ = W5 at HK ⊢
  generalize V3.heap.size = cb at HK ⊢
  go_cut [6] (CutU W5 s0 s1)
  case first =>
    have hX : Below W5.heap.size W5 W5 := Below.refl _ _
    obtain ⟨f1, f2⟩ := HK.out.2.2.1.cells
    obtain ⟨_, _, f3, f4⟩ := HK.out.1.cells
    have l0 : cb < W5.heap.size := HK.out.2.2.1.lt
    have l1 : w.heap.size < W5.heap.size := HK.out.1.lt
    go_region_held3 (fun w' => w'.cell? ⟨cb, 0, none⟩ = some (.int .u64 b0) ∧ w'.cell? ⟨cb, 1, none⟩ = some (.int .u64 b1) ∧ w'.cell? ⟨w.heap.size, 2, none⟩ = some (.int .u64 a2) ∧ w'.cell? ⟨w.heap.size, 3, none⟩ = some (.int .u64 a3)) (go_keep) (first
    | (go_at_call 21; (with_reducible refine (O.out _).mono ?_); rintro e xo ⟨rfl, hb⟩; (first | (have z_W5 : U2 xo W5.heap.size 0 0 := u2_early (w := World.drew W5) hb; obtain ⟨aoW50, aoW51⟩ := U2.cells z_W5; obtain ⟨aoW52, aoW53⟩ := U2.free z_W5; have aoW54 := U2.lt z_W5) | (have z_xm : U2 xo xm.heap.size 0 0 := u2_early (w := xm) hb; obtain ⟨aoxm0, aoxm1⟩ := U2.cells z_xm; obtain ⟨aoxm2, aoxm3⟩ := U2.free z_xm; have aoxm4 := U2.lt z_xm) | skip); (first | (replace z_W5 := U2.below z_W5 hb; obtain ⟨boW50, boW51⟩ := U2.cells z_W5; obtain ⟨boW52, boW53⟩ := U2.free z_W5; have boW54 := U2.lt z_W5) | skip); (first | (replace z_xm := U2.below z_xm hb; obtain ⟨boxm0, boxm1⟩ := U2.cells z_xm; obtain ⟨boxm2, boxm3⟩ := U2.free z_xm; have boxm4 := U2.lt z_xm) | skip); replace hX := below_then (show Below W5.heap.size W5 _ by first | exact hX | exact hX.drew | exact hX.alloc hX.size _ | exact hX.drew.alloc hX.drew.size _) hb; clear hb; have s_xo : W5.heap.size ≤ xo.heap.size := hX.size; have do0 := Nat.ne_of_lt l0; have do0s := Nat.ne_of_gt l0; clear l0; have do1 := Nat.ne_of_lt l1; have do1s := Nat.ne_of_gt l1; clear l1; clear f1 f2 f3 f4; obtain ⟨f1, f2⟩ := (HK.out.2.2.1.below hX).cells; obtain ⟨_, _, f3, f4⟩ := (HK.out.1.below hX).cells; have l0 := (HK.out.2.2.1.below hX).lt; have l1 := (HK.out.1.below hX).lt; have eo0 := Nat.ne_of_lt l0; have eo0s := Nat.ne_of_gt l0; have eo1 := Nat.ne_of_lt l1; have eo1s := Nat.ne_of_gt l1)
    | (go_at_call 23; (with_reducible refine (M.out _).mono ?_); rintro e xm ⟨rfl, hb⟩; (first | (have z_W5 : U2 xm W5.heap.size 0 0 := u2_early (w := World.drew W5) hb; obtain ⟨amW50, amW51⟩ := U2.cells z_W5; obtain ⟨amW52, amW53⟩ := U2.free z_W5; have amW54 := U2.lt z_W5) | (have z_xo : U2 xm xo.heap.size 0 0 := u2_early (w := xo) hb; obtain ⟨amxo0, amxo1⟩ := U2.cells z_xo; obtain ⟨amxo2, amxo3⟩ := U2.free z_xo; have amxo4 := U2.lt z_xo) | skip); (first | (replace z_W5 := U2.below z_W5 hb; obtain ⟨bmW50, bmW51⟩ := U2.cells z_W5; obtain ⟨bmW52, bmW53⟩ := U2.free z_W5; have bmW54 := U2.lt z_W5) | skip); (first | (replace z_xo := U2.below z_xo hb; obtain ⟨bmxo0, bmxo1⟩ := U2.cells z_xo; obtain ⟨bmxo2, bmxo3⟩ := U2.free z_xo; have bmxo4 := U2.lt z_xo) | skip); replace hX := below_then (show Below W5.heap.size W5 _ by first | exact hX | exact hX.drew | exact hX.alloc hX.size _ | exact hX.drew.alloc hX.drew.size _) hb; clear hb; have s_xm : W5.heap.size ≤ xm.heap.size := hX.size; have dm0 := Nat.ne_of_lt l0; have dm0s := Nat.ne_of_gt l0; clear l0; have dm1 := Nat.ne_of_lt l1; have dm1s := Nat.ne_of_gt l1; clear l1; clear f1 f2 f3 f4; obtain ⟨f1, f2⟩ := (HK.out.2.2.1.below hX).cells; obtain ⟨_, _, f3, f4⟩ := (HK.out.1.below hX).cells; have l0 := (HK.out.2.2.1.below hX).lt; have l1 := (HK.out.1.below hX).lt; have em0 := Nat.ne_of_lt l0; have em0s := Nat.ne_of_gt l0; have em1 := Nat.ne_of_lt l1; have em1s := Nat.ne_of_gt l1)
    | (go_at_call 24; (with_reducible refine (D.out _).mono ?_); rintro e xs ⟨rfl, hb⟩; (first | (have z_W5 : U2 xs W5.heap.size 0 0 := u2_early (w := World.drew W5) hb; obtain ⟨asW50, asW51⟩ := U2.cells z_W5; obtain ⟨asW52, asW53⟩ := U2.free z_W5; have asW54 := U2.lt z_W5) | (have z_xo : U2 xs xo.heap.size 0 0 := u2_early (w := xo) hb; obtain ⟨asxo0, asxo1⟩ := U2.cells z_xo; obtain ⟨asxo2, asxo3⟩ := U2.free z_xo; have asxo4 := U2.lt z_xo) | (have z_xm : U2 xs xm.heap.size 0 0 := u2_early (w := xm) hb; obtain ⟨asxm0, asxm1⟩ := U2.cells z_xm; obtain ⟨asxm2, asxm3⟩ := U2.free z_xm; have asxm4 := U2.lt z_xm) | skip); (first | (replace z_W5 := U2.below z_W5 hb; obtain ⟨bsW50, bsW51⟩ := U2.cells z_W5; obtain ⟨bsW52, bsW53⟩ := U2.free z_W5; have bsW54 := U2.lt z_W5) | skip); (first | (replace z_xo := U2.below z_xo hb; obtain ⟨bsxo0, bsxo1⟩ := U2.cells z_xo; obtain ⟨bsxo2, bsxo3⟩ := U2.free z_xo; have bsxo4 := U2.lt z_xo) | skip); (first | (replace z_xm := U2.below z_xm hb; obtain ⟨bsxm0, bsxm1⟩ := U2.cells z_xm; obtain ⟨bsxm2, bsxm3⟩ := U2.free z_xm; have bsxm4 := U2.lt z_xm) | skip); replace hX := below_then (show Below W5.heap.size W5 _ by first | exact hX | exact hX.drew | exact hX.alloc hX.size _ | exact hX.drew.alloc hX.drew.size _) hb; clear hb; have s_xs : W5.heap.size ≤ xs.heap.size := hX.size; have ds0 := Nat.ne_of_lt l0; have ds0s := Nat.ne_of_gt l0; clear l0; have ds1 := Nat.ne_of_lt l1; have ds1s := Nat.ne_of_gt l1; clear l1; clear f1 f2 f3 f4; obtain ⟨f1, f2⟩ := (HK.out.2.2.1.below hX).cells; obtain ⟨_, _, f3, f4⟩ := (HK.out.1.below hX).cells; have l0 := (HK.out.2.2.1.below hX).lt; have l1 := (HK.out.1.below hX).lt; have es0 := Nat.ne_of_lt l0; have es0s := Nat.ne_of_gt l0; have es1 := Nat.ne_of_lt l1; have es1s := Nat.ne_of_gt l1))
    all_goals
      go_wp2_with fail
      go_meet
      first
        | with_reducible exact CutU.of hX
        | with_reducible exact CutU.early hX (Nat.le_refl _) z_W5
        | with_reducible exact CutU.early hX s_xo z_xo
        | with_reducible exact CutU.early hX s_xm z_xm
        | with_reducible exact CutU.early hX s_xs z_xs
  obtain ⟨bf, rfl, UF, hX⟩ := hcut
  have Z := B4.below HK.out.2.1 hX
  have HR := Lib.hid (B4.put (p' := b0) (q' := b1) (r' := s0) (s' := s1) Z)
  have HB : Hid (Below w.heap.size w ((((wc.setCell ⟨cz, 0, none⟩ (.int .u64 b0)).setCell ⟨cz, 1, none⟩ (.int .u64 b1)).setCell ⟨cz, 2, none⟩ (.int .u64 s0)).setCell ⟨cz, 3, none⟩ (.int .u64 s1))) := Lib.hid (below_put4 (below_then HK.out.2.2.2 hX) hc)
  obtain ⟨n1, n2⟩ := UF.cells
  obtain ⟨y1, y2⟩ := (HK.out.2.2.1.below hX).cells
  obtain ⟨x1, x2, x3, x4⟩ := B4.cells Z
  obtain ⟨f1, f2, f3, f4⟩ := B4.free Z
  clear HK UF hX Z M D O
  go_wp2_with fail
  generalize World.setCell (World.setCell (World.setCell (World.setCell wc _ _) _ _) _ _) _ _ = V9 at HR HB ⊢
  obtain ⟨r1, r2, r3, r4⟩ := HR.out.cells
  try simp only [Exit.inBlock, Exit.then, Exit.noGoto]
  refine bodyPost_ret (by simp [results, Try.results10, go_sem, r1, r2, r3, r4]; try rfl) rfl ?_
  exact ⟨rfl, HB.out⟩
theorem xInvN (m : Mp) (W : World) (hm : m.Ok) (h : m.A % 2 = 0) : Calls Try.prog 10 #[m.val] W (AnsME Mp.zero 1 W) :=
  xinvNo _ _ _ _ W (Lib.hid fun V => xOddN _ _ m.A V (wn_of hm.a) h)
theorem neg_is (x : Nat) : (0 + (Q - x % Q)) % Q = negQ x := by rw [Nat.zero_add]; rfl
theorem xInvY (m : Mp) (W : World) (hm : m.Ok) (h : m.A % 2 = 1) : Calls Try.prog 10 #[m.val] W (AnsME (invM m) 0 W) := by
  have j0 : Wn 0 0 0 := ⟨by decide, by decide, by decide, by decide, rfl⟩
  have l1 : invQ m.A * m.C % Q < Q := Nat.mod_lt _ (by decide)
  have D := fun V => cSub128 j0 (wn_of l1) V
  rw [neg_is] at D
  exact xinvYes _ _ _ _ _ _ _ _ _ _ _ W (Lib.hid fun V => xOddY _ _ m.A V (wn_of hm.a) h) (Lib.hid fun V => cOf 0 0 rfl (by decide) V) (Lib.hid fun V => cMul128 (wn_of (invQ_ok h).1) (wn_of hm.c) V) (Lib.hid D)
end Go.Proofs.Ytfnfjfmkhnofkaa
/-
  What powerBy and Power of package affine answer: a goto that goes about, from the lowest bit on.
-/
namespace Go.Proofs.Ytfnfjfmkhnofkaa
open Go.RowKit G
set_option linter.unusedVariables false
set_option maxRecDepth 100000

/-- As 'wp_scope_jumps', the way from the label on walked but once. -/
theorem wp_scope_jumps1 {P : Program} {a : Act} {w : World} {Q : Exit → Act → World → Prop} {c body : Code} (l : Nat) (J : Act → World → Prop) (μ : Act → World → Nat) (hf : findLabel c l = some (Code.skip.seq body))
    (pass : ∀ a w, J a w → body.wp P (Exit.jump l (fun a' w' => J a' w' ∧ μ a' w' < μ a w) Q) a w) (first : (∀ a w, J a w → body.wp P (Exit.jump l J Q) a w) → c.wp P (Exit.jump l J Q) a w) : (Code.scope c).wp P Q a w :=
  wp_scope_jumps l J μ hf (first fun a w h => Code.wp_mono (fun e a' w' k => by
    cases e with
    | goto l' => exact ⟨k.1, k.2.1⟩
    | _ => exact k) (pass a w h)) fun a w h => wp_seq (wp_skip (pass a w h))
theorem U2.far4 {w : World} {b x : Nat} {h l p' q' r' s' : Int} (k : U2 w b h l) (hne : b ≠ x) : U2 ((((w.setCell ⟨x, 0, none⟩ (.int .u64 p')).setCell ⟨x, 1, none⟩ (.int .u64 q')).setCell ⟨x, 2, none⟩ (.int .u64 r')).setCell ⟨x, 3, none⟩ (.int .u64 s')) b h l := (far_block4 hne).trans k
theorem B4.far2 {w : World} {b x : Nat} {p q r s : Int} (h : B4 w b p q r s) (hne : b ≠ x) (u v : Value) : B4 ((w.setCell ⟨x, 0, none⟩ u).setCell ⟨x, 1, none⟩ v) b p q r s := (h.far hne _).far hne _
def intIn : Value → Int | .int _ q => q | _ => 0
def cellN (w : World) (c k : Nat) : Int := match w.cell? ⟨c, k, none⟩ with | some v => intIn v | none => 0
/-- What each round lowers: the number that lies in the box. -/
def jM (cn : Nat) (a : Act) (w : World) : Nat := (cellN w cn 0 * 18446744073709551616 + cellN w cn 1).toNat
theorem jM_is {w : World} {cn n : Nat} {h l : Int} (a : Act) (k : U2 w cn h l) (i : Wn h l n) : jM cn a w = n := by
  unfold jM cellN
  rw [k.cells.1, k.cells.2]
  show (h * 18446744073709551616 + l).toNat = n
  rw [i.eq]
  exact Int.toNat_natCast n
/-- What lies apart. -/
structure Apart (s cm cn cz b : Nat) : Prop where
  lm : s ≤ cm
  ln : s ≤ cn
  lz : s ≤ cz
  lb : s ≤ b
  mn : cm ≠ cn
  mb : cm ≠ b
  nb : cn ≠ b
  zm : cz ≠ cm
  zn : cz ≠ cn
  zb : cz ≠ b
/-- What holds at the label. -/
structure AtL (w w' : World) (cm cn cz b : Nat) (m0 m1 m2 m3 h l p0 p1 p2 p3 : Int) : Prop where
  m : B4 w' cm m0 m1 m2 m3
  n : U2 w' cn h l
  z : B4 w' cz 0 0 0 0
  p : B4 w' b p0 p1 p2 p3
  below : Below w.heap.size w w'
section
variable {w w' v : World} {cm cn cz b : Nat} {m0 m1 m2 m3 h l p0 p1 p2 p3 : Int}
theorem AtL.next (k : AtL w w' cm cn cz b m0 m1 m2 m3 h l p0 p1 p2 p3) (hb : Below w'.heap.size w' v) : AtL w v cm cn cz b m0 m1 m2 m3 h l p0 p1 p2 p3 :=
  ⟨k.m.below hb, k.n.below hb, k.z.below hb, k.p.below hb, below_then k.below hb⟩
theorem AtL.putp (k : AtL w w' cm cn cz b m0 m1 m2 m3 h l p0 p1 p2 p3) (a : Apart w.heap.size cm cn cz b) (q0 q1 q2 q3 : Int) :
    AtL w ((((w'.setCell ⟨b, 0, none⟩ (.int .u64 q0)).setCell ⟨b, 1, none⟩ (.int .u64 q1)).setCell ⟨b, 2, none⟩ (.int .u64 q2)).setCell ⟨b, 3, none⟩ (.int .u64 q3)) cm cn cz b m0 m1 m2 m3 h l q0 q1 q2 q3 :=
  ⟨k.m.far4 a.mb, k.n.far4 a.nb, k.z.far4 a.zb, B4.put k.p, below_put4 k.below a.lb⟩
theorem AtL.putm (k : AtL w w' cm cn cz b m0 m1 m2 m3 h l p0 p1 p2 p3) (a : Apart w.heap.size cm cn cz b) (q0 q1 q2 q3 : Int) :
    AtL w ((((w'.setCell ⟨cm, 0, none⟩ (.int .u64 q0)).setCell ⟨cm, 1, none⟩ (.int .u64 q1)).setCell ⟨cm, 2, none⟩ (.int .u64 q2)).setCell ⟨cm, 3, none⟩ (.int .u64 q3)) cm cn cz b q0 q1 q2 q3 h l p0 p1 p2 p3 :=
  ⟨B4.put k.m, k.n.far4 a.mn.symm, k.z.far4 a.zm, k.p.far4 a.mb.symm, below_put4 k.below a.lm⟩
theorem AtL.putn (k : AtL w w' cm cn cz b m0 m1 m2 m3 h l p0 p1 p2 p3) (a : Apart w.heap.size cm cn cz b) (h' l' : Int) :
    AtL w ((w'.setCell ⟨cn, 0, none⟩ (.int .u64 h')).setCell ⟨cn, 1, none⟩ (.int .u64 l')) cm cn cz b m0 m1 m2 m3 h' l' p0 p1 p2 p3 :=
  ⟨k.m.far2 a.mn _ _, U2.put k.n, k.z.far2 a.zn _ _, k.p.far2 a.nb.symm _ _, below_putU2 k.below a.ln _ _⟩
end
/-- What is left of the power. -/
structure PSt (R : Mp) (n : Nat) (p m : Mp) : Prop where
  okp : p.Ok
  okm : m.Ok
  is : thenM p (powM m n) = R
/-- What holds at each jump. -/
def JL (w : World) (cm cn cz : Nat) (fv gm gn : Value) (R : Mp) (a' : Act) (w' : World) : Prop := ∃ (n b : Nat) (p m : Mp) (h l m0 m1 m2 m3 p0 p1 p2 p3 : Int) (u3 u8 u9 u10 u11 u12 u13 u14 u15 u16 u17 u18 u19 u20 u21 u22 u23 u24 u25 u26 u27 u28 u29 u30 : Value), a' = { tmps := #[fv, gm, gn, u3, .pointer (some ⟨cm, 0, none⟩), .pointer (some ⟨cn, 0, none⟩), .pointer (some ⟨cz, 0, none⟩), .pointer (some ⟨b, 0, none⟩), u8, u9, u10, u11, u12, u13, u14, u15, u16, u17, u18, u19, u20, u21, u22, u23, u24, u25, u26, u27, u28, u29, u30], defers := [] } ∧ PSt R n p m ∧ Ws p p0 p1 p2 p3 ∧ Ws m m0 m1 m2 m3 ∧ Wn h l n ∧ Apart w.heap.size cm cn cz b ∧ AtL w w' cm cn cz b m0 m1 m2 m3 h l p0 p1 p2 p3
/-- A number that is 0, or isn't; a map that is One, or isn't. -/
def Nz (h l : Int) : Prop := ((h == 0) = false ∧ (h = 0) = False) ∨ h = 0 ∧ (l == 0) = false ∧ (l = 0) = False
def No1 (a b c d : Int) : Prop := ((a == 0) = false ∧ (a = 0) = False) ∨ a = 0 ∧ ((b == 1) = false ∧ (b = 1) = False) ∨ a = 0 ∧ b = 1 ∧ ((c == 0) = false ∧ (c = 0) = False) ∨ a = 0 ∧ b = 1 ∧ c = 0 ∧ ((d == 0) = false ∧ (d = 0) = False)
inductive PWay (R : Mp) (n : Nat) (p m : Mp) (h l m0 m1 m2 m3 p0 p1 p2 p3 : Int) : Prop where
  | zero (e1 : h = 0) (e2 : l = 0) (e : Hid (p = R))
  | one (e1 : Hid (Nz h l)) (e2 : m0 = 0) (e3 : m1 = 1) (e4 : m2 = 0) (e5 : m3 = 0) (e : Hid (p = R))
  | even (e1 : Hid (Nz h l)) (e2 : Hid (No1 m0 m1 m2 m3)) (B : Hid (∀ W, Calls Try.prog 22 #[.agg #[.int .u64 h, .int .u64 l], .int .i64 0] W (AnsI 0 W)))
      (m' : Mp) (k0 k1 k2 k3 : Int) (T : Hid (TM 15 #[.agg #[.int .u64 m0, .int .u64 m1, .int .u64 m2, .int .u64 m3], .agg #[.int .u64 m0, .int .u64 m1, .int .u64 m2, .int .u64 m3]] k0 k1 k2 k3))
      (n' : Nat) (h' l' : Int) (G : Hid (TN 35 #[.agg #[.int .u64 h, .int .u64 l], .int .i64 1] h' l')) (st : Hid (PSt R n' p m' ∧ Ws m' k0 k1 k2 k3 ∧ Wn h' l' n' ∧ n' < n))
  | odd (e1 : Hid (Nz h l)) (e2 : Hid (No1 m0 m1 m2 m3)) (B : Hid (∀ W, Calls Try.prog 22 #[.agg #[.int .u64 h, .int .u64 l], .int .i64 0] W (AnsI 1 W)))
      (p' : Mp) (q0 q1 q2 q3 : Int) (T0 : Hid (TM 15 #[.agg #[.int .u64 p0, .int .u64 p1, .int .u64 p2, .int .u64 p3], .agg #[.int .u64 m0, .int .u64 m1, .int .u64 m2, .int .u64 m3]] q0 q1 q2 q3))
      (m' : Mp) (k0 k1 k2 k3 : Int) (T : Hid (TM 15 #[.agg #[.int .u64 m0, .int .u64 m1, .int .u64 m2, .int .u64 m3], .agg #[.int .u64 m0, .int .u64 m1, .int .u64 m2, .int .u64 m3]] k0 k1 k2 k3))
      (n' : Nat) (h' l' : Int) (G : Hid (TN 35 #[.agg #[.int .u64 h, .int .u64 l], .int .i64 1] h' l')) (st : Hid (PSt R n' p' m' ∧ Ws m' k0 k1 k2 k3 ∧ Wn h' l' n' ∧ n' < n ∧ Ws p' q0 q1 q2 q3))
set_option maxHeartbeats 16000000 in
theorem pbMain (a0 a1 a2 a3 h0 l0 : Int) (R : Mp) (n0 : Nat) (m00 : Mp) (w : World)
    (CO : Hid (TM 18 #[] 0 1 0 0))
    (S : Hid (∀ (n : Nat) (p m : Mp) (h l m0 m1 m2 m3 p0 p1 p2 p3 : Int), PSt R n p m → Ws p p0 p1 p2 p3 → Ws m m0 m1 m2 m3 → Wn h l n → PWay R n p m h l m0 m1 m2 m3 p0 p1 p2 p3))
    (I : Hid (PSt R n0 Mp.one m00 ∧ Ws Mp.one 0 1 0 0 ∧ Ws m00 a0 a1 a2 a3 ∧ Wn h0 l0 n0)) :
    Calls Try.prog 30 #[(.func (.func 15) #[] #[]), .agg #[.int .u64 a0, .int .u64 a1, .int .u64 a2, .int .u64 a3], .agg #[.int .u64 h0, .int .u64 l0]] w (AnsQ R w) := by
  have U := B4.new w a0 a1 a2 a3
  have z1 : (w.alloc (.cells #[.int .u64 a0, .int .u64 a1, .int .u64 a2, .int .u64 a3] 26)).heap.size = w.heap.size + 1 := Array.size_push _
  have LW := below_allocs w (.cells #[.int .u64 a0, .int .u64 a1, .int .u64 a2, .int .u64 a3] 26)
  have H1 := Lib.hid (And.intro U (And.intro z1 LW))
  clear U z1 LW
  go_enter Try.func30, Try.ntmps30
  go_wp2_with fail
  generalize w.alloc _ = V1 at H1 ⊢
  have UX := U2.new V1 h0 l0
  have z2 : (V1.alloc (.cells #[.int .u64 h0, .int .u64 l0] 24)).heap.size = w.heap.size + 1 + 1 := (Array.size_push _).trans (by rw [H1.out.2.1])
  rw [H1.out.2.1] at UX
  have LB := below_allocs V1 (.cells #[.int .u64 h0, .int .u64 l0] 24)
  have H2 := Lib.hid (And.intro (H1.out.1.below LB) (And.intro UX (And.intro z2 (below_then H1.out.2.2 LB))))
  clear UX z2 LB H1
  generalize V1.alloc _ = V2 at H2 ⊢
  have UZ := B4.new V2 0 0 0 0
  rw [H2.out.2.2.1] at UZ
  have LB := below_allocs V2 (.cells #[.int .u64 0, .int .u64 0, .int .u64 0, .int .u64 0] 26)
  have HK := Lib.hid (And.intro (H2.out.1.below LB) (And.intro (H2.out.2.1.below LB) (And.intro UZ (below_then H2.out.2.2.2 LB))))
  clear UZ LB H2
  generalize V2.alloc _ = V4 at HK ⊢
  have hm : w.heap.size ≤ w.heap.size := Nat.le_refl _
  have hn : w.heap.size ≤ w.heap.size + 1 := Nat.le_succ _
  have hz : w.heap.size ≤ w.heap.size + 1 + 1 := Nat.le_trans hn (Nat.le_succ _)
  have e1 : w.heap.size ≠ w.heap.size + 1 := by omega
  have e2 : w.heap.size + 1 + 1 ≠ w.heap.size := by omega
  have e3 : w.heap.size + 1 + 1 ≠ w.heap.size + 1 := by omega
  have HA := Lib.hid (And.intro hm (And.intro hn (And.intro hz (And.intro e1 (And.intro e2 e3)))))
  clear hm hn hz e1 e2 e3
  generalize w.heap.size + 1 + 1 = cz at HK HA ⊢
  generalize w.heap.size + 1 = cn at HK HA ⊢
  obtain ⟨cm, hcm⟩ : ∃ cm, cm = w.heap.size := ⟨_, rfl⟩
  have HA2 : Hid (w.heap.size ≤ cm ∧ w.heap.size ≤ cn ∧ w.heap.size ≤ cz ∧ cm ≠ cn ∧ cz ≠ cm ∧ cz ≠ cn) := Lib.hid (by rw [hcm]; exact HA.out)
  have HB0 := Lib.hid HK.out.2.2.2
  have HK : Hid (B4 V4 cm a0 a1 a2 a3 ∧ U2 V4 cn h0 l0 ∧ B4 V4 cz 0 0 0 0) := Lib.hid (by rw [hcm]; exact ⟨HK.out.1, HK.out.2.1, HK.out.2.2.1⟩)
  rw [← hcm]
  clear hcm HA
  refine wp_scope_jumps1 0 (JL w cm cn cz (.func (.func 15) #[] #[]) (.agg #[.int .u64 a0, .int .u64 a1, .int .u64 a2, .int .u64 a3]) (.agg #[.int .u64 h0, .int .u64 l0]) R) (jM cn) rfl ?_ ?_
  · clear HK HA2 I HB0
    rintro a w' ⟨n, b, p, m, h, l, m0, m1, m2, m3, p0, p1, p2, p3, u3, u8, u9, u10, u11, u12, u13, u14, u15, u16, u17, u18, u19, u20, u21, u22, u23, u24, u25, u26, u27, u28, u29, u30, rfl, hs, hp, hm, hw, hA, K⟩
    have WAY := S.out n p m h l m0 m1 m2 m3 p0 p1 p2 p3 hs hp hm hw
    have HP := Lib.hid hp
    have AP := Lib.hid hA
    have HM := Lib.hid (jM_is { tmps := #[(.func (.func 15) #[] #[]), (.agg #[.int .u64 a0, .int .u64 a1, .int .u64 a2, .int .u64 a3]), (.agg #[.int .u64 h0, .int .u64 l0]), u3, .pointer (some ⟨cm, 0, none⟩), .pointer (some ⟨cn, 0, none⟩), .pointer (some ⟨cz, 0, none⟩), .pointer (some ⟨b, 0, none⟩), u8, u9, u10, u11, u12, u13, u14, u15, u16, u17, u18, u19, u20, u21, u22, u23, u24, u25, u26, u27, u28, u29, u30], defers := [] } K.n hw)
    obtain ⟨W2, h2⟩ : ∃ x : World, x = w' := ⟨_, rfl⟩
    subst h2
    clear hs hp hm hw hA
    go_upto_region 2 with fail
    rcases WAY with ⟨rfl, rfl, HE⟩ | ⟨nz, rfl, rfl, rfl, rfl, HE⟩ | ⟨nz, no, B, m', k0, k1, k2, k3, T, n', h', l', G, st⟩ | ⟨nz, no, B, p', q0, q1, q2, q3, T0, m', k0, k1, k2, k3, T, n', h', l', G, st⟩
    · go_cut [16] (CutG W2 true)
      case first =>
        refine wp_region_class (fun w' => Below W2.heap.size W2 w') (by kernel_rfl) (by kernel_rfl) (Below.refl _ _).drew ?_
        iterate 4
          (refine WQ.yes ?_ (by rfl) (fun w' hC => ?_) ?_
           rotate_left
           · (obtain ⟨x1, x2, x3, x4⟩ := (K.m.below hC).cells
              obtain ⟨u1, u2⟩ := (K.n.below hC).cells
              go_simp
              first
                | done
                | with_reducible rfl
                | exact ⟨rfl, rfl⟩
                | (go_at_call 18; (with_reducible exact quietA4 (CO.out _) hC)))
           (try simp only [Act.put, List.setIfInBounds_toArray, List.set_cons_zero, List.set_cons_succ]))
        iterate 3
          (refine WQ.no (by rfl) ?_
           (try simp only [Act.put, List.setIfInBounds_toArray, List.set_cons_zero, List.set_cons_succ]))
        iterate 1
          (refine WQ.yes ?_ (by rfl) (fun w' hC => ?_) ?_
           rotate_left
           · (obtain ⟨x1, x2, x3, x4⟩ := (K.m.below hC).cells
              obtain ⟨u1, u2⟩ := (K.n.below hC).cells
              go_simp
              first
                | done
                | with_reducible rfl
                | exact ⟨rfl, rfl⟩
                | (go_at_call 18; (with_reducible exact quietA4 (CO.out _) hC)))
           (try simp only [Act.put, List.setIfInBounds_toArray, List.set_cons_zero, List.set_cons_succ]))
        refine WQ.nil ?_
        intro wz hX
        go_wp2
        go_meet
        exact CutG.of hX
      obtain ⟨rfl, hX⟩ := hcut
      replace K := K.next hX
      clear hX
      have HR := Lib.hid (B4.put (p' := p0) (q' := p1) (r' := p2) (s' := p3) K.z)
      have HB := Lib.hid (below_put4 (x := cz) (p' := p0) (q' := p1) (r' := p2) (s' := p3) K.below AP.out.lz)
      obtain ⟨x1, x2, x3, x4⟩ := K.p.cells
      obtain ⟨y1, y2, y3, y4⟩ := B4.cells K.z
      obtain ⟨f1, f2, f3, f4⟩ := B4.free K.z
      clear K AP CO S
      go_wp2_with fail
      generalize World.setCell (World.setCell (World.setCell (World.setCell wc _ _) _ _) _ _) _ _ = V9 at HR HB ⊢
      obtain ⟨r1, r2, r3, r4⟩ := HR.out.cells
      simp only [Exit.jump]
      refine bodyPost_ret (by simp [results, Try.results30, go_sem, r1, r2, r3, r4]; try rfl) rfl ?_
      exact ⟨p0, p1, p2, p3, by rw [← HE.out]; exact HP.out, rfl, HB.out⟩
    · go_cut [16] (CutG W2 true)
      case first =>
        rcases nz.out with ⟨e1, e2⟩ | ⟨rfl, e1, e2⟩
        all_goals
          refine wp_region_class (fun w' => Below W2.heap.size W2 w') (by kernel_rfl) (by kernel_rfl) (Below.refl _ _).drew ?_
          iterate 8
            (refine WQ.yes ?_ (by rfl) (fun w' hC => ?_) ?_
             rotate_left
             · (obtain ⟨x1, x2, x3, x4⟩ := (K.m.below hC).cells
                obtain ⟨u1, u2⟩ := (K.n.below hC).cells
                go_simp
                first
                  | done
                  | with_reducible rfl
                  | exact ⟨rfl, rfl⟩
                  | (go_at_call 18; (with_reducible exact quietA4 (CO.out _) hC)))
             (try simp only [Act.put, List.setIfInBounds_toArray, List.set_cons_zero, List.set_cons_succ]))
          refine WQ.nil ?_
          intro wz hX
          go_wp2
          go_meet
          exact CutG.of hX
      obtain ⟨rfl, hX⟩ := hcut
      replace K := K.next hX
      clear hX
      have HR := Lib.hid (B4.put (p' := p0) (q' := p1) (r' := p2) (s' := p3) K.z)
      have HB := Lib.hid (below_put4 (x := cz) (p' := p0) (q' := p1) (r' := p2) (s' := p3) K.below AP.out.lz)
      obtain ⟨x1, x2, x3, x4⟩ := K.p.cells
      obtain ⟨y1, y2, y3, y4⟩ := B4.cells K.z
      obtain ⟨f1, f2, f3, f4⟩ := B4.free K.z
      clear K AP CO S
      go_wp2_with fail
      generalize World.setCell (World.setCell (World.setCell (World.setCell wc _ _) _ _) _ _) _ _ = V9 at HR HB ⊢
      obtain ⟨r1, r2, r3, r4⟩ := HR.out.cells
      simp only [Exit.jump]
      refine bodyPost_ret (by simp [results, Try.results30, go_sem, r1, r2, r3, r4]; try rfl) rfl ?_
      exact ⟨p0, p1, p2, p3, by rw [← HE.out]; exact HP.out, rfl, HB.out⟩
    · go_cut [16] (CutG W2 false)
      case first =>
        rcases nz.out with ⟨e1, e2⟩ | ⟨rfl, e1, e2⟩
        all_goals
          rcases no.out with ⟨e3, e4⟩ | ⟨rfl, e3, e4⟩ | ⟨rfl, rfl, e3, e4⟩ | ⟨rfl, rfl, rfl, e3, e4⟩
          all_goals
            refine wp_region_class (fun w' => Below W2.heap.size W2 w') (by kernel_rfl) (by kernel_rfl) (Below.refl _ _).drew ?_
            iterate 8
              (refine WQ.yes ?_ (by rfl) (fun w' hC => ?_) ?_
               rotate_left
               · (obtain ⟨x1, x2, x3, x4⟩ := (K.m.below hC).cells
                  obtain ⟨u1, u2⟩ := (K.n.below hC).cells
                  go_simp
                  first
                    | done
                    | with_reducible rfl
                    | exact ⟨rfl, rfl⟩
                    | (go_at_call 18; (with_reducible exact quietA4 (CO.out _) hC)))
               (try simp only [Act.put, List.setIfInBounds_toArray, List.set_cons_zero, List.set_cons_succ]))
            refine WQ.nil ?_
            intro wz hX
            go_wp2
            go_meet
            exact CutG.of hX
      obtain ⟨rfl, hX⟩ := hcut
      replace K := K.next hX
      clear hX
      obtain ⟨x1, x2⟩ := K.n.cells
      go_wp2_with fail
      refine (B.out _).mono ?_
      rintro e W3 ⟨rfl, hb⟩
      clear x1 x2 B
      have K3 := Lib.hid (K.next hb)
      clear K hb
      obtain ⟨x1, x2, x3, x4⟩ := K3.out.m.cells
      go_wp2_with fail
      refine (T.out _).mono ?_
      rintro e W5 ⟨rfl, hb⟩
      clear x1 x2 x3 x4 T
      have K5 := Lib.hid (K3.out.next hb)
      clear K3 hb
      obtain ⟨x1, x2, x3, x4⟩ := K5.out.m.cells
      obtain ⟨f1, f2, f3, f4⟩ := K5.out.m.free
      have K6 := Lib.hid (K5.out.putm AP.out k0 k1 k2 k3)
      clear K5
      go_upto_region 7 with fail
      clear x1 x2 x3 x4 f1 f2 f3 f4
      generalize World.setCell (World.setCell (World.setCell (World.setCell W5 _ _) _ _) _ _) _ _ = V6 at K6 ⊢
      obtain ⟨x1, x2⟩ := K6.out.n.cells
      go_wp2_with fail
      refine (G.out _).mono ?_
      rintro e W7 ⟨rfl, hb⟩
      clear x1 x2 G
      have K7 := Lib.hid (K6.out.next hb)
      clear K6 hb
      obtain ⟨x1, x2⟩ := K7.out.n.cells
      obtain ⟨f1, f2⟩ := K7.out.n.free
      have K8 := Lib.hid (K7.out.putn AP.out h' l')
      clear K7
      go_wp2_with fail
      try go_step3
      refine ⟨rfl, ⟨n', b, _, m', h', l', k0, k1, k2, k3, _, _, _, _, _, _, _, _, _, _, _, _, _, _, _, _, _, _, _, _, _, _, _, _, _, _, _, _, rfl, st.out.1, HP.out, st.out.2.1, st.out.2.2.1, AP.out, K8.out⟩, ?_⟩
      rw [jM_is _ K8.out.n st.out.2.2.1, HM.out]
      exact st.out.2.2.2
    · go_cut [16] (CutG W2 false)
      case first =>
        rcases nz.out with ⟨e1, e2⟩ | ⟨rfl, e1, e2⟩
        all_goals
          rcases no.out with ⟨e3, e4⟩ | ⟨rfl, e3, e4⟩ | ⟨rfl, rfl, e3, e4⟩ | ⟨rfl, rfl, rfl, e3, e4⟩
          all_goals
            refine wp_region_class (fun w' => Below W2.heap.size W2 w') (by kernel_rfl) (by kernel_rfl) (Below.refl _ _).drew ?_
            iterate 8
              (refine WQ.yes ?_ (by rfl) (fun w' hC => ?_) ?_
               rotate_left
               · (obtain ⟨x1, x2, x3, x4⟩ := (K.m.below hC).cells
                  obtain ⟨u1, u2⟩ := (K.n.below hC).cells
                  go_simp
                  first
                    | done
                    | with_reducible rfl
                    | exact ⟨rfl, rfl⟩
                    | (go_at_call 18; (with_reducible exact quietA4 (CO.out _) hC)))
               (try simp only [Act.put, List.setIfInBounds_toArray, List.set_cons_zero, List.set_cons_succ]))
            refine WQ.nil ?_
            intro wz hX
            go_wp2
            go_meet
            exact CutG.of hX
      obtain ⟨rfl, hX⟩ := hcut
      replace K := K.next hX
      clear hX
      obtain ⟨x1, x2⟩ := K.n.cells
      go_wp2_with fail
      refine (B.out _).mono ?_
      rintro e W3 ⟨rfl, hb⟩
      clear x1 x2 B
      have K3 := Lib.hid (K.next hb)
      clear K hb
      obtain ⟨x1, x2, x3, x4⟩ := K3.out.p.cells
      obtain ⟨y1, y2, y3, y4⟩ := K3.out.m.cells
      go_wp2_with fail
      refine (T0.out _).mono ?_
      rintro e W4 ⟨rfl, hb⟩
      clear x1 x2 x3 x4 y1 y2 y3 y4 T0
      have K4 := Lib.hid (K3.out.next hb)
      clear K3 hb
      obtain ⟨x1, x2, x3, x4⟩ := K4.out.p.cells
      obtain ⟨f1, f2, f3, f4⟩ := K4.out.p.free
      have K4b := Lib.hid (K4.out.putp AP.out q0 q1 q2 q3)
      clear K4
      go_upto_region 6 with fail
      clear x1 x2 x3 x4 f1 f2 f3 f4
      generalize World.setCell (World.setCell (World.setCell (World.setCell W4 _ _) _ _) _ _) _ _ = V4 at K4b ⊢
      obtain ⟨x1, x2, x3, x4⟩ := K4b.out.m.cells
      go_wp2_with fail
      refine (T.out _).mono ?_
      rintro e W5 ⟨rfl, hb⟩
      clear x1 x2 x3 x4 T
      have K5 := Lib.hid (K4b.out.next hb)
      clear K4b hb
      obtain ⟨x1, x2, x3, x4⟩ := K5.out.m.cells
      obtain ⟨f1, f2, f3, f4⟩ := K5.out.m.free
      have K6 := Lib.hid (K5.out.putm AP.out k0 k1 k2 k3)
      clear K5
      go_upto_region 7 with fail
      clear x1 x2 x3 x4 f1 f2 f3 f4
      generalize World.setCell (World.setCell (World.setCell (World.setCell W5 _ _) _ _) _ _) _ _ = V6 at K6 ⊢
      obtain ⟨x1, x2⟩ := K6.out.n.cells
      go_wp2_with fail
      refine (G.out _).mono ?_
      rintro e W7 ⟨rfl, hb⟩
      clear x1 x2 G
      have K7 := Lib.hid (K6.out.next hb)
      clear K6 hb
      obtain ⟨x1, x2⟩ := K7.out.n.cells
      obtain ⟨f1, f2⟩ := K7.out.n.free
      have K8 := Lib.hid (K7.out.putn AP.out h' l')
      clear K7
      go_wp2_with fail
      try go_step3
      refine ⟨rfl, ⟨n', b, _, m', h', l', k0, k1, k2, k3, _, _, _, _, _, _, _, _, _, _, _, _, _, _, _, _, _, _, _, _, _, _, _, _, _, _, _, _, rfl, st.out.1, st.out.2.2.2.2, st.out.2.1, st.out.2.2.1, AP.out, K8.out⟩, ?_⟩
      rw [jM_is _ K8.out.n st.out.2.2.1, HM.out]
      exact st.out.2.2.2.1
  · intro body
    clear S
    have BODY := Lib.hid body
    clear body
    go_wp2_with fail
    refine (CO.out _).mono ?_
    rintro e V5 ⟨rfl, hb⟩
    have NB := B4.new V5 0 1 0 0
    have hX := below_then hb (below_allocs V5 (.cells #[.int .u64 0, .int .u64 1, .int .u64 0, .int .u64 0] 26))
    have nb : ∀ c : Nat, c < V4.heap.size → c ≠ V5.heap.size := fun c hc => Nat.ne_of_lt (Nat.lt_of_lt_of_le hc hb.size)
    have HF := Lib.hid (And.intro (HK.out.1.below hX) (And.intro (HK.out.2.1.below hX) (And.intro (B4.below HK.out.2.2 hX) (And.intro NB (below_then HB0.out hX)))))
    have HA := Lib.hid (Apart.mk HA2.out.1 HA2.out.2.1 HA2.out.2.2.1 (Nat.le_trans HB0.out.size hb.size) HA2.out.2.2.2.1 (nb _ HK.out.1.lt) (nb _ HK.out.2.1.lt) HA2.out.2.2.2.2.1 HA2.out.2.2.2.2.2 (nb _ (B4.lt HK.out.2.2)))
    clear NB hX nb HK HA2 CO hb HB0
    go_wp2_with fail
    go_step3
    simp only [Exit.then]
    apply_assumption
    exact BODY.out _ _ ⟨n0, V5.heap.size, Mp.one, m00, h0, l0, a0, a1, a2, a3, 0, 1, 0, 0, _, _, _, _, _, _, _, _, _, _, _, _, _, _, _, _, _, _, _, _, _, _, _, _, rfl, I.out.1, I.out.2.1, I.out.2.2.1, I.out.2.2.2, HA.out, ⟨HF.out.1, HF.out.2.1, HF.out.2.2.1, HF.out.2.2.2.1, HF.out.2.2.2.2⟩⟩
theorem nz_of {h l : Int} (e : ¬ (h = 0 ∧ l = 0)) : Nz h l := by
  by_cases a : h = 0
  · exact Or.inr ⟨a, by simp; exact fun b => e ⟨a, b⟩, eq_false fun b => e ⟨a, b⟩⟩
  · exact Or.inl ⟨by simpa using a, eq_false a⟩
theorem no1_of {a b c d : Int} (e : ¬ (a = 0 ∧ b = 1 ∧ c = 0 ∧ d = 0)) : No1 a b c d := by
  by_cases h1 : a = 0
  · by_cases h2 : b = 1
    · by_cases h3 : c = 0
      · have h4 : ¬ d = 0 := fun x => e ⟨h1, h2, h3, x⟩
        exact Or.inr (Or.inr (Or.inr ⟨h1, h2, h3, by simpa using h4, eq_false h4⟩))
      · exact Or.inr (Or.inr (Or.inl ⟨h1, h2, by simpa using h3, eq_false h3⟩))
    · exact Or.inr (Or.inl ⟨h1, by simpa using h2, eq_false h2⟩)
  · exact Or.inl ⟨by simpa using h1, eq_false h1⟩
theorem wn_zero {h l : Int} {n : Nat} (i : Wn h l n) (e : h = 0 ∧ l = 0) : n = 0 := by
  have := i.eq
  omega
theorem wn_nz {h l : Int} {n : Nat} (i : Wn h l n) (e : ¬ (h = 0 ∧ l = 0)) : n / 2 < n := by
  have := i.eq
  have := i.h0
  have := i.l0
  omega
theorem ws_one {m : Mp} {a b c d : Int} (k : Ws m a b c d) (e : a = 0 ∧ b = 1 ∧ c = 0 ∧ d = 0) : m = Mp.one := by
  obtain ⟨e1, e2, e3, e4⟩ := e
  obtain ⟨k1, k2, k3, k4⟩ := k
  unfold hiW at k1 k3
  unfold loW at k2 k4
  refine Mp.same ?_ ?_
  · show m.A = 1
    omega
  · show m.C = 0
    omega
theorem tm_then {p m : Mp} {p0 p1 p2 p3 m0 m1 m2 m3 : Int} (hp : p.Ok) (hm : m.Ok) (wp : Ws p p0 p1 p2 p3) (wm : Ws m m0 m1 m2 m3) : TM 15 #[.agg #[.int .u64 p0, .int .u64 p1, .int .u64 p2, .int .u64 p3], .agg #[.int .u64 m0, .int .u64 m1, .int .u64 m2, .int .u64 m3]]
    ((hiW (thenM p m).A : Nat) : Int) ((loW (thenM p m).A : Nat) : Int) ((hiW (thenM p m).C : Nat) : Int) ((loW (thenM p m).C : Nat) : Int) := fun V => by
  obtain ⟨rfl, rfl, rfl, rfl⟩ := wp
  obtain ⟨rfl, rfl, rfl, rfl⟩ := wm
  exact xThenM p m V hp hm
theorem pway {R : Mp} {n : Nat} {p m : Mp} {h l m0 m1 m2 m3 p0 p1 p2 p3 : Int} (s : PSt R n p m) (wp : Ws p p0 p1 p2 p3) (wm : Ws m m0 m1 m2 m3) (i : Wn h l n) : PWay R n p m h l m0 m1 m2 m3 p0 p1 p2 p3 := by
  have is := s.is
  by_cases z : h = 0 ∧ l = 0
  · refine .zero z.1 z.2 (Lib.hid ?_)
    rw [wn_zero i z, pow_zero, then_one s.okp] at is
    exact is
  · by_cases o : m0 = 0 ∧ m1 = 1 ∧ m2 = 0 ∧ m3 = 0
    · refine .one (Lib.hid (nz_of z)) o.1 o.2.1 o.2.2.1 o.2.2.2 (Lib.hid ?_)
      rw [ws_one wm o, pow_one_any, then_one s.okp] at is
      exact is
    · have lt := wn_nz i z
      have wh : n / 2 < 340282366920938463463374607431768211456 := Nat.lt_of_le_of_lt (Nat.div_le_self _ _) i.lt
      rw [pow_half s.okm n] at is
      by_cases b : n % 2 = 1
      · rw [if_pos b, ← then_assoc] at is
        exact .odd (Lib.hid (nz_of z)) (Lib.hid (no1_of o)) (Lib.hid fun V => cBit0 i 1 (by omega) V) (thenM p m) _ _ _ _ (Lib.hid (tm_then s.okp s.okm wp wm)) (thenM m m) _ _ _ _ (Lib.hid (tm_then s.okm s.okm wm wm)) (n / 2) _ _ (Lib.hid fun V => cRight1 i V) (Lib.hid ⟨⟨thenM_ok _ _, thenM_ok _ _, is⟩, Ws.of _, wn_of wh, lt, Ws.of _⟩)
      · rw [if_neg b, one_then (powM_ok _ _)] at is
        exact .even (Lib.hid (nz_of z)) (Lib.hid (no1_of o)) (Lib.hid fun V => cBit0 i 0 (by omega) V) (thenM m m) _ _ _ _ (Lib.hid (tm_then s.okm s.okm wm wm)) (n / 2) _ _ (Lib.hid fun V => cRight1 i V) (Lib.hid ⟨⟨s.okp, thenM_ok _ _, is⟩, Ws.of _, wn_of wh, lt⟩)
theorem xPowerBy (m : Mp) (h l : Int) (n : Nat) (W : World) (hm : m.Ok) (i : Wn h l n) : Calls Try.prog 30 #[(.func (.func 15) #[] #[]), m.val, .agg #[.int .u64 h, .int .u64 l]] W (AnsM (powM m n) W) := by
  refine (pbMain _ _ _ _ h l (powM m n) n m W (Lib.hid xOne) (Lib.hid fun n p m h l m0 m1 m2 m3 p0 p1 p2 p3 a b c d => pway a b c d) (Lib.hid ⟨⟨Mp.Ok.one, hm, one_then (powM_ok _ _)⟩, ⟨rfl, rfl, rfl, rfl⟩, Ws.of m, i⟩)).mono ?_
  rintro e w' ⟨p0, p1, p2, p3, ⟨rfl, rfl, rfl, rfl⟩, rfl, hb⟩
  exact ⟨rfl, hb⟩
set_option maxHeartbeats 4000000 in
theorem powMain (a0 a1 a2 a3 h l p0 p1 p2 p3 : Int) (w : World)
    (C : Hid (TM 30 #[(.func (.func 15) #[] #[]), .agg #[.int .u64 a0, .int .u64 a1, .int .u64 a2, .int .u64 a3], .agg #[.int .u64 h, .int .u64 l]] p0 p1 p2 p3)) :
    Calls Try.prog 16 #[.agg #[.int .u64 a0, .int .u64 a1, .int .u64 a2, .int .u64 a3], .agg #[.int .u64 h, .int .u64 l]] w (fun e w' => e = .returned (.agg #[.int .u64 p0, .int .u64 p1, .int .u64 p2, .int .u64 p3]) ∧ Below w.heap.size w w') := by
  have U := B4.new w a0 a1 a2 a3
  have z1 : (w.alloc (.cells #[.int .u64 a0, .int .u64 a1, .int .u64 a2, .int .u64 a3] 26)).heap.size = w.heap.size + 1 := Array.size_push _
  have LW := below_allocs w (.cells #[.int .u64 a0, .int .u64 a1, .int .u64 a2, .int .u64 a3] 26)
  have H1 := Lib.hid (And.intro U (And.intro z1 LW))
  clear U z1 LW
  go_enter Try.func16, Try.ntmps16
  go_upto_region 1 with fail
  generalize w.alloc _ = V1 at H1 ⊢
  have UX := U2.new V1 h l
  have z2 : (V1.alloc (.cells #[.int .u64 h, .int .u64 l] 24)).heap.size = w.heap.size + 1 + 1 := (Array.size_push _).trans (by rw [H1.out.2.1])
  rw [H1.out.2.1] at UX
  have LB := below_allocs V1 (.cells #[.int .u64 h, .int .u64 l] 24)
  have H2 := Lib.hid (And.intro (H1.out.1.below LB) (And.intro UX (And.intro z2 (below_then H1.out.2.2 LB))))
  clear UX z2 LB H1
  generalize V1.alloc _ = V2 at H2 ⊢
  have UZ := B4.new V2 0 0 0 0
  rw [H2.out.2.2.1] at UZ
  have LB := below_allocs V2 (.cells #[.int .u64 0, .int .u64 0, .int .u64 0, .int .u64 0] 26)
  have HK := Lib.hid (And.intro (H2.out.1.below LB) (And.intro (H2.out.2.1.below LB) (And.intro UZ (below_then H2.out.2.2.2 LB))))
  clear UZ LB H2
  generalize V2.alloc _ = V4 at HK ⊢
  have hz : w.heap.size ≤ w.heap.size + 1 + 1 := Nat.le_trans (Nat.le_succ _) (Nat.le_succ _)
  generalize w.heap.size + 1 + 1 = cz at HK hz ⊢
  generalize w.heap.size + 1 = cn at HK ⊢
  obtain ⟨x1, x2, x3, x4⟩ := HK.out.1.cells
  obtain ⟨y1, y2⟩ := HK.out.2.1.cells
  go_wp2_with fail
  clear x1 x2 x3 x4 y1 y2
  refine (C.out _).mono ?_
  rintro e V5 ⟨rfl, hb⟩
  have Z := B4.below HK.out.2.2.1 hb
  have HR := Lib.hid (B4.put (p' := p0) (q' := p1) (r' := p2) (s' := p3) Z)
  have HB := Lib.hid (below_put4 (x := cz) (p' := p0) (q' := p1) (r' := p2) (s' := p3) (below_then HK.out.2.2.2 hb) hz)
  obtain ⟨y1, y2, y3, y4⟩ := B4.cells Z
  obtain ⟨f1, f2, f3, f4⟩ := B4.free Z
  clear HK Z hb C
  go_wp2_with fail
  generalize World.setCell (World.setCell (World.setCell (World.setCell V5 _ _) _ _) _ _) _ _ = V9 at HR HB ⊢
  obtain ⟨r1, r2, r3, r4⟩ := HR.out.cells
  try simp only [Exit.inBlock, Exit.then, Exit.noGoto]
  refine bodyPost_ret (by simp [results, Try.results16, go_sem, r1, r2, r3, r4]; try rfl) rfl ?_
  exact ⟨rfl, HB.out⟩
theorem xPowM (m : Mp) (h l : Int) (n : Nat) (W : World) (hm : m.Ok) (i : Wn h l n) : Calls Try.prog 16 #[m.val, .agg #[.int .u64 h, .int .u64 l]] W (AnsM (powM m n) W) :=
  powMain _ _ _ _ h l _ _ _ _ W (Lib.hid fun V => xPowerBy m h l n V hm i)
end Go.Proofs.Ytfnfjfmkhnofkaa
/-
  What the calls of package affine answer, of the landed program; and that what the statements call awakes nothing.
-/
namespace Go.Proofs.Ytfnfjfmkhnofkaa
open Go.RowKit G
set_option linter.unusedVariables false

theorem ax : AX where
  one := xOne
  at_ := fun m h l x W hm i => xAtM m h l x W hm i
  thn := fun m n W hm hn => xThenM m n W hm hn
  pow := fun m h l n W hm i => xPowM m h l n W hm i
  invY := fun m W hm h => xInvY m W hm h
  invN := fun m W hm h => xInvN m W hm h
  oddY := fun h l n W i hn => xOddY h l n W i hn
  oddN := fun h l n W i hn => xOddN h l n W i hn
theorem awake9h : Hid (∀ W : World, Calls Try.prog 7 #[] W (Bl true W)) := Lib.hid fun W => awake9 ax W
end Go.Proofs.Ytfnfjfmkhnofkaa
