/-
  At of package affine: a product and a sum.
-/
import Derived.Test.YthnmekieanndgaaAffR
import Derived.Test.YthnmekieanndgaaAffA
namespace Go.Proofs.Ythnmekieanndgaa
open Go.RowKit G
set_option linter.unusedVariables false
set_option maxRecDepth 100000

/-- A block of two words in memory: a number. -/
def U2 (w : World) (b : Nat) (p q : Int) : Prop := w.heap[b]? = some (.cells #[.int .u64 p, .int .u64 q] 24 (0, 0))
section
variable {w w' : World} {b x : Nat} {p q p' q' : Int}
theorem U2.lt (h : U2 w b p q) : b < w.heap.size := (Array.getElem?_eq_some_iff.1 h).1
theorem U2.below (h : U2 w b p q) (hb : Below w.heap.size w w') : U2 w' b p q := (hb.block b h.lt).trans h
theorem U2.new (w : World) (p q : Int) : U2 (w.alloc (.cells #[.int .u64 p, .int .u64 q] 24)) w.heap.size p q := show (w.heap.push _)[w.heap.size]? = some _ by simp
theorem U2.cells (h : U2 w b p q) : w.cell? ⟨b, 0, none⟩ = some (.int .u64 p) ∧ w.cell? ⟨b, 1, none⟩ = some (.int .u64 q) := by
  unfold U2 at h
  refine ⟨?_, ?_⟩ <;> simp [World.cell?, h]
theorem U2.free (h : U2 w b p q) : w.frozen? ⟨b, 0, none⟩ = false ∧ w.frozen? ⟨b, 1, none⟩ = false := by
  unfold U2 at h
  refine ⟨?_, ?_⟩ <;> simp [World.frozen?, h]
theorem U2.far (h : U2 w b p q) {a : Addr} (hne : b ≠ a.block) (u : Value) : U2 (w.setCell a u) b p q := (Below.heap_setCell w a u b hne).trans h
theorem U2.far2 (h : U2 w b p q) (hne : b ≠ x) (u v : Value) : U2 ((w.setCell ⟨x, 0, none⟩ u).setCell ⟨x, 1, none⟩ v) b p q := (h.far hne _).far hne _
theorem U2.at (h : U2 w b p q) (i : Nat) (v : Value) : (w.setCell ⟨b, i, none⟩ v).heap[b]? = some (.cells ((#[.int .u64 p, .int .u64 q] : Array Value).setIfInBounds i v) 24 (0, 0)) := by
  unfold U2 at h
  simp [World.setCell, Array.getElem?_modify, h]
theorem U2.set0 (h : U2 w b p q) (x : Int) : U2 (w.setCell ⟨b, 0, none⟩ (.int .u64 x)) b x q := (h.at 0 _).trans rfl
theorem U2.set1 (h : U2 w b p q) (x : Int) : U2 (w.setCell ⟨b, 1, none⟩ (.int .u64 x)) b p x := (h.at 1 _).trans rfl
theorem U2.put (h : U2 w x p q) : U2 ((w.setCell ⟨x, 0, none⟩ (.int .u64 p')).setCell ⟨x, 1, none⟩ (.int .u64 q')) x p' q' := (h.set0 p').set1 q'
theorem below_putU2 {B : Nat} {a : World} (h : Below B a w) (hb : B ≤ x) (u v : Value) : Below B a ((w.setCell ⟨x, 0, none⟩ u).setCell ⟨x, 1, none⟩ v) := (h.setCell hb _).setCell hb _
end
theorem u2_early {w v : World} (hb : Below (w.alloc (.cells #[.int .u64 0, .int .u64 0] 24)).heap.size (w.alloc (.cells #[.int .u64 0, .int .u64 0] 24)) v) : U2 v w.heap.size 0 0 := U2.below (U2.new w 0 0) hb
/-- Behind a region that lays one number. -/
def CutU (W0 : World) (h l : Int) (p : Value) (wr : World) : Prop := ∃ b, p = .pointer (some ⟨b, 0, none⟩) ∧ U2 wr b h l ∧ Below W0.heap.size W0 wr
theorem CutU.of {W0 x : World} {h l : Int} (hb : Below W0.heap.size W0 x) : CutU W0 h l (.pointer (some ⟨x.heap.size, 0, none⟩)) (x.alloc (.cells #[.int .u64 h, .int .u64 l] 24)) := ⟨_, rfl, U2.new x h l, below_alloc hb _⟩
theorem CutU.early {W0 x : World} {b : Nat} {h l : Int} (hb : Below W0.heap.size W0 x) (le : W0.heap.size ≤ b) (z : U2 x b 0 0) : CutU W0 h l (.pointer (some ⟨b, 0, none⟩)) ((x.setCell ⟨b, 0, none⟩ (.int .u64 h)).setCell ⟨b, 1, none⟩ (.int .u64 l)) := ⟨_, rfl, U2.put z, below_putU2 hb le _ _⟩
set_option maxHeartbeats 4000000 in
theorem xatMain (a0 a1 c0 c1 h l p0 p1 s0 s1 : Int) (o : Bool)
    (M : Hid (TN 34 #[.agg #[.int .u64 a0, .int .u64 a1], .agg #[.int .u64 h, .int .u64 l]] p0 p1))
    (D : Hid (TNB 25 #[.agg #[.int .u64 p0, .int .u64 p1], .agg #[.int .u64 c0, .int .u64 c1]] s0 s1 o)) :
    TN 23 #[.agg #[.int .u64 a0, .int .u64 a1, .int .u64 c0, .int .u64 c1], .agg #[.int .u64 h, .int .u64 l]] s0 s1 := fun w => by
  have U := B4.new w a0 a1 c0 c1
  have z1 : (w.alloc (.cells #[.int .u64 a0, .int .u64 a1, .int .u64 c0, .int .u64 c1] 55)).heap.size = w.heap.size + 1 := Array.size_push _
  have L := below_alloc (Below.refl w.heap.size w) (.cells #[.int .u64 a0, .int .u64 a1, .int .u64 c0, .int .u64 c1] 55)
  have H1 := Lib.hid (And.intro U (And.intro z1 L))
  clear U z1 L
  go_enter Try.func23, Try.ntmps23
  go_upto_region 1 with fail
  generalize w.alloc _ = V1 at H1 ⊢
  have UX := U2.new V1 h l
  have z2 : (V1.alloc (.cells #[.int .u64 h, .int .u64 l] 24)).heap.size = w.heap.size + 1 + 1 := (Array.size_push _).trans (by rw [H1.out.2.1])
  rw [H1.out.2.1] at UX
  have LB := below_allocs V1 (.cells #[.int .u64 h, .int .u64 l] 24)
  have H2 := Lib.hid (And.intro (H1.out.1.below LB) (And.intro UX (And.intro z2 (below_then H1.out.2.2 LB))))
  clear UX z2 LB H1
  generalize V1.alloc _ = V2 at H2 ⊢
  have UZ := U2.new V2 0 0
  rw [H2.out.2.2.1] at UZ
  have LB := below_allocs V2 (.cells #[.int .u64 0, .int .u64 0] 24)
  have HK := Lib.hid (And.intro (H2.out.1.below LB) (And.intro (H2.out.2.1.below LB) (And.intro UZ (below_then H2.out.2.2.2 LB))))
  clear UZ LB H2
  generalize V2.alloc _ = V4 at HK ⊢
  have hc : w.heap.size ≤ w.heap.size + 1 := Nat.le_succ _
  generalize w.heap.size + 1 = cx at HK hc ⊢
  go_cut [5] (CutU V4 s0 s1)
  case first =>
    have hX : Below V4.heap.size V4 V4 := Below.refl _ _
    obtain ⟨f1, f2, f3, f4⟩ := HK.out.1.cells
    obtain ⟨f5, f6⟩ := HK.out.2.1.cells
    have l1 : w.heap.size < V4.heap.size := HK.out.1.lt
    have l2 : cx < V4.heap.size := HK.out.2.1.lt
    go_region_held3 (fun w' => w'.cell? ⟨w.heap.size, 0, none⟩ = some (.int .u64 a0) ∧ w'.cell? ⟨w.heap.size, 1, none⟩ = some (.int .u64 a1) ∧ w'.cell? ⟨w.heap.size, 2, none⟩ = some (.int .u64 c0) ∧ w'.cell? ⟨w.heap.size, 3, none⟩ = some (.int .u64 c1) ∧ w'.cell? ⟨cx, 0, none⟩ = some (.int .u64 h) ∧ w'.cell? ⟨cx, 1, none⟩ = some (.int .u64 l)) (go_keep) (first
      | (go_at_call 34; (with_reducible refine (M.out _).mono ?_); rintro e x1 ⟨rfl, hb⟩; (first | (have za : U2 x1 V4.heap.size 0 0 := u2_early (w := World.drew V4) hb; obtain ⟨za0, za1⟩ := U2.cells za; obtain ⟨za2, za3⟩ := U2.free za; have za4 := U2.lt za) | skip); replace hX := below_then (show Below V4.heap.size V4 _ by first | exact hX | exact hX.drew | exact hX.alloc hX.size _ | exact hX.drew.alloc hX.drew.size _) hb; clear hb; have sx1 : V4.heap.size ≤ x1.heap.size := hX.size; have d1 : w.heap.size ≠ V4.heap.size := Nat.ne_of_lt l1; have d2 : V4.heap.size ≠ w.heap.size := Nat.ne_of_gt l1; have d3 : cx ≠ V4.heap.size := Nat.ne_of_lt l2; have d4 : V4.heap.size ≠ cx := Nat.ne_of_gt l2; clear f1 f2 f3 f4 f5 f6 l1 l2; obtain ⟨f1, f2, f3, f4⟩ := (HK.out.1.below hX).cells; obtain ⟨f5, f6⟩ := (HK.out.2.1.below hX).cells; have l1 : w.heap.size < x1.heap.size := (HK.out.1.below hX).lt; have l2 : cx < x1.heap.size := (HK.out.2.1.below hX).lt)
      | (go_at_call 25; (with_reducible refine (D.out _).mono ?_); rintro e x2 ⟨rfl, hb⟩; (first | (have zc : U2 x2 x1.heap.size 0 0 := u2_early (w := x1) hb; obtain ⟨zc0, zc1⟩ := U2.cells zc; obtain ⟨zc2, zc3⟩ := U2.free zc; have zc4 := U2.lt zc) | skip); (first | (replace za := U2.below za (below_then (by first | exact Below.refl _ _ | exact below_allocs _ _) hb); obtain ⟨ya0, ya1⟩ := U2.cells za; obtain ⟨ya2, ya3⟩ := U2.free za; have ya4 := U2.lt za) | skip); replace hX := below_then (show Below V4.heap.size V4 _ by first | exact hX | exact hX.drew | exact hX.alloc hX.size _ | exact hX.drew.alloc hX.drew.size _) hb; clear hb; have d5 : w.heap.size ≠ x1.heap.size := Nat.ne_of_lt l1; have d6 : x1.heap.size ≠ w.heap.size := Nat.ne_of_gt l1; have d7 : cx ≠ x1.heap.size := Nat.ne_of_lt l2; have d8 : x1.heap.size ≠ cx := Nat.ne_of_gt l2; clear f1 f2 f3 f4 f5 f6 l1 l2; obtain ⟨f1, f2, f3, f4⟩ := (HK.out.1.below hX).cells; obtain ⟨f5, f6⟩ := (HK.out.2.1.below hX).cells; have l1 : w.heap.size < x2.heap.size := (HK.out.1.below hX).lt; have l2 : cx < x2.heap.size := (HK.out.2.1.below hX).lt; have d9 : w.heap.size ≠ x2.heap.size := Nat.ne_of_lt l1; have d10 : cx ≠ x2.heap.size := Nat.ne_of_lt l2))
    all_goals
      go_wp2_with fail
      go_meet
      first
        | with_reducible exact CutU.of hX
        | with_reducible exact CutU.early hX (Nat.le_refl _) za
        | with_reducible exact CutU.early hX sx1 zc
  obtain ⟨b, rfl, N, hX⟩ := hcut
  have hU := HK.out.2.2.1.below hX
  have HR := Lib.hid (U2.put (p' := s0) (q' := s1) hU)
  have HB : Hid (Below w.heap.size w ((wc.setCell ⟨cx + 1, 0, none⟩ (.int .u64 s0)).setCell ⟨cx + 1, 1, none⟩ (.int .u64 s1))) := Lib.hid (below_putU2 (below_then HK.out.2.2.2 hX) (Nat.le_trans hc (Nat.le_succ _)) _ _)
  obtain ⟨n1, n2⟩ := N.cells
  obtain ⟨z1, z2⟩ := hU.cells
  obtain ⟨f1, f2⟩ := hU.free
  clear HK M D hU N hX
  go_wp2_with fail
  generalize World.setCell (World.setCell wc _ _) _ _ = V5 at HR HB ⊢
  obtain ⟨r1, r2⟩ := HR.out.cells
  try simp only [Exit.inBlock, Exit.then, Exit.noGoto]
  refine bodyPost_ret (by simp [results, Try.results23, go_sem, r1, r2]; try rfl) rfl ?_
  exact ⟨rfl, HB.out⟩
theorem xAtM (m : Mp) (h l : Int) (x : Nat) (W : World) (hm : m.Ok) (i : Wn h l x) : Calls Try.prog 23 #[m.val, .agg #[.int .u64 h, .int .u64 l]] W (AnsW (atM m x) W) := by
  have D := fun W => cAdd128 (wn_of (N := m.A * x % Q) (Nat.mod_lt _ (by decide))) (wn_of hm.c) W
  rw [Nat.mod_add_mod] at D
  exact xatMain _ _ _ _ _ _ _ _ _ _ _ (Lib.hid fun W => cMul128 (wn_of hm.a) i W) (Lib.hid D) W
end Go.Proofs.Ythnmekieanndgaa
