/-
  The walk of AffinePowers, from what affine's calls answer.
-/
import Derived.Test.YtfnfjfmkhnofkaaAffJ
import Derived.Deep.LoopGhost
import Derived.Deep.RegionWith
namespace Go.Proofs.Ytfnfjfmkhnofkaa
open Go.RowKit G
set_option linter.unusedVariables false
set_option maxRecDepth 100000

/-- Behind a region that tells a bool. -/
def CutG (W0 : World) (b : Bool) (v : Value) (wr : World) : Prop := v = .bool b ∧ Below W0.heap.size W0 wr
theorem CutG.of {W0 wr : World} {b : Bool} (h : Below W0.heap.size W0 wr) : CutG W0 b (.bool b) wr := ⟨rfl, h⟩
/-- Behind a region that lays two maps. -/
def Cut2 (W0 : World) (a0 a1 a2 a3 b0 b1 b2 b3 : Int) (p q : Value) (wr : World) : Prop :=
  ∃ x y : Nat, p = .pointer (some ⟨x, 0, none⟩) ∧ q = .pointer (some ⟨y, 0, none⟩) ∧ F4 wr x a0 a1 a2 a3 ∧ F4 wr y b0 b1 b2 b3 ∧ Below W0.heap.size W0 wr
/-- A block of four words in memory. -/
def B4 (w : World) (b : Nat) (p q r s : Int) : Prop := w.heap[b]? = some (.cells #[.int .u64 p, .int .u64 q, .int .u64 r, .int .u64 s] 26 (0, 0))
section
variable {w w' : World} {b x : Nat} {p q r s p' q' r' s' : Int}
theorem B4.lt (h : B4 w b p q r s) : b < w.heap.size := (Array.getElem?_eq_some_iff.1 h).1
theorem B4.below (h : B4 w b p q r s) (hb : Below w.heap.size w w') : B4 w' b p q r s := (hb.block b h.lt).trans h
theorem B4.new (w : World) (p q r s : Int) : B4 (w.alloc (.cells #[.int .u64 p, .int .u64 q, .int .u64 r, .int .u64 s] 26)) w.heap.size p q r s := show (w.heap.push _)[w.heap.size]? = some _ by simp
theorem B4.f4 (h : B4 w b p q r s) : F4 w b p q r s := f4_of_block h
theorem B4.cells (h : B4 w b p q r s) : w.cell? ⟨b, 0, none⟩ = some (.int .u64 p) ∧ w.cell? ⟨b, 1, none⟩ = some (.int .u64 q) ∧ w.cell? ⟨b, 2, none⟩ = some (.int .u64 r) ∧ w.cell? ⟨b, 3, none⟩ = some (.int .u64 s) := ⟨h.f4.c0, h.f4.c1, h.f4.c2, h.f4.c3⟩
theorem B4.free (h : B4 w b p q r s) : w.frozen? ⟨b, 0, none⟩ = false ∧ w.frozen? ⟨b, 1, none⟩ = false ∧ w.frozen? ⟨b, 2, none⟩ = false ∧ w.frozen? ⟨b, 3, none⟩ = false := by
  unfold B4 at h
  refine ⟨?_, ?_, ?_, ?_⟩ <;> simp [World.frozen?, h]
theorem B4.far (h : B4 w b p q r s) {a : Addr} (hne : b ≠ a.block) (u : Value) : B4 (w.setCell a u) b p q r s := (Below.heap_setCell w a u b hne).trans h
theorem B4.far4 (h : B4 w b p q r s) (hne : b ≠ x) : B4 ((((w.setCell ⟨x, 0, none⟩ (.int .u64 p')).setCell ⟨x, 1, none⟩ (.int .u64 q')).setCell ⟨x, 2, none⟩ (.int .u64 r')).setCell ⟨x, 3, none⟩ (.int .u64 s')) b p q r s := (((h.far hne _).far hne _).far hne _).far hne _
theorem B4.at (h : B4 w b p q r s) (i : Nat) (v : Value) : (w.setCell ⟨b, i, none⟩ v).heap[b]? = some (.cells ((#[.int .u64 p, .int .u64 q, .int .u64 r, .int .u64 s] : Array Value).setIfInBounds i v) 26 (0, 0)) := by
  unfold B4 at h
  simp [World.setCell, Array.getElem?_modify, h]
theorem B4.set0 (h : B4 w b p q r s) (x : Int) : B4 (w.setCell ⟨b, 0, none⟩ (.int .u64 x)) b x q r s := (h.at 0 _).trans rfl
theorem B4.set1 (h : B4 w b p q r s) (x : Int) : B4 (w.setCell ⟨b, 1, none⟩ (.int .u64 x)) b p x r s := (h.at 1 _).trans rfl
theorem B4.set2 (h : B4 w b p q r s) (x : Int) : B4 (w.setCell ⟨b, 2, none⟩ (.int .u64 x)) b p q x s := (h.at 2 _).trans rfl
theorem B4.set3 (h : B4 w b p q r s) (x : Int) : B4 (w.setCell ⟨b, 3, none⟩ (.int .u64 x)) b p q r x := (h.at 3 _).trans rfl
theorem B4.put (h : B4 w x p q r s) : B4 ((((w.setCell ⟨x, 0, none⟩ (.int .u64 p')).setCell ⟨x, 1, none⟩ (.int .u64 q')).setCell ⟨x, 2, none⟩ (.int .u64 r')).setCell ⟨x, 3, none⟩ (.int .u64 s')) x p' q' r' s' := (((h.set0 p').set1 q').set2 r').set3 s'
theorem below_put4 {B : Nat} {a : World} (h : Below B a w) (hb : B ≤ x) : Below B a ((((w.setCell ⟨x, 0, none⟩ (.int .u64 p')).setCell ⟨x, 1, none⟩ (.int .u64 q')).setCell ⟨x, 2, none⟩ (.int .u64 r')).setCell ⟨x, 3, none⟩ (.int .u64 s')) := (((h.setCell hb _).setCell hb _).setCell hb _).setCell hb _
end
abbrev ZB (w : World) (b : Nat) : Prop := B4 w b 0 0 0 0
theorem ZB.new (w : World) : ZB (w.alloc (.cells #[.int .u64 0, .int .u64 0, .int .u64 0, .int .u64 0] 26)) w.heap.size := B4.new w 0 0 0 0
/-- One or two new maps ahead of a call. -/
theorem zb_early {w v : World} (hb : Below (w.alloc (.cells #[.int .u64 0, .int .u64 0, .int .u64 0, .int .u64 0] 26)).heap.size (w.alloc (.cells #[.int .u64 0, .int .u64 0, .int .u64 0, .int .u64 0] 26)) v) : ZB v w.heap.size := B4.below (ZB.new w) hb
theorem zb_early2 {w v : World} (hb : Below ((w.alloc (.cells #[.int .u64 0, .int .u64 0, .int .u64 0, .int .u64 0] 26)).alloc (.cells #[.int .u64 0, .int .u64 0, .int .u64 0, .int .u64 0] 26)).heap.size ((w.alloc (.cells #[.int .u64 0, .int .u64 0, .int .u64 0, .int .u64 0] 26)).alloc (.cells #[.int .u64 0, .int .u64 0, .int .u64 0, .int .u64 0] 26)) v) : ZB v w.heap.size ∧ ZB v (w.heap.size + 1) := by
  have z := ZB.new (w.alloc (.cells #[.int .u64 0, .int .u64 0, .int .u64 0, .int .u64 0] 26))
  rw [show (w.alloc (.cells #[.int .u64 0, .int .u64 0, .int .u64 0, .int .u64 0] 26)).heap.size = w.heap.size + 1 from Array.size_push _] at z
  exact ⟨B4.below (B4.below (ZB.new w) (below_allocs _ _)) hb, B4.below z hb⟩
section
variable {W0 v : World} {x y : Nat} {a0 a1 a2 a3 b0 b1 b2 b3 : Int}
theorem Cut2.e1 (h : Below W0.heap.size W0 v) : Cut2 W0 a0 a1 a2 a3 b0 b1 b2 b3 (.pointer (some ⟨v.heap.size, 0, none⟩)) (.pointer (some ⟨v.heap.size + 1, 0, none⟩)) ((v.alloc (.cells #[.int .u64 a0, .int .u64 a1, .int .u64 a2, .int .u64 a3] 26)).alloc (.cells #[.int .u64 b0, .int .u64 b1, .int .u64 b2, .int .u64 b3] 26)) := by
  have n := B4.new (v.alloc (.cells #[.int .u64 a0, .int .u64 a1, .int .u64 a2, .int .u64 a3] 26)) b0 b1 b2 b3
  rw [show (v.alloc (.cells #[.int .u64 a0, .int .u64 a1, .int .u64 a2, .int .u64 a3] 26)).heap.size = v.heap.size + 1 from Array.size_push _] at n
  exact ⟨_, _, rfl, rfl, (B4.below (B4.new v a0 a1 a2 a3) (below_allocs _ _)).f4, n.f4, below_alloc (below_alloc h _) _⟩
theorem Cut2.e2 (h : Below W0.heap.size W0 v) : Cut2 W0 a0 a1 a2 a3 b0 b1 b2 b3 (.pointer (some ⟨v.heap.size + 1, 0, none⟩)) (.pointer (some ⟨v.heap.size, 0, none⟩)) ((v.alloc (.cells #[.int .u64 b0, .int .u64 b1, .int .u64 b2, .int .u64 b3] 26)).alloc (.cells #[.int .u64 a0, .int .u64 a1, .int .u64 a2, .int .u64 a3] 26)) := by
  have n := B4.new (v.alloc (.cells #[.int .u64 b0, .int .u64 b1, .int .u64 b2, .int .u64 b3] 26)) a0 a1 a2 a3
  rw [show (v.alloc (.cells #[.int .u64 b0, .int .u64 b1, .int .u64 b2, .int .u64 b3] 26)).heap.size = v.heap.size + 1 from Array.size_push _] at n
  exact ⟨_, _, rfl, rfl, n.f4, (B4.below (B4.new v b0 b1 b2 b3) (below_allocs _ _)).f4, below_alloc (below_alloc h _) _⟩
theorem size_put (w : World) (x : Nat) (a0 a1 a2 a3 : Int) : ((((w.setCell ⟨x, 0, none⟩ (.int .u64 a0)).setCell ⟨x, 1, none⟩ (.int .u64 a1)).setCell ⟨x, 2, none⟩ (.int .u64 a2)).setCell ⟨x, 3, none⟩ (.int .u64 a3)).heap.size = w.heap.size := by simp [World.setCell]
theorem Cut2.e3 (h : Below W0.heap.size W0 v) (z : ZB v x) (l : W0.heap.size ≤ x) : Cut2 W0 a0 a1 a2 a3 b0 b1 b2 b3 (.pointer (some ⟨x, 0, none⟩)) (.pointer (some ⟨v.heap.size, 0, none⟩)) (((((v.setCell ⟨x, 0, none⟩ (.int .u64 a0)).setCell ⟨x, 1, none⟩ (.int .u64 a1)).setCell ⟨x, 2, none⟩ (.int .u64 a2)).setCell ⟨x, 3, none⟩ (.int .u64 a3)).alloc (.cells #[.int .u64 b0, .int .u64 b1, .int .u64 b2, .int .u64 b3] 26)) := by
  have n := B4.new ((((v.setCell ⟨x, 0, none⟩ (.int .u64 a0)).setCell ⟨x, 1, none⟩ (.int .u64 a1)).setCell ⟨x, 2, none⟩ (.int .u64 a2)).setCell ⟨x, 3, none⟩ (.int .u64 a3)) b0 b1 b2 b3
  rw [size_put] at n
  exact ⟨_, _, rfl, rfl, (B4.below (B4.put (p' := a0) (q' := a1) (r' := a2) (s' := a3) z) (below_allocs _ _)).f4, n.f4, below_alloc (below_put4 h l) _⟩
theorem Cut2.e4 (h : Below W0.heap.size W0 v) (z : ZB v x) (l : W0.heap.size ≤ x) : Cut2 W0 a0 a1 a2 a3 b0 b1 b2 b3 (.pointer (some ⟨v.heap.size, 0, none⟩)) (.pointer (some ⟨x, 0, none⟩)) (((((v.setCell ⟨x, 0, none⟩ (.int .u64 b0)).setCell ⟨x, 1, none⟩ (.int .u64 b1)).setCell ⟨x, 2, none⟩ (.int .u64 b2)).setCell ⟨x, 3, none⟩ (.int .u64 b3)).alloc (.cells #[.int .u64 a0, .int .u64 a1, .int .u64 a2, .int .u64 a3] 26)) := by
  have n := B4.new ((((v.setCell ⟨x, 0, none⟩ (.int .u64 b0)).setCell ⟨x, 1, none⟩ (.int .u64 b1)).setCell ⟨x, 2, none⟩ (.int .u64 b2)).setCell ⟨x, 3, none⟩ (.int .u64 b3)) a0 a1 a2 a3
  rw [size_put] at n
  exact ⟨_, _, rfl, rfl, n.f4, (B4.below (B4.put (p' := b0) (q' := b1) (r' := b2) (s' := b3) z) (below_allocs _ _)).f4, below_alloc (below_put4 h l) _⟩
theorem Cut2.e5 (h : Below W0.heap.size W0 v) (z : ZB v x) (z' : ZB v y) (l : W0.heap.size ≤ x) (l' : W0.heap.size ≤ y) (ne : x ≠ y) : Cut2 W0 a0 a1 a2 a3 b0 b1 b2 b3 (.pointer (some ⟨x, 0, none⟩)) (.pointer (some ⟨y, 0, none⟩)) ((((((((v.setCell ⟨x, 0, none⟩ (.int .u64 a0)).setCell ⟨x, 1, none⟩ (.int .u64 a1)).setCell ⟨x, 2, none⟩ (.int .u64 a2)).setCell ⟨x, 3, none⟩ (.int .u64 a3)).setCell ⟨y, 0, none⟩ (.int .u64 b0)).setCell ⟨y, 1, none⟩ (.int .u64 b1)).setCell ⟨y, 2, none⟩ (.int .u64 b2)).setCell ⟨y, 3, none⟩ (.int .u64 b3)) :=
  ⟨_, _, rfl, rfl, (B4.far4 (B4.put z) ne).f4, (B4.put (B4.far4 z' (Ne.symm ne))).f4, below_put4 (below_put4 h l) l'⟩
end
/-- The ways of the two comparisons: the sum goes over, or not; the numbers are of one word, or not. -/
inductive SumWay (m0 m1 m2 m3 a0 a1 a2 a3 b0 b1 b2 b3 s0 s1 : Int) (c : Bool) : Prop where
  | over (e : c = true)
  | fits (e : c = false) (g0 g1 g2 g3 : Int)
      (T : Hid (TM 15 #[.agg #[.int .u64 a0, .int .u64 a1, .int .u64 a2, .int .u64 a3], .agg #[.int .u64 b0, .int .u64 b1, .int .u64 b2, .int .u64 b3]] g0 g1 g2 g3))
      (P : Hid (TM 16 #[.agg #[.int .u64 m0, .int .u64 m1, .int .u64 m2, .int .u64 m3], .agg #[.int .u64 s0, .int .u64 s1]] g0 g1 g2 g3))
inductive ProdWay (m0 m1 m2 m3 a0 a1 a2 a3 n0 n1 k0 k1 : Int) : Prop where
  | n (e : n0 ≠ 0)
  | k (e : n0 = 0) (e' : k0 ≠ 0)
  | both (e : n0 = 0) (e' : k0 = 0) (g0 g1 g2 g3 f0 f1 : Int)
      (P : Hid (TM 16 #[.agg #[.int .u64 a0, .int .u64 a1, .int .u64 a2, .int .u64 a3], .agg #[.int .u64 k0, .int .u64 k1]] g0 g1 g2 g3))
      (F : Hid (TN 20 #[.int .u64 n1, .int .u64 k1] f0 f1))
      (P' : Hid (TM 16 #[.agg #[.int .u64 m0, .int .u64 m1, .int .u64 m2, .int .u64 m3], .agg #[.int .u64 f0, .int .u64 f1]] g0 g1 g2 g3))
set_option maxHeartbeats 8000000 in
theorem powersMain (aw : Hid (∀ W, Calls Try.prog 7 #[] W (Bl true W))) (m0 m1 m2 m3 n0 n1 k0 k1 a0 a1 a2 a3 b0 b1 b2 b3 s0 s1 : Int) (c : Bool) (f r : Nat) (q : Nat → Mp) (w : World)
    (CA : Hid (∀ W : World, Calls Try.prog 19 #[.agg #[.int .u64 n0, .int .u64 n1], .agg #[.int .u64 k0, .int .u64 k1]] W (fun e w' => e = .returned (.tuple #[.agg #[.int .u64 s0, .int .u64 s1], .bool c]) ∧ Below W.heap.size W w')))
    (P1 : Hid (TM 16 #[.agg #[.int .u64 m0, .int .u64 m1, .int .u64 m2, .int .u64 m3], .agg #[.int .u64 n0, .int .u64 n1]] a0 a1 a2 a3))
    (P2 : Hid (TM 16 #[.agg #[.int .u64 m0, .int .u64 m1, .int .u64 m2, .int .u64 m3], .agg #[.int .u64 k0, .int .u64 k1]] b0 b1 b2 b3))
    (O : Hid (TM 18 #[] 0 1 0 0))
    (q0 : Hid (hiW (q 0).A = 0 ∧ loW (q 0).A = 1 ∧ hiW (q 0).C = 0 ∧ loW (q 0).C = 0))
    (LT : Hid (∀ (i : Nat) (p0 p1 p2 p3 : Int), p0 = (hiW (q i).A : Nat) → p1 = (loW (q i).A : Nat) → p2 = (hiW (q i).C : Nat) → p3 = (loW (q i).C : Nat) → TM 15 #[.agg #[.int .u64 p0, .int .u64 p1, .int .u64 p2, .int .u64 p3], .agg #[.int .u64 m0, .int .u64 m1, .int .u64 m2, .int .u64 m3]] ((hiW (q (i + 1)).A : Nat) : Int) ((loW (q (i + 1)).A : Nat) : Int) ((hiW (q (i + 1)).C : Nat) : Int) ((loW (q (i + 1)).C : Nat) : Int)))
    (hf : f < 256) (hr : Hid (f % 101 = r)) (CF : Hid (TN 21 #[.int .u64 (r : Int)] 0 (r : Int)))
    (PF : Hid (∀ (p0 p1 p2 p3 : Int), p0 = (hiW (q r).A : Nat) → p1 = (loW (q r).A : Nat) → p2 = (hiW (q r).C : Nat) → p3 = (loW (q r).C : Nat) → TM 16 #[.agg #[.int .u64 m0, .int .u64 m1, .int .u64 m2, .int .u64 m3], .agg #[.int .u64 0, .int .u64 (r : Int)]] p0 p1 p2 p3))
    (hs : Hid (SumWay m0 m1 m2 m3 a0 a1 a2 a3 b0 b1 b2 b3 s0 s1 c)) (hp : Hid (ProdWay m0 m1 m2 m3 a0 a1 a2 a3 n0 n1 k0 k1)) :
    Calls Try.prog 5 #[.agg #[.int .u64 m0, .int .u64 m1, .int .u64 m2, .int .u64 m3], .agg #[.int .u64 n0, .int .u64 n1], .agg #[.int .u64 k0, .int .u64 k1], .int .u8 (f : Int)] w (Bl true w) := by
  have hB : Below w.heap.size w w := Below.refl _ _
  go_enter Try.func5, Try.ntmps5
  go_wp2_with fail
  have UM := F4.new w m0 m1 m2 m3 26
  have z1 : (w.alloc (.cells #[.int .u64 m0, .int .u64 m1, .int .u64 m2, .int .u64 m3] 26)).heap.size = w.heap.size + 1 := Array.size_push _
  replace hB := below_alloc hB (.cells #[.int .u64 m0, .int .u64 m1, .int .u64 m2, .int .u64 m3] 26)
  generalize w.alloc _ = V1 at UM hB z1 ⊢
  have UN := CU.new V1 n0 n1 24
  have z2 : (V1.alloc (.cells #[.int .u64 n0, .int .u64 n1] 24)).heap.size = w.heap.size + 1 + 1 := (Array.size_push _).trans (by rw [z1])
  rw [z1] at UN
  have LB := below_allocs V1 (.cells #[.int .u64 n0, .int .u64 n1] 24)
  replace UM := UM.below LB
  replace hB := below_then hB LB
  clear LB
  generalize V1.alloc _ = V2 at UM UN hB z2 ⊢
  have UK := CU.new V2 k0 k1 24
  rw [z2] at UK
  have LB := below_allocs V2 (.cells #[.int .u64 k0, .int .u64 k1] 24)
  replace UM := UM.below LB
  replace UN := UN.below LB
  replace hB := below_then hB LB
  clear LB z1 z2
  generalize V2.alloc _ = V3 at UM UN UK hB ⊢
  generalize w.heap.size + 1 + 1 = ck at UK ⊢
  generalize w.heap.size + 1 = cn at UN ⊢
  refine (aw.out _).mono ?_
  rintro e W0 ⟨rfl, hb⟩
  replace UM := UM.below hb
  replace UN := UN.below hb
  replace UK := UK.below hb
  replace hB := below_then hB hb
  clear hb aw
  obtain ⟨u1, u2⟩ := UN.c
  obtain ⟨v1, v2⟩ := UK.c
  go_wp2_with fail
  clear u1 u2 v1 v2
  refine (CA.out _).mono ?_
  rintro e W1 ⟨rfl, hb⟩
  replace UM := UM.below hb
  replace UN := UN.below hb
  replace UK := UK.below hb
  replace hB := below_then hB hb
  clear hb CA
  go_upto_region 4 with fail
  have US := CU.new W1 s0 s1 24
  have LB := below_allocs W1 (.cells #[.int .u64 s0, .int .u64 s1] 24)
  replace UM := UM.below LB
  replace UN := UN.below LB
  replace UK := UK.below LB
  replace hB := below_then hB LB
  clear LB
  generalize W1.alloc _ = V4 at UM UN UK US hB ⊢
  generalize W1.heap.size = cs at US ⊢
  have HK := Lib.hid (And.intro UM (And.intro UN (And.intro UK (And.intro US hB))))
  clear UM UN UK US hB
  go_cut [11, 12] (Cut2 V4 a0 a1 a2 a3 b0 b1 b2 b3)
  case first =>
    have hX : Below V4.heap.size V4 V4 := Below.refl _ _
    obtain ⟨f1, f2, f3, f4⟩ := HK.out.1
    obtain ⟨f5, f6⟩ := HK.out.2.1.c
    obtain ⟨f7, f8⟩ := HK.out.2.2.1.c
    have l1 : w.heap.size < V4.heap.size := World.block_lt_of_cell? _ _ HK.out.1.c0
    have l2 : cn < V4.heap.size := HK.out.2.1.lt
    have l3 : ck < V4.heap.size := HK.out.2.2.1.lt
    go_region_held3 (fun w' => w'.cell? ⟨w.heap.size, 0, none⟩ = some (.int .u64 m0) ∧ w'.cell? ⟨w.heap.size, 1, none⟩ = some (.int .u64 m1) ∧ w'.cell? ⟨w.heap.size, 2, none⟩ = some (.int .u64 m2) ∧ w'.cell? ⟨w.heap.size, 3, none⟩ = some (.int .u64 m3) ∧ w'.cell? ⟨cn, 0, none⟩ = some (.int .u64 n0) ∧ w'.cell? ⟨cn, 1, none⟩ = some (.int .u64 n1) ∧ w'.cell? ⟨ck, 0, none⟩ = some (.int .u64 k0) ∧ w'.cell? ⟨ck, 1, none⟩ = some (.int .u64 k1)) (go_keep) (first
      | (go_at_call 16; (with_reducible refine (P1.out _).mono ?_); rintro e x1 ⟨rfl, hb⟩; (first | (have zz := zb_early2 (w := World.drew V4) hb; have za : ZB x1 V4.heap.size := zz.1; have zb : ZB x1 (V4.heap.size + 1) := zz.2; clear zz; obtain ⟨za0, za1, za2, za3⟩ := (B4.cells za); obtain ⟨za4, za5, za6, za7⟩ := (B4.free za); have za8 := (B4.lt za); obtain ⟨zb0, zb1, zb2, zb3⟩ := (B4.cells zb); obtain ⟨zb4, zb5, zb6, zb7⟩ := (B4.free zb); have zb8 := (B4.lt zb)) | (have za : ZB x1 V4.heap.size := zb_early (w := World.drew V4) hb; obtain ⟨za0, za1, za2, za3⟩ := (B4.cells za); obtain ⟨za4, za5, za6, za7⟩ := (B4.free za); have za8 := (B4.lt za)) | skip); replace hX := below_then (show Below V4.heap.size V4 _ by first | exact hX | exact hX.drew | exact hX.alloc hX.size _ | exact hX.drew.alloc hX.drew.size _ | exact (hX.alloc hX.size _).alloc (hX.alloc hX.size _).size _ | exact (hX.drew.alloc hX.drew.size _).alloc (hX.drew.alloc hX.drew.size _).size _) hb; clear hb; have sx1 : V4.heap.size ≤ x1.heap.size := hX.size; have da1 : w.heap.size ≠ V4.heap.size := Nat.ne_of_lt l1; have da21 : V4.heap.size ≠ w.heap.size := Nat.ne_of_gt l1; have da2 : w.heap.size ≠ V4.heap.size + 1 := Nat.ne_of_lt (Nat.lt_succ_of_lt l1); have da22 : V4.heap.size + 1 ≠ w.heap.size := Nat.ne_of_gt (Nat.lt_succ_of_lt l1); have da3 : cn ≠ V4.heap.size := Nat.ne_of_lt l2; have da23 : V4.heap.size ≠ cn := Nat.ne_of_gt l2; have da4 : cn ≠ V4.heap.size + 1 := Nat.ne_of_lt (Nat.lt_succ_of_lt l2); have da24 : V4.heap.size + 1 ≠ cn := Nat.ne_of_gt (Nat.lt_succ_of_lt l2); have da5 : ck ≠ V4.heap.size := Nat.ne_of_lt l3; have da25 : V4.heap.size ≠ ck := Nat.ne_of_gt l3; have da6 : ck ≠ V4.heap.size + 1 := Nat.ne_of_lt (Nat.lt_succ_of_lt l3); have da26 : V4.heap.size + 1 ≠ ck := Nat.ne_of_gt (Nat.lt_succ_of_lt l3); clear f1 f2 f3 f4 f5 f6 f7 f8 l1 l2 l3; obtain ⟨f1, f2, f3, f4⟩ := HK.out.1.below hX; obtain ⟨f5, f6⟩ := (HK.out.2.1.below hX).c; obtain ⟨f7, f8⟩ := (HK.out.2.2.1.below hX).c; have l1 : w.heap.size < x1.heap.size := World.block_lt_of_cell? _ _ (HK.out.1.below hX).c0; have l2 : cn < x1.heap.size := (HK.out.2.1.below hX).lt; have l3 : ck < x1.heap.size := (HK.out.2.2.1.below hX).lt)
      | (go_at_call 16; (with_reducible refine (P2.out _).mono ?_); rintro e x2 ⟨rfl, hb⟩; (first | (have zz := zb_early2 (w := x1) hb; have zc : ZB x2 x1.heap.size := zz.1; have zd : ZB x2 (x1.heap.size + 1) := zz.2; clear zz; obtain ⟨zc0, zc1, zc2, zc3⟩ := (B4.cells zc); obtain ⟨zc4, zc5, zc6, zc7⟩ := (B4.free zc); have zc8 := (B4.lt zc); obtain ⟨zd0, zd1, zd2, zd3⟩ := (B4.cells zd); obtain ⟨zd4, zd5, zd6, zd7⟩ := (B4.free zd); have zd8 := (B4.lt zd)) | (have zc : ZB x2 x1.heap.size := zb_early (w := x1) hb; obtain ⟨zc0, zc1, zc2, zc3⟩ := (B4.cells zc); obtain ⟨zc4, zc5, zc6, zc7⟩ := (B4.free zc); have zc8 := (B4.lt zc)) | skip); (first | (replace za := B4.below za (below_then (by first | exact Below.refl _ _ | exact below_allocs _ _) hb); obtain ⟨ya0, ya1, ya2, ya3⟩ := (B4.cells za); obtain ⟨ya4, ya5, ya6, ya7⟩ := (B4.free za); have ya8 := (B4.lt za)) | skip); (first | (replace zb := B4.below zb (below_then (by first | exact Below.refl _ _ | exact below_allocs _ _) hb); obtain ⟨yb0, yb1, yb2, yb3⟩ := (B4.cells zb); obtain ⟨yb4, yb5, yb6, yb7⟩ := (B4.free zb); have yb8 := (B4.lt zb)) | skip); replace hX := below_then (show Below V4.heap.size V4 _ by first | exact hX | exact hX.drew | exact hX.alloc hX.size _ | exact hX.drew.alloc hX.drew.size _ | exact (hX.alloc hX.size _).alloc (hX.alloc hX.size _).size _ | exact (hX.drew.alloc hX.drew.size _).alloc (hX.drew.alloc hX.drew.size _).size _) hb; clear hb; have db1 : w.heap.size ≠ x1.heap.size := Nat.ne_of_lt l1; have db21 : x1.heap.size ≠ w.heap.size := Nat.ne_of_gt l1; have db2 : w.heap.size ≠ x1.heap.size + 1 := Nat.ne_of_lt (Nat.lt_succ_of_lt l1); have db22 : x1.heap.size + 1 ≠ w.heap.size := Nat.ne_of_gt (Nat.lt_succ_of_lt l1); have db3 : cn ≠ x1.heap.size := Nat.ne_of_lt l2; have db23 : x1.heap.size ≠ cn := Nat.ne_of_gt l2; have db4 : cn ≠ x1.heap.size + 1 := Nat.ne_of_lt (Nat.lt_succ_of_lt l2); have db24 : x1.heap.size + 1 ≠ cn := Nat.ne_of_gt (Nat.lt_succ_of_lt l2); have db5 : ck ≠ x1.heap.size := Nat.ne_of_lt l3; have db25 : x1.heap.size ≠ ck := Nat.ne_of_gt l3; have db6 : ck ≠ x1.heap.size + 1 := Nat.ne_of_lt (Nat.lt_succ_of_lt l3); have db26 : x1.heap.size + 1 ≠ ck := Nat.ne_of_gt (Nat.lt_succ_of_lt l3); clear f1 f2 f3 f4 f5 f6 f7 f8 l1 l2 l3; obtain ⟨f1, f2, f3, f4⟩ := HK.out.1.below hX; obtain ⟨f5, f6⟩ := (HK.out.2.1.below hX).c; obtain ⟨f7, f8⟩ := (HK.out.2.2.1.below hX).c; have l1 : w.heap.size < x2.heap.size := World.block_lt_of_cell? _ _ (HK.out.1.below hX).c0; have l2 : cn < x2.heap.size := (HK.out.2.1.below hX).lt; have l3 : ck < x2.heap.size := (HK.out.2.2.1.below hX).lt; have dc1 : w.heap.size ≠ x2.heap.size := Nat.ne_of_lt l1; have dc21 : x2.heap.size ≠ w.heap.size := Nat.ne_of_gt l1; have dc2 : w.heap.size ≠ x2.heap.size + 1 := Nat.ne_of_lt (Nat.lt_succ_of_lt l1); have dc22 : x2.heap.size + 1 ≠ w.heap.size := Nat.ne_of_gt (Nat.lt_succ_of_lt l1); have dc3 : cn ≠ x2.heap.size := Nat.ne_of_lt l2; have dc23 : x2.heap.size ≠ cn := Nat.ne_of_gt l2; have dc4 : cn ≠ x2.heap.size + 1 := Nat.ne_of_lt (Nat.lt_succ_of_lt l2); have dc24 : x2.heap.size + 1 ≠ cn := Nat.ne_of_gt (Nat.lt_succ_of_lt l2); have dc5 : ck ≠ x2.heap.size := Nat.ne_of_lt l3; have dc25 : x2.heap.size ≠ ck := Nat.ne_of_gt l3; have dc6 : ck ≠ x2.heap.size + 1 := Nat.ne_of_lt (Nat.lt_succ_of_lt l3); have dc26 : x2.heap.size + 1 ≠ ck := Nat.ne_of_gt (Nat.lt_succ_of_lt l3)))
    all_goals
      go_wp2_with fail
      go_meet
      first
        | with_reducible exact Cut2.e1 hX
        | with_reducible exact Cut2.e2 hX
        | with_reducible exact Cut2.e3 hX za (Nat.le_refl _)
        | with_reducible exact Cut2.e4 hX za (Nat.le_refl _)
        | with_reducible exact Cut2.e3 hX zb (Nat.le_succ _)
        | with_reducible exact Cut2.e4 hX zb (Nat.le_succ _)
        | with_reducible exact Cut2.e3 hX zc sx1
        | with_reducible exact Cut2.e4 hX zc sx1
        | with_reducible exact Cut2.e3 hX zd (Nat.le_succ_of_le sx1)
        | with_reducible exact Cut2.e4 hX zd (Nat.le_succ_of_le sx1)
        | exact Cut2.e5 hX za zb (Nat.le_refl _) (Nat.le_succ _) (by omega)
        | exact Cut2.e5 hX za zc (Nat.le_refl _) sx1 (by omega)
        | exact Cut2.e5 hX za zd (Nat.le_refl _) (Nat.le_succ_of_le sx1) (by omega)
        | exact Cut2.e5 hX zb za (Nat.le_succ _) (Nat.le_refl _) (by omega)
        | exact Cut2.e5 hX zb zc (Nat.le_succ _) sx1 (by omega)
        | exact Cut2.e5 hX zb zd (Nat.le_succ _) (Nat.le_succ_of_le sx1) (by omega)
        | exact Cut2.e5 hX zc za sx1 (Nat.le_refl _) (by omega)
        | exact Cut2.e5 hX zc zb sx1 (Nat.le_succ _) (by omega)
        | exact Cut2.e5 hX zc zd sx1 (Nat.le_succ_of_le sx1) (by omega)
        | exact Cut2.e5 hX zd za (Nat.le_succ_of_le sx1) (Nat.le_refl _) (by omega)
        | exact Cut2.e5 hX zd zb (Nat.le_succ_of_le sx1) (Nat.le_succ _) (by omega)
        | exact Cut2.e5 hX zd zc (Nat.le_succ_of_le sx1) sx1 (by omega)
  obtain ⟨bx, by', rfl, rfl, FA, FB, hX⟩ := hcut
  obtain ⟨W5, h5⟩ : ∃ x : World, x = wc := ⟨_, rfl⟩
  subst h5
  clear P1 P2
  have K := Lib.hid (And.intro (HK.out.1.below hX) (And.intro (HK.out.2.1.below hX) (And.intro (HK.out.2.2.1.below hX) (And.intro (HK.out.2.2.2.1.below hX) (And.intro FA (And.intro FB (below_then HK.out.2.2.2.2 hX)))))))
  clear HK FA FB hX
  go_upto_region 5 with fail
  go_cut [38] (CutG W5 false)
  case first =>
    clear hp
    rcases hs.out with ⟨rfl⟩ | ⟨rfl, g0, g1, g2, g3, T, P⟩
    · skip
      refine wp_region_class (fun w' => Below W5.heap.size W5 w') (by kernel_rfl) (by kernel_rfl) (Below.refl _ _).drew ?_
      iterate 3
        (refine WQ.yes ?_ (by rfl) (fun w' hC => ?_) ?_
         rotate_left
         · (obtain ⟨x1, x2, x3, x4⟩ := K.out.1.below hC
            obtain ⟨u1, u2⟩ := (K.out.2.1.below hC).c
            obtain ⟨v1, v2⟩ := (K.out.2.2.1.below hC).c
            obtain ⟨y1, y2⟩ := (K.out.2.2.2.1.below hC).c
            obtain ⟨f1, f2, f3, f4⟩ := K.out.2.2.2.2.1.below hC
            obtain ⟨g1, g2, g3, g4⟩ := K.out.2.2.2.2.2.1.below hC
            go_simp
            first
              | done
              | with_reducible rfl
              | exact ⟨rfl, rfl⟩)
         (try simp only [Act.put, List.setIfInBounds_toArray, List.set_cons_zero, List.set_cons_succ]))
      iterate 7
        (refine WQ.no (by rfl) ?_
         (try simp only [Act.put, List.setIfInBounds_toArray, List.set_cons_zero, List.set_cons_succ]))
      iterate 1
        (refine WQ.yes ?_ (by rfl) (fun w' hC => ?_) ?_
         rotate_left
         · (obtain ⟨x1, x2, x3, x4⟩ := K.out.1.below hC
            obtain ⟨u1, u2⟩ := (K.out.2.1.below hC).c
            obtain ⟨v1, v2⟩ := (K.out.2.2.1.below hC).c
            obtain ⟨y1, y2⟩ := (K.out.2.2.2.1.below hC).c
            obtain ⟨f1, f2, f3, f4⟩ := K.out.2.2.2.2.1.below hC
            obtain ⟨g1, g2, g3, g4⟩ := K.out.2.2.2.2.2.1.below hC
            go_simp
            first
              | done
              | with_reducible rfl
              | exact ⟨rfl, rfl⟩)
         (try simp only [Act.put, List.setIfInBounds_toArray, List.set_cons_zero, List.set_cons_succ]))
      refine WQ.nil ?_
      intro wz hX
      go_wp2
      go_meet
      exact CutG.of hX
    · skip
      refine wp_region_class (fun w' => Below W5.heap.size W5 w') (by kernel_rfl) (by kernel_rfl) (Below.refl _ _).drew ?_
      iterate 11
        (refine WQ.yes ?_ (by rfl) (fun w' hC => ?_) ?_
         rotate_left
         · (obtain ⟨x1, x2, x3, x4⟩ := K.out.1.below hC
            obtain ⟨u1, u2⟩ := (K.out.2.1.below hC).c
            obtain ⟨v1, v2⟩ := (K.out.2.2.1.below hC).c
            obtain ⟨y1, y2⟩ := (K.out.2.2.2.1.below hC).c
            obtain ⟨f1, f2, f3, f4⟩ := K.out.2.2.2.2.1.below hC
            obtain ⟨g1, g2, g3, g4⟩ := K.out.2.2.2.2.2.1.below hC
            go_simp
            first
              | done
              | with_reducible rfl
              | exact ⟨rfl, rfl⟩
              | (go_at_call 15; (with_reducible exact quietA4 (T.out _) hC))
              | (go_at_call 16; (with_reducible exact quietA4 (P.out _) hC)))
         (try simp only [Act.put, List.setIfInBounds_toArray, List.set_cons_zero, List.set_cons_succ]))
      refine WQ.nil ?_
      intro wz hX
      go_wp2
      go_meet
      exact CutG.of hX
  obtain ⟨rfl, hX⟩ := hcut
  clear hs
  obtain ⟨W6, h6⟩ : ∃ x : World, x = wc := ⟨_, rfl⟩
  subst h6
  have K2 := Lib.hid (And.intro (K.out.1.below hX) (And.intro (K.out.2.1.below hX) (And.intro (K.out.2.2.1.below hX) (And.intro (K.out.2.2.2.1.below hX) (And.intro (K.out.2.2.2.2.1.below hX) (And.intro (K.out.2.2.2.2.2.1.below hX) (below_then K.out.2.2.2.2.2.2 hX)))))))
  clear K hX
  go_upto_region 7 with fail
  go_cut [59] (CutG W6 false)
  case first =>
    rcases hp.out with ⟨e⟩ | ⟨rfl, e⟩ | ⟨rfl, rfl, g0, g1, g2, g3, f0, f1, P, F, P'⟩
    · have e1 : (n0 = 0) = False := eq_false e
      have e2 : (n0 == 0) = false := by simpa using e
      refine wp_region_class (fun w' => Below W6.heap.size W6 w') (by kernel_rfl) (by kernel_rfl) (Below.refl _ _).drew ?_
      iterate 3
        (refine WQ.yes ?_ (by rfl) (fun w' hC => ?_) ?_
         rotate_left
         · (obtain ⟨x1, x2, x3, x4⟩ := K2.out.1.below hC
            obtain ⟨u1, u2⟩ := (K2.out.2.1.below hC).c
            obtain ⟨v1, v2⟩ := (K2.out.2.2.1.below hC).c
            obtain ⟨y1, y2⟩ := (K2.out.2.2.2.1.below hC).c
            obtain ⟨f1, f2, f3, f4⟩ := K2.out.2.2.2.2.1.below hC
            obtain ⟨g1, g2, g3, g4⟩ := K2.out.2.2.2.2.2.1.below hC
            go_simp
            first
              | done
              | with_reducible rfl
              | exact ⟨rfl, rfl⟩)
         (try simp only [Act.put, List.setIfInBounds_toArray, List.set_cons_zero, List.set_cons_succ]))
      iterate 1
        (refine WQ.yes ?_ (by rfl) (fun w' hC => ?_) ?_
         rotate_left
         · (obtain ⟨x1, x2, x3, x4⟩ := K2.out.1.below hC
            obtain ⟨u1, u2⟩ := (K2.out.2.1.below hC).c
            obtain ⟨v1, v2⟩ := (K2.out.2.2.1.below hC).c
            obtain ⟨y1, y2⟩ := (K2.out.2.2.2.1.below hC).c
            obtain ⟨f1, f2, f3, f4⟩ := K2.out.2.2.2.2.1.below hC
            obtain ⟨g1, g2, g3, g4⟩ := K2.out.2.2.2.2.2.1.below hC
            go_simp
            first
              | done
              | with_reducible rfl
              | exact ⟨rfl, rfl⟩)
         (try simp only [Act.put, List.setIfInBounds_toArray, List.set_cons_zero, List.set_cons_succ]))
      iterate 3
        (refine WQ.no (by rfl) ?_
         (try simp only [Act.put, List.setIfInBounds_toArray, List.set_cons_zero, List.set_cons_succ]))
      iterate 2
        (refine WQ.yes ?_ (by rfl) (fun w' hC => ?_) ?_
         rotate_left
         · (obtain ⟨x1, x2, x3, x4⟩ := K2.out.1.below hC
            obtain ⟨u1, u2⟩ := (K2.out.2.1.below hC).c
            obtain ⟨v1, v2⟩ := (K2.out.2.2.1.below hC).c
            obtain ⟨y1, y2⟩ := (K2.out.2.2.2.1.below hC).c
            obtain ⟨f1, f2, f3, f4⟩ := K2.out.2.2.2.2.1.below hC
            obtain ⟨g1, g2, g3, g4⟩ := K2.out.2.2.2.2.2.1.below hC
            go_simp
            first
              | done
              | with_reducible rfl
              | exact ⟨rfl, rfl⟩)
         (try simp only [Act.put, List.setIfInBounds_toArray, List.set_cons_zero, List.set_cons_succ]))
      iterate 11
        (refine WQ.no (by rfl) ?_
         (try simp only [Act.put, List.setIfInBounds_toArray, List.set_cons_zero, List.set_cons_succ]))
      iterate 1
        (refine WQ.yes ?_ (by rfl) (fun w' hC => ?_) ?_
         rotate_left
         · (obtain ⟨x1, x2, x3, x4⟩ := K2.out.1.below hC
            obtain ⟨u1, u2⟩ := (K2.out.2.1.below hC).c
            obtain ⟨v1, v2⟩ := (K2.out.2.2.1.below hC).c
            obtain ⟨y1, y2⟩ := (K2.out.2.2.2.1.below hC).c
            obtain ⟨f1, f2, f3, f4⟩ := K2.out.2.2.2.2.1.below hC
            obtain ⟨g1, g2, g3, g4⟩ := K2.out.2.2.2.2.2.1.below hC
            go_simp
            first
              | done
              | with_reducible rfl
              | exact ⟨rfl, rfl⟩)
         (try simp only [Act.put, List.setIfInBounds_toArray, List.set_cons_zero, List.set_cons_succ]))
      refine WQ.nil ?_
      intro wz hX
      go_wp2
      go_meet
      exact CutG.of hX
    · have e1 : (k0 = 0) = False := eq_false e
      have e2 : (k0 == 0) = false := by simpa using e
      refine wp_region_class (fun w' => Below W6.heap.size W6 w') (by kernel_rfl) (by kernel_rfl) (Below.refl _ _).drew ?_
      iterate 7
        (refine WQ.yes ?_ (by rfl) (fun w' hC => ?_) ?_
         rotate_left
         · (obtain ⟨x1, x2, x3, x4⟩ := K2.out.1.below hC
            obtain ⟨u1, u2⟩ := (K2.out.2.1.below hC).c
            obtain ⟨v1, v2⟩ := (K2.out.2.2.1.below hC).c
            obtain ⟨y1, y2⟩ := (K2.out.2.2.2.1.below hC).c
            obtain ⟨f1, f2, f3, f4⟩ := K2.out.2.2.2.2.1.below hC
            obtain ⟨g1, g2, g3, g4⟩ := K2.out.2.2.2.2.2.1.below hC
            go_simp
            first
              | done
              | with_reducible rfl
              | exact ⟨rfl, rfl⟩)
         (try simp only [Act.put, List.setIfInBounds_toArray, List.set_cons_zero, List.set_cons_succ]))
      iterate 2
        (refine WQ.yes ?_ (by rfl) (fun w' hC => ?_) ?_
         rotate_left
         · (obtain ⟨x1, x2, x3, x4⟩ := K2.out.1.below hC
            obtain ⟨u1, u2⟩ := (K2.out.2.1.below hC).c
            obtain ⟨v1, v2⟩ := (K2.out.2.2.1.below hC).c
            obtain ⟨y1, y2⟩ := (K2.out.2.2.2.1.below hC).c
            obtain ⟨f1, f2, f3, f4⟩ := K2.out.2.2.2.2.1.below hC
            obtain ⟨g1, g2, g3, g4⟩ := K2.out.2.2.2.2.2.1.below hC
            go_simp
            first
              | done
              | with_reducible rfl
              | exact ⟨rfl, rfl⟩)
         (try simp only [Act.put, List.setIfInBounds_toArray, List.set_cons_zero, List.set_cons_succ]))
      iterate 11
        (refine WQ.no (by rfl) ?_
         (try simp only [Act.put, List.setIfInBounds_toArray, List.set_cons_zero, List.set_cons_succ]))
      iterate 1
        (refine WQ.yes ?_ (by rfl) (fun w' hC => ?_) ?_
         rotate_left
         · (obtain ⟨x1, x2, x3, x4⟩ := K2.out.1.below hC
            obtain ⟨u1, u2⟩ := (K2.out.2.1.below hC).c
            obtain ⟨v1, v2⟩ := (K2.out.2.2.1.below hC).c
            obtain ⟨y1, y2⟩ := (K2.out.2.2.2.1.below hC).c
            obtain ⟨f1, f2, f3, f4⟩ := K2.out.2.2.2.2.1.below hC
            obtain ⟨g1, g2, g3, g4⟩ := K2.out.2.2.2.2.2.1.below hC
            go_simp
            first
              | done
              | with_reducible rfl
              | exact ⟨rfl, rfl⟩)
         (try simp only [Act.put, List.setIfInBounds_toArray, List.set_cons_zero, List.set_cons_succ]))
      refine WQ.nil ?_
      intro wz hX
      go_wp2
      go_meet
      exact CutG.of hX
    · skip
      refine wp_region_class (fun w' => Below W6.heap.size W6 w') (by kernel_rfl) (by kernel_rfl) (Below.refl _ _).drew ?_
      iterate 21
        (refine WQ.yes ?_ (by rfl) (fun w' hC => ?_) ?_
         rotate_left
         · (obtain ⟨x1, x2, x3, x4⟩ := K2.out.1.below hC
            obtain ⟨u1, u2⟩ := (K2.out.2.1.below hC).c
            obtain ⟨v1, v2⟩ := (K2.out.2.2.1.below hC).c
            obtain ⟨y1, y2⟩ := (K2.out.2.2.2.1.below hC).c
            obtain ⟨f1, f2, f3, f4⟩ := K2.out.2.2.2.2.1.below hC
            obtain ⟨g1, g2, g3, g4⟩ := K2.out.2.2.2.2.2.1.below hC
            go_simp
            first
              | done
              | with_reducible rfl
              | exact ⟨rfl, rfl⟩
              | (go_at_call 20; (with_reducible exact quietA (F.out _) hC))
              | (go_at_call 16; first | (with_reducible exact quietA4 (P.out _) hC) | (with_reducible exact quietA4 (P'.out _) hC)))
         (try simp only [Act.put, List.setIfInBounds_toArray, List.set_cons_zero, List.set_cons_succ]))
      refine WQ.nil ?_
      intro wz hX
      go_wp2
      go_meet
      exact CutG.of hX
  obtain ⟨rfl, hX⟩ := hcut
  clear hp
  obtain ⟨W7, h7⟩ : ∃ x : World, x = wc := ⟨_, rfl⟩
  subst h7
  have K3 := Lib.hid (And.intro (K2.out.1.below hX) (below_then K2.out.2.2.2.2.2.2 hX))
  clear K2 hX
  go_wp2_with fail
  refine (O.out _).mono ?_
  rintro e W8 ⟨rfl, hb⟩
  have er : (f : Int) % 101 = (r : Int) := by have := hr.out; omega
  have rl : r ≤ 100 := by have := hr.out; omega
  have K4 := Lib.hid (And.intro (K3.out.1.below hb) (below_then K3.out.2 hb))
  clear hb K3
  go_wp2_with fail
  have F0 : Hid (Below W8.heap.size W8 (W8.alloc (.cells #[.int .u64 0, .int .u64 1, .int .u64 0, .int .u64 0] 26)) ∧ ∃ p0 p1 p2 p3 : Int, B4 (W8.alloc (.cells #[.int .u64 0, .int .u64 1, .int .u64 0, .int .u64 0] 26)) W8.heap.size p0 p1 p2 p3 ∧ p0 = (hiW (q 0).A : Nat) ∧ p1 = (loW (q 0).A : Nat) ∧ p2 = (hiW (q 0).C : Nat) ∧ p3 = (loW (q 0).C : Nat)) :=
    Lib.hid ⟨below_allocs _ _, 0, 1, 0, 0, B4.new W8 0 1 0 0, by rw [q0.out.1]; rfl, by rw [q0.out.2.1]; rfl, by rw [q0.out.2.2.1]; rfl, by rw [q0.out.2.2.2]; rfl⟩
  rw [er]
  generalize W8.alloc _ = WB at F0 ⊢
  go_loopg [63] r (fun g z wr => ∃ j : Nat, j + g = r ∧ z = .int .u8 j ∧ Hid (Below W8.heap.size W8 wr ∧ ∃ p0 p1 p2 p3 : Int, B4 wr W8.heap.size p0 p1 p2 p3 ∧ p0 = (hiW (q j).A : Nat) ∧ p1 = (loW (q j).A : Nat) ∧ p2 = (hiW (q j).C : Nat) ∧ p3 = (loW (q j).C : Nat)))
  case atStart => exact ⟨0, by omega, rfl, F0⟩
  case round =>
    obtain ⟨j, hg, rfl, F⟩ := hrel
    clear F0
    by_cases hlt : j < r
    · have kl : (j : Int) < (r : Int) := by omega
      have w1 : IntKind.u8.wrap ((j : Int) + 1) = (j : Int) + 1 := by rw [IntKind.wrap_u8]; omega
      obtain ⟨fb, p0, p1, p2, p3, F4', e0, e1, e2, e3⟩ := F.out
      have CT := Lib.hid (LT.out j p0 p1 p2 p3 e0 e1 e2 e3)
      have KM := K4.out.1.below fb
      obtain ⟨x1, x2, x3, x4⟩ := KM
      obtain ⟨y1, y2, y3, y4⟩ := F4'.cells
      have HF := Lib.hid F4'
      have Hfb := Lib.hid fb
      clear F F4' fb e0 e1 e2 e3
      go_wp2_with fail
      refine (CT.out _).mono ?_
      rintro e W9 ⟨rfl, hb⟩
      clear x1 x2 x3 x4 y1 y2 y3 y4 CT
      have HG := Lib.hid (And.intro (HF.out.below hb) (below_then Hfb.out hb))
      clear hb HF Hfb
      obtain ⟨y1, y2, y3, y4⟩ := HG.out.1.cells
      obtain ⟨z1, z2, z3, z4⟩ := HG.out.1.free
      go_wp2_with fail
      go_roundg (gk - 1)
      case measure => omega
      case rel => exact ⟨j + 1, by omega, by go_num, Lib.hid ⟨below_put4 HG.out.2 (Nat.le_refl _), _, _, _, _, B4.put HG.out.1, rfl, rfl, rfl, rfl⟩⟩
    · obtain rfl : j = r := by omega
      have kl : ¬ (j : Int) < (j : Int) := by omega
      obtain ⟨fb, p0, p1, p2, p3, F4', e0, e1, e2, e3⟩ := F.out
      have CP := Lib.hid (PF.out p0 p1 p2 p3 e0 e1 e2 e3)
      have HE := Lib.hid (And.intro (K4.out.1.below fb) (And.intro F4'.f4 (below_then K4.out.2 fb)))
      clear F F4' fb e0 e1 e2 e3
      go_wp2_with fail
      have er2 : (f : Int).tmod 101 = (j : Int) := by rw [Int.tmod_eq_emod_of_nonneg (by omega)]; exact er
      have er3 : IntKind.u64.wrap (j : Int) = (j : Int) := by rw [IntKind.wrap_u64]; omega
      have er4 : IntKind.u8.wrap (j : Int) = (j : Int) := by rw [IntKind.wrap_u8]; omega
      have ER := Lib.hid (And.intro er (And.intro er2 (And.intro er3 er4)))
      clear er er2 er3 er4
      refine wp_region_class (fun w' => Below wr.heap.size wr w') (by kernel_rfl) (by kernel_rfl) (Below.refl _ _).drew ?_
      iterate 9
        (refine WQ.yes ?_ (by rfl) (fun w' hC => ?_) ?_
         rotate_left
         · (obtain ⟨x1, x2, x3, x4⟩ := HE.out.1.below hC
            obtain ⟨y1, y2, y3, y4⟩ := HE.out.2.1.below hC
            obtain ⟨er, er2, er3, er4⟩ := ER.out
            go_simp
            first
              | done
              | with_reducible rfl
              | exact ⟨rfl, rfl⟩
              | (go_at_call 21; (with_reducible exact quietA (CF.out _) hC))
              | (go_at_call 16; (with_reducible exact quietA4 (CP.out _) hC)))
         (try simp only [Act.put, List.setIfInBounds_toArray, List.set_cons_zero, List.set_cons_succ]))
      refine WQ.nil ?_
      intro wz hX
      go_wp2
      go_ret
      exact ⟨rfl, below_then HE.out.2.2 hX⟩
theorem affinePowers (X : AX) (aw : Hid (∀ W, Calls Try.prog 7 #[] W (Bl true W))) (m : Mp) {n0 n1 k0 k1 : Int} {N K : Nat} (f : Nat) (hm : m.Ok) (i : Wn n0 n1 N) (j : Wn k0 k1 K) (hf : f < 256) (w : World) :
    Calls Try.prog 5 #[m.val, .agg #[.int .u64 n0, .int .u64 n1], .agg #[.int .u64 k0, .int .u64 k1], .int .u8 (f : Int)] w (Bl true w) := by
  have hs : SumWay ((hiW m.A : Nat) : Int) ((loW m.A : Nat) : Int) ((hiW m.C : Nat) : Int) ((loW m.C : Nat) : Int) ((hiW (powM m N).A : Nat) : Int) ((loW (powM m N).A : Nat) : Int) ((hiW (powM m N).C : Nat) : Int) ((loW (powM m N).C : Nat) : Int)
      ((hiW (powM m K).A : Nat) : Int) ((loW (powM m K).A : Nat) : Int) ((hiW (powM m K).C : Nat) : Int) ((loW (powM m K).C : Nat) : Int) ((hiW ((N + K) % Q) : Nat) : Int) ((loW ((N + K) % Q) : Nat) : Int) (decide (Q ≤ N + K)) := by
    by_cases h : Q ≤ N + K
    · exact .over (decide_eq_true h)
    · have T := fun W => X.thn (powM m N) (powM m K) W (powM_ok m N) (powM_ok m K)
      rw [pow_add] at T
      have lt : N + K < Q := Nat.lt_of_not_le h
      have P := fun W => X.pow m _ _ (N + K) W hm (wn_of lt)
      rw [Nat.mod_eq_of_lt lt]
      exact .fits (decide_eq_false h) _ _ _ _ (Lib.hid T) (Lib.hid P)
  have hp : ProdWay ((hiW m.A : Nat) : Int) ((loW m.A : Nat) : Int) ((hiW m.C : Nat) : Int) ((loW m.C : Nat) : Int) ((hiW (powM m N).A : Nat) : Int) ((loW (powM m N).A : Nat) : Int) ((hiW (powM m N).C : Nat) : Int) ((loW (powM m N).C : Nat) : Int) n0 n1 k0 k1 := by
    by_cases h : n0 = 0
    · by_cases h' : k0 = 0
      · have P := fun W => X.pow (powM m N) k0 k1 K W (powM_ok m N) j
        rw [pow_pow] at P
        have n1e : n1 = (N : Int) := by have := i.eq; omega
        have k1e : k1 = (K : Int) := by have := j.eq; omega
        have nl : N < 18446744073709551616 := by have := i.l1; omega
        have kl : K < 18446744073709551616 := by have := j.l1; omega
        have F := fun W => cFull128 nl kl W
        rw [← n1e, ← k1e] at F
        have lt : N * K < 340282366920938463463374607431768211456 := by
          have := Nat.mul_lt_mul'' nl kl
          omega
        have P' := fun W => X.pow m _ _ (N * K) W hm (wn_of lt)
        exact .both h h' _ _ _ _ _ _ (Lib.hid P) (Lib.hid F) (Lib.hid P')
      · exact .k h h'
    · exact .n h
  exact powersMain aw _ _ _ _ n0 n1 k0 k1 _ _ _ _ _ _ _ _ _ _ _ f (f % 101) (powM m) w (Lib.hid fun W => cAdd128 i j W) (Lib.hid fun W => X.pow m n0 n1 N W hm i) (Lib.hid fun W => X.pow m k0 k1 K W hm j) (Lib.hid X.one)
    (Lib.hid (by rw [pow_zero]; exact ⟨rfl, rfl, rfl, rfl⟩))
    (Lib.hid fun i p0 p1 p2 p3 e0 e1 e2 e3 W => by
      subst e0 e1 e2 e3
      have := X.thn (powM m i) m W (powM_ok m i) hm
      rw [pow_succ hm] at this
      exact this)
    hf (Lib.hid rfl) (Lib.hid fun W => by
      have := cOf (f % 101) _ rfl (by omega) W
      unfold AnsW hiW loW at this
      rwa [Nat.div_eq_of_lt (by omega), Nat.mod_eq_of_lt (a := f % 101) (b := 18446744073709551616) (by omega)] at this)
    (Lib.hid fun p0 p1 p2 p3 e0 e1 e2 e3 W => by
      subst e0 e1 e2 e3
      exact X.pow m 0 _ (f % 101) W hm (wn0 _ (by omega)))
    (Lib.hid hs) (Lib.hid hp)
end Go.Proofs.Ytfnfjfmkhnofkaa
