/-
  What the reference of layer 9 answers: numbers of layer 1's reference in the words of this layer; Own, At, Then.
-/
import Derived.Test.YthnmekieanndgaaAffPowW
import Derived.Test.YthnmekieanndgaaAfJ
import Derived.Test.YthnmekieanndgaaWideTs
import Derived.Test.YthnmekieanndgaaWideRj
namespace Go.Proofs.Ythnmekieanndgaa
open Go.RowKit G
set_option linter.unusedVariables false
set_option maxRecDepth 100000

/-- A block of four words in memory: a map of the reference. -/
def R4 (w : World) (b : Nat) (p q r s : Int) : Prop := w.heap[b]? = some (.cells #[.int .u64 p, .int .u64 q, .int .u64 r, .int .u64 s] 49 (0, 0))
section
variable {w w' : World} {b x : Nat} {p q r s p' q' r' s' : Int}
theorem R4.lt (h : R4 w b p q r s) : b < w.heap.size := (Array.getElem?_eq_some_iff.1 h).1
theorem R4.below (h : R4 w b p q r s) (hb : Below w.heap.size w w') : R4 w' b p q r s := (hb.block b h.lt).trans h
theorem R4.new (w : World) (p q r s : Int) : R4 (w.alloc (.cells #[.int .u64 p, .int .u64 q, .int .u64 r, .int .u64 s] 49)) w.heap.size p q r s := show (w.heap.push _)[w.heap.size]? = some _ by simp
theorem R4.f4 (h : R4 w b p q r s) : F4 w b p q r s := f4_of_block h
theorem R4.cells (h : R4 w b p q r s) : w.cell? ⟨b, 0, none⟩ = some (.int .u64 p) ∧ w.cell? ⟨b, 1, none⟩ = some (.int .u64 q) ∧ w.cell? ⟨b, 2, none⟩ = some (.int .u64 r) ∧ w.cell? ⟨b, 3, none⟩ = some (.int .u64 s) := ⟨h.f4.c0, h.f4.c1, h.f4.c2, h.f4.c3⟩
theorem R4.free (h : R4 w b p q r s) : w.frozen? ⟨b, 0, none⟩ = false ∧ w.frozen? ⟨b, 1, none⟩ = false ∧ w.frozen? ⟨b, 2, none⟩ = false ∧ w.frozen? ⟨b, 3, none⟩ = false := by
  unfold R4 at h
  refine ⟨?_, ?_, ?_, ?_⟩ <;> simp [World.frozen?, h]
theorem R4.far (h : R4 w b p q r s) {a : Addr} (hne : b ≠ a.block) (u : Value) : R4 (w.setCell a u) b p q r s := (Below.heap_setCell w a u b hne).trans h
theorem R4.far4 (h : R4 w b p q r s) (hne : b ≠ x) : R4 ((((w.setCell ⟨x, 0, none⟩ (.int .u64 p')).setCell ⟨x, 1, none⟩ (.int .u64 q')).setCell ⟨x, 2, none⟩ (.int .u64 r')).setCell ⟨x, 3, none⟩ (.int .u64 s')) b p q r s := (((h.far hne _).far hne _).far hne _).far hne _
theorem R4.at (h : R4 w b p q r s) (i : Nat) (v : Value) : (w.setCell ⟨b, i, none⟩ v).heap[b]? = some (.cells ((#[.int .u64 p, .int .u64 q, .int .u64 r, .int .u64 s] : Array Value).setIfInBounds i v) 49 (0, 0)) := by
  unfold R4 at h
  simp [World.setCell, Array.getElem?_modify, h]
theorem R4.set0 (h : R4 w b p q r s) (x : Int) : R4 (w.setCell ⟨b, 0, none⟩ (.int .u64 x)) b x q r s := (h.at 0 _).trans rfl
theorem R4.set1 (h : R4 w b p q r s) (x : Int) : R4 (w.setCell ⟨b, 1, none⟩ (.int .u64 x)) b p x r s := (h.at 1 _).trans rfl
theorem R4.set2 (h : R4 w b p q r s) (x : Int) : R4 (w.setCell ⟨b, 2, none⟩ (.int .u64 x)) b p q x s := (h.at 2 _).trans rfl
theorem R4.set3 (h : R4 w b p q r s) (x : Int) : R4 (w.setCell ⟨b, 3, none⟩ (.int .u64 x)) b p q r x := (h.at 3 _).trans rfl
theorem R4.put (h : R4 w x p q r s) : R4 ((((w.setCell ⟨x, 0, none⟩ (.int .u64 p')).setCell ⟨x, 1, none⟩ (.int .u64 q')).setCell ⟨x, 2, none⟩ (.int .u64 r')).setCell ⟨x, 3, none⟩ (.int .u64 s')) x p' q' r' s' := (((h.set0 p').set1 q').set2 r').set3 s'
theorem below_putR4 {B : Nat} {a : World} (h : Below B a w) (hb : B ≤ x) : Below B a ((((w.setCell ⟨x, 0, none⟩ (.int .u64 p')).setCell ⟨x, 1, none⟩ (.int .u64 q')).setCell ⟨x, 2, none⟩ (.int .u64 r')).setCell ⟨x, 3, none⟩ (.int .u64 s')) := (((h.setCell hb _).setCell hb _).setCell hb _).setCell hb _
end
/-- A block of two words in memory: a number of the reference. -/
def R2 (w : World) (b : Nat) (p q : Int) : Prop := w.heap[b]? = some (.cells #[.int .u64 p, .int .u64 q] 31 (0, 0))
section
variable {w w' : World} {b x : Nat} {p q p' q' : Int}
theorem R2.lt (h : R2 w b p q) : b < w.heap.size := (Array.getElem?_eq_some_iff.1 h).1
theorem R2.below (h : R2 w b p q) (hb : Below w.heap.size w w') : R2 w' b p q := (hb.block b h.lt).trans h
theorem R2.new (w : World) (p q : Int) : R2 (w.alloc (.cells #[.int .u64 p, .int .u64 q] 31)) w.heap.size p q := show (w.heap.push _)[w.heap.size]? = some _ by simp
theorem R2.cells (h : R2 w b p q) : w.cell? ⟨b, 0, none⟩ = some (.int .u64 p) ∧ w.cell? ⟨b, 1, none⟩ = some (.int .u64 q) := by
  unfold R2 at h
  refine ⟨?_, ?_⟩ <;> simp [World.cell?, h]
theorem R2.free (h : R2 w b p q) : w.frozen? ⟨b, 0, none⟩ = false ∧ w.frozen? ⟨b, 1, none⟩ = false := by
  unfold R2 at h
  refine ⟨?_, ?_⟩ <;> simp [World.frozen?, h]
theorem R2.far (h : R2 w b p q) {a : Addr} (hne : b ≠ a.block) (u : Value) : R2 (w.setCell a u) b p q := (Below.heap_setCell w a u b hne).trans h
theorem R2.far2 (h : R2 w b p q) (hne : b ≠ x) (u v : Value) : R2 ((w.setCell ⟨x, 0, none⟩ u).setCell ⟨x, 1, none⟩ v) b p q := (h.far hne _).far hne _
theorem R2.at (h : R2 w b p q) (i : Nat) (v : Value) : (w.setCell ⟨b, i, none⟩ v).heap[b]? = some (.cells ((#[.int .u64 p, .int .u64 q] : Array Value).setIfInBounds i v) 31 (0, 0)) := by
  unfold R2 at h
  simp [World.setCell, Array.getElem?_modify, h]
theorem R2.set0 (h : R2 w b p q) (x : Int) : R2 (w.setCell ⟨b, 0, none⟩ (.int .u64 x)) b x q := (h.at 0 _).trans rfl
theorem R2.set1 (h : R2 w b p q) (x : Int) : R2 (w.setCell ⟨b, 1, none⟩ (.int .u64 x)) b p x := (h.at 1 _).trans rfl
theorem R2.put (h : R2 w x p q) : R2 ((w.setCell ⟨x, 0, none⟩ (.int .u64 p')).setCell ⟨x, 1, none⟩ (.int .u64 q')) x p' q' := (h.set0 p').set1 q'
theorem below_putR2 {B : Nat} {a : World} (h : Below B a w) (hb : B ≤ x) (u v : Value) : Below B a ((w.setCell ⟨x, 0, none⟩ u).setCell ⟨x, 1, none⟩ v) := (h.setCell hb _).setCell hb _
end
theorem r2_early {w v : World} (hb : Below (w.alloc (.cells #[.int .u64 0, .int .u64 0] 31)).heap.size (w.alloc (.cells #[.int .u64 0, .int .u64 0] 31)) v) : R2 v w.heap.size 0 0 := R2.below (R2.new w 0 0) hb
/-- Behind a region that lays one number. -/
def CutN (W0 : World) (h l : Int) (p : Value) (wr : World) : Prop := ∃ b, p = .pointer (some ⟨b, 0, none⟩) ∧ R2 wr b h l ∧ Below W0.heap.size W0 wr
theorem CutN.of {W0 x : World} {h l : Int} (hb : Below W0.heap.size W0 x) : CutN W0 h l (.pointer (some ⟨x.heap.size, 0, none⟩)) (x.alloc (.cells #[.int .u64 h, .int .u64 l] 31)) := ⟨_, rfl, R2.new x h l, below_alloc hb _⟩
theorem CutN.early {W0 x : World} {b : Nat} {h l : Int} (hb : Below W0.heap.size W0 x) (le : W0.heap.size ≤ b) (z : R2 x b 0 0) : CutN W0 h l (.pointer (some ⟨b, 0, none⟩)) ((x.setCell ⟨b, 0, none⟩ (.int .u64 h)).setCell ⟨b, 1, none⟩ (.int .u64 l)) := ⟨_, rfl, R2.put z, below_putR2 hb le _ _⟩
theorem hi_nat (n : Nat) : Wd.hi (n : Int) = ((hiW n : Nat) : Int) := by unfold Wd.hi hiW; omega
theorem lo_nat (n : Nat) : Wd.lo (n : Int) = ((loW n : Nat) : Int) := by unfold Wd.lo loW; omega
theorem rng_nat {n : Nat} (h : n < Q) : Wd.Rng (n : Int) := ⟨by omega, by have : n < 340282366920938463463374607431768211456 := h; omega⟩
theorem md_nat (n : Nat) : Wd.md (n : Int) = ((n % Q : Nat) : Int) := by unfold Wd.md; rw [Int.natCast_emod]; rfl
/-- A call that tells a number, or a number and a bool. -/
abbrev TNB (f : FuncId) (args : Array Value) (h l : Int) (c : Bool) : Prop := ∀ W : World, Calls Try.prog f args W (fun e w' => e = .returned (.tuple #[.agg #[.int .u64 h, .int .u64 l], .bool c]) ∧ Below W.heap.size W w')
theorem yMul {M N : Nat} (i : M < Q) (j : N < Q) : TN 28 #[.agg #[.int .u64 ((hiW M : Nat) : Int), .int .u64 ((loW M : Nat) : Int)], .agg #[.int .u64 ((hiW N : Nat) : Int), .int .u64 ((loW N : Nat) : Int)]] ((hiW (M * N % Q) : Nat) : Int) ((loW (M * N % Q) : Nat) : Int) := fun W => by
  have hn := rng_nat i
  have hm := rng_nat j
  have h := Wd.rMul (Wd.hi M) (Wd.lo M) (Wd.hi N) (Wd.lo N) (Wd.hi0 hn) (Wd.hi1 hn) (Wd.lo0 M) (Wd.lo1 M) (Wd.hi0 hm) (Wd.hi1 hm) (Wd.lo0 N) (Wd.lo1 N) W
  rw [Wd.hilo, Wd.hilo] at h
  have q := h.mono fun _ _ q => Wd.n1_of q
  rw [show (M : Int) * (N : Int) % 340282366920938463463374607431768211456 = ((M * N % Q : Nat) : Int) by rw [Int.natCast_emod, Int.natCast_mul]; rfl] at q
  unfold Wd.N1 at q
  simp only [hi_nat, lo_nat] at q
  exact q
theorem yAdd {M N : Nat} (i : M < Q) (j : N < Q) : TNB 27 #[.agg #[.int .u64 ((hiW M : Nat) : Int), .int .u64 ((loW M : Nat) : Int)], .agg #[.int .u64 ((hiW N : Nat) : Int), .int .u64 ((loW N : Nat) : Int)]] ((hiW ((M + N) % Q) : Nat) : Int) ((loW ((M + N) % Q) : Nat) : Int) (decide ((340282366920938463463374607431768211456 : Int) ≤ (M : Int) + (N : Int))) := fun W => by
  have q := Wd.rAddN M N (rng_nat i) (rng_nat j) W
  rw [show Wd.md ((M : Int) + (N : Int)) = (((M + N) % Q : Nat) : Int) by rw [← Int.natCast_add]; exact md_nat _] at q
  unfold Wd.N2 at q
  simp only [hi_nat, lo_nat] at q
  exact q
theorem ySub {M N : Nat} (i : M < Q) (j : N < Q) : TNB 41 #[.agg #[.int .u64 ((hiW M : Nat) : Int), .int .u64 ((loW M : Nat) : Int)], .agg #[.int .u64 ((hiW N : Nat) : Int), .int .u64 ((loW N : Nat) : Int)]] ((hiW ((M + (Q - N)) % Q) : Nat) : Int) ((loW ((M + (Q - N)) % Q) : Nat) : Int) (decide ((M : Int) < (N : Int))) := fun W => by
  have q := Wd.rSubN M N (rng_nat i) (rng_nat j) W
  rw [show Wd.md ((M : Int) - (N : Int)) = (((M + (Q - N)) % Q : Nat) : Int) by
    unfold Wd.md
    have : N < 340282366920938463463374607431768211456 := j
    show _ = (((M + (340282366920938463463374607431768211456 - N)) % 340282366920938463463374607431768211456 : Nat) : Int)
    omega] at q
  unfold Wd.N2 at q
  simp only [hi_nat, lo_nat] at q
  exact q
end Go.Proofs.Ythnmekieanndgaa
