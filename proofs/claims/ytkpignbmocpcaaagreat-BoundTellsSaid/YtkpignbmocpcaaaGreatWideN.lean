/-
  The calls of package wide, said of numbers: a number n below 2^128 is laid as its two words, hi n and lo n.
-/
import Derived.Test.YtkpignbmocpcaaaGreatWideB
import Derived.Test.YtkpignbmocpcaaaGreatWideC
import Derived.Test.YtkpignbmocpcaaaGreatWideD
import Derived.LoopTactic
import Derived.Deep.RegionHeld3
import Derived.Deep.DeepCutAuto
namespace Go.Proofs.YtkpignbmocpcaaaGreat.Wd
open Go.RowKit
set_option linter.unusedVariables false

def hi (n : Int) : Int := n / 18446744073709551616
def lo (n : Int) : Int := n % 18446744073709551616
/-- Below 2^128. -/
def Rng (n : Int) : Prop := 0 ≤ n ∧ n < 340282366920938463463374607431768211456
/-- 2^128. -/
def md (n : Int) : Int := n % 340282366920938463463374607431768211456
theorem rng_md (n : Int) : Rng (md n) := ⟨Int.emod_nonneg _ (by decide), Int.emod_lt_of_pos _ (by decide)⟩
theorem md_of (n : Int) (h : Rng n) : md n = n := Int.emod_eq_of_lt h.1 h.2
theorem hilo (n : Int) : hi n * 18446744073709551616 + lo n = n := by unfold hi lo; omega
theorem hi0 {n : Int} (h : Rng n) : 0 ≤ hi n := by have := h.1; unfold hi; omega
theorem hi1 {n : Int} (h : Rng n) : hi n < 18446744073709551616 := by have := h.2; unfold hi; omega
theorem lo0 (n : Int) : 0 ≤ lo n := by unfold lo; omega
theorem lo1 (n : Int) : lo n < 18446744073709551616 := by unfold lo; omega
theorem of_is {n h l : Int} (i : Is n h l) : h = hi n ∧ l = lo n := by
  obtain ⟨a, b, c, d, e⟩ := i
  unfold hi lo
  omega
theorem hi_inj {n m : Int} (h1 : hi n = hi m) (h2 : lo n = lo m) : n = m := by rw [← hilo n, ← hilo m, h1, h2]
theorem rng_div {n : Int} (h : Rng n) (k : Nat) : Rng (n / 2 ^ k) := by
  obtain ⟨a, b⟩ := h
  refine ⟨Int.ediv_nonneg a (Int.le_of_lt (Int.pow_pos (by decide))), Int.lt_of_le_of_lt ?_ b⟩
  exact Int.ediv_le_self _ a

def N1 (n : Int) (w : World) (e : Ending) (w' : World) : Prop := e = .returned (.agg #[.int .u64 (hi n), .int .u64 (lo n)]) ∧ Below w.heap.size w w'
def N2 (n : Int) (c : Bool) (w : World) (e : Ending) (w' : World) : Prop := e = .returned (.tuple #[.agg #[.int .u64 (hi n), .int .u64 (lo n)], .bool c]) ∧ Below w.heap.size w w'
def N3 (n : Int) (d : Int) (w : World) (e : Ending) (w' : World) : Prop := e = .returned (.tuple #[.agg #[.int .u64 (hi n), .int .u64 (lo n)], .int .i64 d]) ∧ Below w.heap.size w w'
def NI (n : Int) (w : World) (e : Ending) (w' : World) : Prop := e = .returned (.int .i64 n) ∧ Below w.heap.size w w'

theorem n1_of {n : Int} {w : World} {e : Ending} {w' : World} (h : U1 (fun h l => Is n h l) w e w') : N1 n w e w' := by
  obtain ⟨h, l, i, rfl, hb⟩ := h
  obtain ⟨rfl, rfl⟩ := of_is i
  exact ⟨rfl, hb⟩

theorem nAdd (n m : Int) (hn : Rng n) (hm : Rng m) (w : World) :
    Calls Tryz.prog 9 #[.agg #[.int .u64 (hi n), .int .u64 (lo n)], .agg #[.int .u64 (hi m), .int .u64 (lo m)]] w (N2 (md (n + m)) (decide (340282366920938463463374607431768211456 ≤ n + m)) w) := by
  have h := wAdd (hi n) (lo n) (hi m) (lo m) (hi0 hn) (hi1 hn) (lo0 n) (lo1 n) (hi0 hm) (hi1 hm) (lo0 m) (lo1 m) w
  rw [hilo, hilo] at h
  refine h.mono ?_
  rintro e w' ⟨h, l, c, ⟨i, rfl⟩, rfl, hb⟩
  obtain ⟨rfl, rfl⟩ := of_is i
  exact ⟨rfl, hb⟩
theorem nSub (n m : Int) (hn : Rng n) (hm : Rng m) (w : World) :
    Calls Tryz.prog 42 #[.agg #[.int .u64 (hi n), .int .u64 (lo n)], .agg #[.int .u64 (hi m), .int .u64 (lo m)]] w (N2 (md (n - m)) (decide (n < m)) w) := by
  have h := wSub (hi n) (lo n) (hi m) (lo m) (hi0 hn) (hi1 hn) (lo0 n) (lo1 n) (hi0 hm) (hi1 hm) (lo0 m) (lo1 m) w
  rw [hilo, hilo] at h
  refine h.mono ?_
  rintro e w' ⟨h, l, c, ⟨i, rfl⟩, rfl, hb⟩
  obtain ⟨rfl, rfl⟩ := of_is i
  exact ⟨rfl, hb⟩
theorem nMul (n m : Int) (hn : Rng n) (hm : Rng m) (w : World) :
    Calls Tryz.prog 11 #[.agg #[.int .u64 (hi n), .int .u64 (lo n)], .agg #[.int .u64 (hi m), .int .u64 (lo m)]] w (N1 (md (n * m)) w) := by
  have h := wMul (hi n) (lo n) (hi m) (lo m) (hi0 hn) (hi1 hn) (lo0 n) (lo1 n) (hi0 hm) (hi1 hm) (lo0 m) (lo1 m) w
  rw [hilo, hilo] at h
  exact h.mono fun _ _ q => n1_of q
theorem nMulAs (n m k : Int) (hn : Rng n) (hm : Rng m) (e : md (n * m) = k) (w : World) :
    Calls Tryz.prog 11 #[.agg #[.int .u64 (hi n), .int .u64 (lo n)], .agg #[.int .u64 (hi m), .int .u64 (lo m)]] w (N1 k w) := by
  subst e; exact nMul n m hn hm w
theorem nCmp (n m : Int) (hn : Rng n) (hm : Rng m) (w : World) :
    Calls Tryz.prog 12 #[.agg #[.int .u64 (hi n), .int .u64 (lo n)], .agg #[.int .u64 (hi m), .int .u64 (lo m)]] w (NI (cmpOf n m) w) := by
  have h := wCmp (hi n) (lo n) (hi m) (lo m) (hi0 hn) (hi1 hn) (lo0 n) (lo1 n) (hi0 hm) (hi1 hm) (lo0 m) (lo1 m) w
  rw [hilo, hilo] at h
  refine h.mono ?_
  rintro e w' ⟨r, rfl, rfl, hb⟩
  exact ⟨rfl, hb⟩
theorem nOf (n : Int) (h0 : 0 ≤ n) (h1 : n < 18446744073709551616) (w : World) :
    Calls Tryz.prog 10 #[.int .u64 n] w (N1 n w) := by
  refine (wOf n h0 h1 w).mono ?_
  rintro e w' ⟨h, l, ⟨rfl, rfl⟩, rfl, hb⟩
  have e1 : hi l = 0 := by unfold hi; omega
  have e2 : lo l = l := by unfold lo; omega
  refine ⟨?_, hb⟩
  rw [e1, e2]
theorem nFull (n m : Int) (h0 : 0 ≤ n) (h1 : n < 18446744073709551616) (m0 : 0 ≤ m) (m1 : m < 18446744073709551616) (w : World) :
    Calls Tryz.prog 18 #[.int .u64 n, .int .u64 m] w (N1 (n * m) w) :=
  (wFull n m h0 h1 m0 m1 w).mono fun _ _ q => n1_of q
theorem nLeft (n k : Int) (hn : Rng n) (w : World) :
    Calls Tryz.prog 46 #[.agg #[.int .u64 (hi n), .int .u64 (lo n)], .int .i64 k] w (N1 (md (n * 2 ^ k.toNat)) w) := by
  have h := wLeft (hi n) (lo n) k (hi0 hn) (hi1 hn) (lo0 n) (lo1 n) w
  rw [hilo] at h
  exact h.mono fun _ _ q => n1_of q
theorem nRight (n k : Int) (hn : Rng n) (w : World) :
    Calls Tryz.prog 144 #[.agg #[.int .u64 (hi n), .int .u64 (lo n)], .int .i64 k] w (N1 (n / 2 ^ k.toNat) w) := by
  have h := wRight (hi n) (lo n) k (hi0 hn) (hi1 hn) (lo0 n) (lo1 n) w
  rw [hilo] at h
  exact h.mono fun _ _ q => n1_of q
theorem nBit (n k : Int) (hn : Rng n) (w : World) :
    Calls Tryz.prog 133 #[.agg #[.int .u64 (hi n), .int .u64 (lo n)], .int .i64 k] w (NI (bitOf n k) w) := by
  have h := wBit (hi n) (lo n) k (hi0 hn) (hi1 hn) (lo0 n) (lo1 n) w
  rw [hilo] at h
  refine h.mono ?_
  rintro e w' ⟨r, rfl, rfl, hb⟩
  exact ⟨rfl, hb⟩
/-- What all these blocks hold: a block, a number. -/
def Keeps : List (Nat × Int) → World → Prop
  | [], _ => True
  | x :: xs, w => Has w x.1 (hi x.2) (lo x.2) ∧ Keeps xs w
theorem Keeps.below : ∀ {L : List (Nat × Int)} {W w' : World}, Keeps L W → Below W.heap.size W w' → Keeps L w'
  | [], _, _, _, _ => trivial
  | _ :: _, _, _, k, hb => ⟨k.1.below hb, Keeps.below k.2 hb⟩
theorem Keeps.alloc {L : List (Nat × Int)} {W : World} (k : Keeps L W) (o : Obj) : Keeps L (W.alloc o) :=
  k.below ((Below.refl _ _).alloc (Nat.le_refl _) _)
theorem Keeps.new {L : List (Nat × Int)} {W : World} (k : Keeps L W) (n : Int) (t : TypeId) : Keeps ((W.heap.size, n) :: L) (W.alloc (.cells #[.int .u64 (hi n), .int .u64 (lo n)] t)) :=
  ⟨Has.fresh _ _ _ _, k.alloc _⟩
theorem Own.drew {W : World} {b : Nat} {u v : Value} (k : Own W b u v) : Own W.drew b u v := k
theorem Own.has {W : World} {b : Nat} {u v : Value} (k : Own W b u v) (h l : Int) : Has ((W.setCell ⟨b, 0, none⟩ (.int .u64 h)).setCell ⟨b, 1, none⟩ (.int .u64 l)) b h l := by
  have n1 : (⟨b, 1, none⟩ : Addr) ≠ ⟨b, 0, none⟩ := fun q => by injection q with _ q; omega
  have n2 : (⟨b, 0, none⟩ : Addr) ≠ ⟨b, 1, none⟩ := fun q => by injection q with _ q; omega
  refine ⟨by simpa [World.setCell] using k.1, ?_, ?_⟩
  · rw [World.cell?_setCell_other _ _ _ _ n1]; exact World.cell?_setCell_same _ _ _ k.2.1
  · exact World.cell?_setCell_same _ _ _ ((World.cell?_setCell_other _ _ _ _ n2).trans k.2.2.1)
theorem Keeps.drew {L : List (Nat × Int)} {W : World} (k : Keeps L W) : Keeps L W.drew := k.below (Below.refl _ _).drew
theorem Keeps.set {L : List (Nat × Int)} {W0 W : World} {b : Nat} {x y : Value} (K : Keeps L W0) (hX : Below W0.heap.size W0 W) (O : Own W b x y) (hb : W0.heap.size ≤ b) (u v : Value) :
    Keeps L ((W.setCell ⟨b, 0, none⟩ u).setCell ⟨b, 1, none⟩ v) := K.below ((hX.setCell hb _).setCell hb _)
/-- Behind a statement that lays a new number: where it lies, what it is, what else is known. -/
def CutU (w : World) (L : List (Nat × Int)) (v : Int) (s t : Value) (wx : World) : Prop :=
  ∃ (b : Nat) (c : Bool), s = .pointer (some ⟨b, 0, none⟩) ∧ t = .bool c ∧ Has wx b (hi v) (lo v) ∧ Keeps L wx ∧ Below w.heap.size w wx
theorem cutU_fresh {w W0 W : World} {L : List (Nat × Int)} {v : Int} {c : Bool} {t : TypeId} (K : Keeps L W0) (hB : Below w.heap.size w W0) (hX : Below W0.heap.size W0 W) :
    CutU w L v (.pointer (some ⟨W.heap.size, 0, none⟩)) (.bool c) (W.alloc (.cells #[.int .u64 (hi v), .int .u64 (lo v)] t)) :=
  ⟨_, c, rfl, rfl, Has.fresh _ _ _ _, (K.below hX).alloc _, below_alloc (below_then hB hX) _⟩
theorem cutU_set {w W0 W : World} {L : List (Nat × Int)} {v : Int} {c : Bool} {b : Nat} {x y : Value} (K : Keeps L W0) (hB : Below w.heap.size w W0) (hX : Below W0.heap.size W0 W) (O : Own W b x y) (hb : W0.heap.size ≤ b) :
    CutU w L v (.pointer (some ⟨b, 0, none⟩)) (.bool c) ((W.setCell ⟨b, 0, none⟩ (.int .u64 (hi v))).setCell ⟨b, 1, none⟩ (.int .u64 (lo v))) :=
  have hX' : Below W0.heap.size W0 ((W.setCell ⟨b, 0, none⟩ (.int .u64 (hi v))).setCell ⟨b, 1, none⟩ (.int .u64 (lo v))) := (hX.setCell hb _).setCell hb _
  ⟨b, c, rfl, rfl, O.has _ _, K.below hX', below_then hB hX'⟩
end Go.Proofs.YtkpignbmocpcaaaGreat.Wd
