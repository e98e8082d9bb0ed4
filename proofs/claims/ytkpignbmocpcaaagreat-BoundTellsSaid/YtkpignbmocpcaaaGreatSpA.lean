/-
  Numbers of 128 bits and spans: a number and its two words, a span and its four words, as values and in memory; what Of, Add, Sub, Cmp and Right of package wide answer for them.
-/
import Derived.Test.YtkpignbmocpcaaaGreatWideC
namespace Go.Proofs.YtkpignbmocpcaaaGreat
open Go.RowKit
set_option linter.unusedVariables false
set_option maxRecDepth 100000

abbrev Q : Nat := 340282366920938463463374607431768211456
theorem below_then {w W w' : World} (h : Below w.heap.size w W) (hb : Below W.heap.size W w') : Below w.heap.size w w' := h.trans (hb.mono h.size)
theorem below_upto {B : Nat} {w W w' : World} (h : Below B w W) (hB : B ≤ W.heap.size) (hb : Below W.heap.size W w') : Below B w w' := h.trans (hb.mono hB)
theorem below_allocs (w : World) (o : Obj) : Below w.heap.size w (w.alloc o) := (Below.refl _ _).alloc (Nat.le_refl _) o
theorem below_drew (w : World) : Below w.heap.size w w.drew := ⟨rfl, rfl, rfl, Nat.le_refl _, fun _ _ => rfl⟩
/-- h and l are the two words of N. -/
structure Wn (h l : Int) (N : Nat) : Prop where
  h0 : 0 ≤ h
  h1 : h < 18446744073709551616
  l0 : 0 ≤ l
  l1 : l < 18446744073709551616
  eq : h * 18446744073709551616 + l = (N : Int)
def hiW (N : Nat) : Nat := N / 18446744073709551616
def loW (N : Nat) : Nat := N % 18446744073709551616
theorem Wn.of {h l : Int} {N : Nat} (k : Wn h l N) : h = ((hiW N : Nat) : Int) ∧ l = ((loW N : Nat) : Int) := by
  obtain ⟨a, b, c, d, e⟩ := k
  unfold hiW loW
  omega
theorem Wn.lt {h l : Int} {N : Nat} (k : Wn h l N) : N < 340282366920938463463374607431768211456 := by
  obtain ⟨a, b, c, d, e⟩ := k
  omega
theorem wn_of {N : Nat} (h : N < 340282366920938463463374607431768211456) : Wn ((hiW N : Nat) : Int) ((loW N : Nat) : Int) N := by
  unfold hiW loW
  exact ⟨by omega, by omega, by omega, by omega, by omega⟩
theorem wn_inj {h l : Int} {N M : Nat} (k : Wn h l N) (j : Wn h l M) : N = M := by
  have a := k.eq
  have b := j.eq
  omega
/-- Answers. -/
def AnsW (N : Nat) (w : World) (e : Ending) (w' : World) : Prop := e = .returned (.agg #[.int .u64 ((hiW N : Nat) : Int), .int .u64 ((loW N : Nat) : Int)]) ∧ Below w.heap.size w w'
def AnsWB (N : Nat) (c : Bool) (w : World) (e : Ending) (w' : World) : Prop := e = .returned (.tuple #[.agg #[.int .u64 ((hiW N : Nat) : Int), .int .u64 ((loW N : Nat) : Int)], .bool c]) ∧ Below w.heap.size w w'
def AnsI (n : Int) (w : World) (e : Ending) (w' : World) : Prop := e = .returned (.int .i64 n) ∧ Below w.heap.size w w'
def AnsB (b : Bool) (w : World) (e : Ending) (w' : World) : Prop := e = .returned (.bool b) ∧ Below w.heap.size w w'
theorem ansW_of {h l : Int} {N : Nat} {w w' : World} (k : Wn h l N) (hb : Below w.heap.size w w') : AnsW N w (.returned (.agg #[.int .u64 h, .int .u64 l])) w' := by
  obtain ⟨rfl, rfl⟩ := k.of
  exact ⟨rfl, hb⟩
theorem wn_is {h l n : Int} {N : Nat} (k : Wd.Is n h l) (e : n = (N : Int)) : Wn h l N := by
  obtain ⟨a, b, c, d, f⟩ := k
  exact ⟨a, b, c, d, by omega⟩
/-- How two numbers stand. -/
def cmpN (M N : Nat) : Int := if M = N then 0 else if M < N then -1 else 1
theorem cmpN_le (M N : Nat) : decide (cmpN M N ≤ 0) = decide (M ≤ N) := decide_eq_decide.2 (by unfold cmpN; split <;> (try split) <;> omega)
theorem cmpN_lt (M N : Nat) : decide (cmpN M N < 0) = decide (M < N) := decide_eq_decide.2 (by unfold cmpN; split <;> (try split) <;> omega)
theorem cmpN_ge (M N : Nat) : decide (0 ≤ cmpN M N) = decide (N ≤ M) := decide_eq_decide.2 (by unfold cmpN; split <;> (try split) <;> omega)
theorem cmpN_gt (M N : Nat) : decide (0 < cmpN M N) = decide (N < M) := decide_eq_decide.2 (by unfold cmpN; split <;> (try split) <;> omega)
theorem cmpN_int (M N : Nat) : Wd.cmpOf (M : Int) (N : Int) = cmpN M N := by
  unfold Wd.cmpOf cmpN
  by_cases h : M = N
  · subst h; simp
  · rw [if_neg (by omega), if_neg h]
    by_cases h2 : M < N
    · rw [if_pos (by omega), if_pos h2]
    · rw [if_neg (by omega), if_neg h2]
theorem cOf (n : Nat) (x : Int) (e : (n : Int) = x) (h : n < 18446744073709551616) (w : World) : Calls Tryz.prog 10 #[.int .u64 x] w (AnsW n w) := by
  subst e
  refine (Wd.wOf (n : Int) (by omega) (by omega) w).mono ?_
  rintro e w' ⟨h, l, ⟨rfl, rfl⟩, rfl, hb⟩
  exact ansW_of ⟨by omega, by omega, by omega, by omega, by omega⟩ hb
theorem cAdd {a b c d : Int} {M N : Nat} (i : Wn a b M) (j : Wn c d N) (w : World) :
    Calls Tryz.prog 9 #[.agg #[.int .u64 a, .int .u64 b], .agg #[.int .u64 c, .int .u64 d]] w (AnsWB ((M + N) % Q) (decide (Q ≤ M + N)) w) := by
  have h := Wd.wAdd a b c d i.h0 i.h1 i.l0 i.l1 j.h0 j.h1 j.l0 j.l1 w
  rw [i.eq, j.eq] at h
  refine h.mono ?_
  rintro e w' ⟨x, y, z, ⟨k, hz⟩, rfl, hb⟩
  obtain ⟨rfl, rfl⟩ := (wn_is (N := (M + N) % 340282366920938463463374607431768211456) k (by omega)).of
  refine ⟨?_, hb⟩
  rw [hz]
  have : decide ((340282366920938463463374607431768211456 : Int) ≤ (M : Int) + (N : Int)) = decide (Q ≤ M + N) := decide_eq_decide.2 (by
    show (340282366920938463463374607431768211456 : Int) ≤ _ ↔ 340282366920938463463374607431768211456 ≤ M + N
    omega)
  rw [this]
theorem cSub {a b c d : Int} {M N : Nat} (i : Wn a b M) (j : Wn c d N) (w : World) :
    Calls Tryz.prog 42 #[.agg #[.int .u64 a, .int .u64 b], .agg #[.int .u64 c, .int .u64 d]] w (AnsWB ((M + Q - N) % Q) (decide (M < N)) w) := by
  have lM := i.lt
  have lN := j.lt
  have h := Wd.wSub a b c d i.h0 i.h1 i.l0 i.l1 j.h0 j.h1 j.l0 j.l1 w
  rw [i.eq, j.eq] at h
  refine h.mono ?_
  rintro e w' ⟨x, y, z, ⟨k, hz⟩, rfl, hb⟩
  obtain ⟨rfl, rfl⟩ := (wn_is (N := (M + 340282366920938463463374607431768211456 - N) % 340282366920938463463374607431768211456) k (by omega)).of
  refine ⟨?_, hb⟩
  rw [hz]
  have : decide ((M : Int) < (N : Int)) = decide (M < N) := decide_eq_decide.2 (by omega)
  rw [this]
theorem cCmp {a b c d : Int} {M N : Nat} (i : Wn a b M) (j : Wn c d N) (w : World) :
    Calls Tryz.prog 12 #[.agg #[.int .u64 a, .int .u64 b], .agg #[.int .u64 c, .int .u64 d]] w (AnsI (cmpN M N) w) := by
  have h := Wd.wCmp a b c d i.h0 i.h1 i.l0 i.l1 j.h0 j.h1 j.l0 j.l1 w
  rw [i.eq, j.eq, cmpN_int] at h
  refine h.mono ?_
  rintro e w' ⟨n, rfl, rfl, hb⟩
  exact ⟨rfl, hb⟩
theorem cRight1 {a b : Int} {M : Nat} (i : Wn a b M) (w : World) :
    Calls Tryz.prog 144 #[.agg #[.int .u64 a, .int .u64 b], .int .i64 1] w (AnsW (M / 2) w) := by
  have h := Wd.wRight a b 1 i.h0 i.h1 i.l0 i.l1 w
  rw [i.eq] at h
  refine h.mono ?_
  rintro e w' ⟨x, y, k, rfl, hb⟩
  exact ansW_of (wn_is k (by rw [show (1 : Int).toNat = 1 from rfl]; omega)) hb
/-- A block of two words; a block of four. -/
def UB (t : TypeId) (w : World) (b : Nat) (p q : Int) : Prop := w.heap[b]? = some (.cells #[.int .u64 p, .int .u64 q] t (0, 0))
def SB (t : TypeId) (w : World) (b : Nat) (p q r s : Int) : Prop := w.heap[b]? = some (.cells #[.int .u64 p, .int .u64 q, .int .u64 r, .int .u64 s] t (0, 0))
section
variable {t : TypeId} {w w' : World} {b x : Nat} {p q r s p' q' r' s' : Int}
theorem UB.lt (h : UB t w b p q) : b < w.heap.size := (Array.getElem?_eq_some_iff.1 h).1
theorem UB.below (h : UB t w b p q) (hb : Below w.heap.size w w') : UB t w' b p q := (hb.block b h.lt).trans h
theorem UB.new (w : World) (p q : Int) (t : TypeId) : UB t (w.alloc (.cells #[.int .u64 p, .int .u64 q] t)) w.heap.size p q := show (w.heap.push _)[w.heap.size]? = some _ by simp
theorem UB.cells (h : UB t w b p q) : w.cell? ⟨b, 0, none⟩ = some (.int .u64 p) ∧ w.cell? ⟨b, 1, none⟩ = some (.int .u64 q) := by
  unfold UB at h
  refine ⟨?_, ?_⟩ <;> simp [World.cell?, h]
theorem UB.free (h : UB t w b p q) : w.frozen? ⟨b, 0, none⟩ = false ∧ w.frozen? ⟨b, 1, none⟩ = false := by
  unfold UB at h
  refine ⟨?_, ?_⟩ <;> simp [World.frozen?, h]
theorem UB.far (h : UB t w b p q) {a : Addr} (hne : b ≠ a.block) (u : Value) : UB t (w.setCell a u) b p q := (Below.heap_setCell w a u b hne).trans h
theorem UB.at (h : UB t w b p q) (i : Nat) (v : Value) : (w.setCell ⟨b, i, none⟩ v).heap[b]? = some (.cells ((#[.int .u64 p, .int .u64 q] : Array Value).setIfInBounds i v) t (0, 0)) := by
  unfold UB at h
  simp [World.setCell, Array.getElem?_modify, h]
theorem UB.set0 (h : UB t w b p q) (x : Int) : UB t (w.setCell ⟨b, 0, none⟩ (.int .u64 x)) b x q := (h.at 0 _).trans rfl
theorem UB.set1 (h : UB t w b p q) (x : Int) : UB t (w.setCell ⟨b, 1, none⟩ (.int .u64 x)) b p x := (h.at 1 _).trans rfl
theorem UB.put (h : UB t w x p q) : UB t ((w.setCell ⟨x, 0, none⟩ (.int .u64 p')).setCell ⟨x, 1, none⟩ (.int .u64 q')) x p' q' := (h.set0 p').set1 q'
theorem SB.lt (h : SB t w b p q r s) : b < w.heap.size := (Array.getElem?_eq_some_iff.1 h).1
theorem SB.below (h : SB t w b p q r s) (hb : Below w.heap.size w w') : SB t w' b p q r s := (hb.block b h.lt).trans h
theorem SB.new (w : World) (p q r s : Int) (t : TypeId) : SB t (w.alloc (.cells #[.int .u64 p, .int .u64 q, .int .u64 r, .int .u64 s] t)) w.heap.size p q r s := show (w.heap.push _)[w.heap.size]? = some _ by simp
theorem SB.cells (h : SB t w b p q r s) : w.cell? ⟨b, 0, none⟩ = some (.int .u64 p) ∧ w.cell? ⟨b, 1, none⟩ = some (.int .u64 q) ∧ w.cell? ⟨b, 2, none⟩ = some (.int .u64 r) ∧ w.cell? ⟨b, 3, none⟩ = some (.int .u64 s) := by
  unfold SB at h
  refine ⟨?_, ?_, ?_, ?_⟩ <;> simp [World.cell?, h]
theorem SB.free (h : SB t w b p q r s) : w.frozen? ⟨b, 0, none⟩ = false ∧ w.frozen? ⟨b, 1, none⟩ = false ∧ w.frozen? ⟨b, 2, none⟩ = false ∧ w.frozen? ⟨b, 3, none⟩ = false := by
  unfold SB at h
  refine ⟨?_, ?_, ?_, ?_⟩ <;> simp [World.frozen?, h]
theorem SB.far (h : SB t w b p q r s) {a : Addr} (hne : b ≠ a.block) (u : Value) : SB t (w.setCell a u) b p q r s := (Below.heap_setCell w a u b hne).trans h
theorem SB.at (h : SB t w b p q r s) (i : Nat) (v : Value) : (w.setCell ⟨b, i, none⟩ v).heap[b]? = some (.cells ((#[.int .u64 p, .int .u64 q, .int .u64 r, .int .u64 s] : Array Value).setIfInBounds i v) t (0, 0)) := by
  unfold SB at h
  simp [World.setCell, Array.getElem?_modify, h]
theorem SB.set0 (h : SB t w b p q r s) (x : Int) : SB t (w.setCell ⟨b, 0, none⟩ (.int .u64 x)) b x q r s := (h.at 0 _).trans rfl
theorem SB.set1 (h : SB t w b p q r s) (x : Int) : SB t (w.setCell ⟨b, 1, none⟩ (.int .u64 x)) b p x r s := (h.at 1 _).trans rfl
theorem SB.set2 (h : SB t w b p q r s) (x : Int) : SB t (w.setCell ⟨b, 2, none⟩ (.int .u64 x)) b p q x s := (h.at 2 _).trans rfl
theorem SB.set3 (h : SB t w b p q r s) (x : Int) : SB t (w.setCell ⟨b, 3, none⟩ (.int .u64 x)) b p q r x := (h.at 3 _).trans rfl
theorem SB.put (h : SB t w x p q r s) : SB t ((((w.setCell ⟨x, 0, none⟩ (.int .u64 p')).setCell ⟨x, 1, none⟩ (.int .u64 q')).setCell ⟨x, 2, none⟩ (.int .u64 r')).setCell ⟨x, 3, none⟩ (.int .u64 s')) x p' q' r' s' := (((h.set0 p').set1 q').set2 r').set3 s'
theorem UB.far2 (h : UB t w b p q) (hne : b ≠ x) (u v : Value) : UB t ((w.setCell ⟨x, 0, none⟩ u).setCell ⟨x, 1, none⟩ v) b p q := (h.far hne _).far hne _
theorem SB.far2 (h : SB t w b p q r s) (hne : b ≠ x) (u v : Value) : SB t ((w.setCell ⟨x, 0, none⟩ u).setCell ⟨x, 1, none⟩ v) b p q r s := (h.far hne _).far hne _
theorem UB.far4 (h : UB t w b p q) (hne : b ≠ x) (u v y z : Value) : UB t ((((w.setCell ⟨x, 0, none⟩ u).setCell ⟨x, 1, none⟩ v).setCell ⟨x, 2, none⟩ y).setCell ⟨x, 3, none⟩ z) b p q := (((h.far hne u).far hne v).far hne y).far hne z
theorem SB.far4 (h : SB t w b p q r s) (hne : b ≠ x) (u v y z : Value) : SB t ((((w.setCell ⟨x, 0, none⟩ u).setCell ⟨x, 1, none⟩ v).setCell ⟨x, 2, none⟩ y).setCell ⟨x, 3, none⟩ z) b p q r s := (((h.far hne u).far hne v).far hne y).far hne z
theorem UB.drew (h : UB t w b p q) : UB t w.drew b p q := h
theorem SB.drew (h : SB t w b p q r s) : SB t w.drew b p q r s := h
theorem below_put2 {B : Nat} {a : World} (h : Below B a w) (hb : B ≤ x) (u v : Value) : Below B a ((w.setCell ⟨x, 0, none⟩ u).setCell ⟨x, 1, none⟩ v) := (h.setCell hb _).setCell hb _
theorem below_put4 {B : Nat} {a : World} (h : Below B a w) (hb : B ≤ x) (u v y z : Value) : Below B a ((((w.setCell ⟨x, 0, none⟩ u).setCell ⟨x, 1, none⟩ v).setCell ⟨x, 2, none⟩ y).setCell ⟨x, 3, none⟩ z) := (((h.setCell hb _).setCell hb _).setCell hb _).setCell hb _
end
/-- A span. -/
structure Sp where
  f : Nat
  t : Nat
  deriving DecidableEq, Inhabited
def Sp.Ok (s : Sp) : Prop := s.f < Q ∧ s.t < Q
abbrev Sp.val (s : Sp) : Value := .agg #[.int .u64 ((hiW s.f : Nat) : Int), .int .u64 ((loW s.f : Nat) : Int), .int .u64 ((hiW s.t : Nat) : Int), .int .u64 ((loW s.t : Nat) : Int)]
abbrev wv (n : Nat) : Value := .agg #[.int .u64 ((hiW n : Nat) : Int), .int .u64 ((loW n : Nat) : Int)]
def enc (s : Sp) : List Value := [.int .u64 ((hiW s.f : Nat) : Int), .int .u64 ((loW s.f : Nat) : Int), .int .u64 ((hiW s.t : Nat) : Int), .int .u64 ((loW s.t : Nat) : Int)]
def AnsS (s : Sp) (w : World) (e : Ending) (w' : World) : Prop := e = .returned s.val ∧ Below w.heap.size w w'
def AnsSS (s t : Sp) (k : Int) (w : World) (e : Ending) (w' : World) : Prop := e = .returned (.tuple #[s.val, t.val, .int .i64 k]) ∧ Below w.heap.size w w'
end Go.Proofs.YtkpignbmocpcaaaGreat
