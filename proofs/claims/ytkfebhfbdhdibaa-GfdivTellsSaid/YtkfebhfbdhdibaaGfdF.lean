/-
  What the closure of Inverse does, and a turn of greatest with it.
-/
import Derived.Test.YtkfebhfbdhdibaaGfdE
namespace Go.Proofs.Ytkfebhfbdhdibaa
open Go.RowKit G
set_option linter.unusedVariables false

/-- Nothing of what was there has turned but two blocks. -/
structure But2 (x y : Nat) (w w' : World) : Prop where
  os : w'.os = w.os
  tape : w'.tape = w.tape
  output : w'.output = w.output
  size : w.heap.size ≤ w'.heap.size
  block : ∀ k, k < w.heap.size → k ≠ x → k ≠ y → w'.heap[k]? = w.heap[k]?
theorem But2.of_below {x y : Nat} {w w' : World} (h : Below w.heap.size w w') : But2 x y w w' := ⟨h.os, h.tape, h.output, h.size, fun k hk _ _ => h.block k hk⟩
theorem But2.set1 {x y : Nat} {a w : World} (h : But2 x y a w) (u : Value) : But2 x y a (w.setCell ⟨x, 0, none⟩ u) :=
  ⟨h.os, h.tape, h.output, by simpa [World.setCell] using h.size, fun k hk h1 h2 => (Below.heap_setCell w ⟨x, 0, none⟩ u k h1).trans (h.block k hk h1 h2)⟩
theorem But2.set2 {x y : Nat} {a w : World} (h : But2 x y a w) (u : Value) : But2 x y a (w.setCell ⟨y, 0, none⟩ u) :=
  ⟨h.os, h.tape, h.output, by simpa [World.setCell] using h.size, fun k hk h1 h2 => (Below.heap_setCell w ⟨y, 0, none⟩ u k h2).trans (h.block k hk h1 h2)⟩
theorem But2.drew {x y : Nat} {a w : World} (h : But2 x y a w) : But2 x y a w.drew := ⟨h.os, h.tape, h.output, h.size, h.block⟩
theorem But2.low {x y B : Nat} {w w' : World} (h : But2 x y w w') (hx : B ≤ x) (hy : B ≤ y) (hB : B ≤ w.heap.size) : Below B w w' :=
  ⟨h.os, h.tape, h.output, h.size, fun k hk => h.block k (by omega) (by omega) (by omega)⟩
theorem Box.but2 {x y b : Nat} {t : TypeId} {v : Value} {w w' : World} (h : Box w b t v) (hb : But2 x y w w') (h1 : b ≠ x) (h2 : b ≠ y) : Box w' b t v := (hb.block b h.lt h1 h2).trans h
theorem Pol.block_ne {w : World} {A S : Option Addr} {cap b n c : Nat} {t : TypeId} {xs : List Nat} (h : Pol w A cap xs) (hb : Box w b t (.slice S n c)) {i g o : Nat} (hi : i < xs.length) (e : A = some ⟨g, o, none⟩) : g ≠ b := by
  obtain ⟨g', o', e', hc⟩ := h.cell i hi
  rw [e] at e'
  simp only [Option.some.injEq, Addr.mk.injEq, and_true] at e'
  obtain ⟨rfl, rfl⟩ := e'
  rintro rfl
  unfold Box at hb
  simp only [World.cell?, hb] at hc
  cases z : o + i with
  | zero => rw [z] at hc; simp at hc
  | succ k => rw [z] at hc; simp at hc
theorem Pol.but2 {w w' : World} {A S T : Option Addr} {cap x y n c n' c' : Nat} {t t' : TypeId} {xs : List Nat} (h : Pol w A cap xs) (hb : But2 x y w w') (hx : Box w x t (.slice S n c)) (hy : Box w y t' (.slice T n' c')) : Pol w' A cap xs :=
  ⟨h.word, h.cap1, h.cap2, fun i hi => by
    obtain ⟨g, o, e, hc⟩ := h.cell i hi
    exact ⟨g, o, e, (World.cell?_of_block (w := w) (hb.block g (World.block_lt_of_cell? w _ hc) (h.block_ne hx hi e) (h.block_ne hy hi e))).trans hc⟩⟩
theorem GcSt.but2 {base Ab Bb x y : Nat} {A B S T : Option Addr} {La ca Lb cb n c n' c' : Nat} {t t' : TypeId} {xs ys : List Nat} {w w' : World} (G : GcSt base Ab Bb A B La ca Lb cb xs ys w) (hb : But2 x y w w') (hx : Box w x t (.slice S n c)) (hy : Box w y t' (.slice T n' c')) (h1 : x < base) (h2 : y < base) :
    GcSt base Ab Bb A B La ca Lb cb xs ys w' := by
  have := G.ba; have := G.bb
  exact ⟨G.bA.but2 hb (by omega) (by omega), G.bB.but2 hb (by omega) (by omega), G.pa.but2 hb hx hy, G.pb.but2 hb hx hy, G.la, G.lb, G.ne, G.ba, G.bb⟩

/-- What the closure leaves. -/
def StepP (base Up Lw : Nat) (B : Option Addr) (Lb cb : Nat) (ys : List Nat) (Z : Nat) (w : World) (e : Ending) (w' : World) : Prop :=
  e = .returned (.tuple #[]) ∧ ∃ (C : Option Addr) (cc : Nat), GcSt base Up Lw B C Lb cb (wordsOf Z).length cc ys (wordsOf Z) w' ∧ But2 Up Lw w w'
set_option maxRecDepth 100000 in
set_option maxHeartbeats 2000000 in
theorem stepWalk (base Up Lw Z Q : Nat) (A B C : Option Addr) (La ca Lb cb Lc cc : Nat) (xs ys zs : List Nat) (w : World) (S : Hid (GcSt base Up Lw A B La ca Lb cb xs ys w)) (P : Hid (Pol w C cc zs)) (lc : Hid (zs.length = Lc)) (bLa : La ≤ 50000) (bLb : Lb ≤ 50000) (bLc : Lc ≤ 50000)
    (hQ : Hid (clm (leN ys) (leN zs) = Q)) (lQ : Hid ((wordsOf Q).length ≤ 50000)) (hZ : Hid (leN xs ^^^ Q = Z)) :
    Calls Try.prog 32 #[.slice C Lc cc, .pointer (some ⟨Lw, 0, none⟩), .pointer (some ⟨Up, 0, none⟩)] w (StepP base Up Lw B Lb cb ys Z w) := by
  have e1 := S.out.bA.cell
  have e2 := S.out.bB.cell
  have f1 := S.out.bA.free
  have f2 := S.out.bB.free
  have ne := S.out.ne
  have hX : Below w.heap.size w w := Below.refl _ _
  go_enter Try.func32, Try.ntmps32
  go_wp2_with fail
  go_region_with
    (first
    | (go_at_call 22; ((with_reducible refine (gMul Q (S.out.pb.below hX.drew) (P.out.below hX.drew) S.out.lb lc.out hQ.out bLb bLc).mono ?_); rintro e x ⟨A1, c1, rfl, PA1, hb⟩; replace hX := below_then hX.drew hb; clear hb; have F1 := (S.out.bA.below hX).free; have F2 := (S.out.bB.below hX).free; have E1 := (S.out.bA.below hX).cell; have E2 := (S.out.bB.below hX).cell))
    | (go_at_call 21; ((with_reducible refine (gAdd Z (S.out.pa.below hX) PA1 S.out.la rfl (by rw [leN_wordsOf]; exact hZ.out) bLa lQ.out).mono ?_); rintro e x ⟨A2, c2, rfl, PA2, hb⟩; replace hX := below_then hX hb; clear hb; have F3 := (S.out.bA.below hX).free; have F4 := (S.out.bB.below hX).free; have E3 := (S.out.bA.below hX).cell; have E4 := (S.out.bB.below hX).cell)))
  all_goals
    go_end0
    exact ⟨rfl, A2, c2, (S.out.below hX).turn PA2 rfl, ((But2.of_below hX).set1 _).set2 _⟩
end Go.Proofs.Ytkfebhfbdhdibaa
