/-
  What the closures turn and put of package massey's call least do: two caught polynomials, the rule and the last one that failed.
-/
import Derived.Test.YtfpbfibnkknhdaaDoorMsyB
import Derived.LoopTactic
namespace Go.Proofs.YtfpbfibnkknhdaaDoor
open Go.RowKit G
set_option linter.unusedVariables false


theorem Box.set_ {w : World} {b : Nat} {t : TypeId} {v : Value} (h : Box w b t v) (u : Value) : Box (w.setCell ⟨b, 0, none⟩ u) b t u := by
  unfold Box at *
  simp [World.setCell, Array.getElem?_modify, h]
theorem Pol.setBox {w : World} {A : Option Addr} {cap b : Nat} {t : TypeId} {xs : List Nat} {S : Option Addr} {n c : Nat} (h : Pol w A cap xs) (hb : Box w b t (.slice S n c)) (u : Value) : Pol (w.setCell ⟨b, 0, none⟩ u) A cap xs :=
  ⟨h.word, h.cap1, h.cap2, fun i hi => by
    obtain ⟨g, o, e, hc⟩ := h.cell i hi
    refine ⟨g, o, e, (World.cell?_of_block (w := w) (Below.heap_setCell w ⟨b, 0, none⟩ u g ?_)).trans hc⟩
    rintro rfl
    unfold Box at hb
    simp only [World.cell?, hb] at hc
    cases z : o + i with
    | zero => rw [z] at hc; simp at hc
    | succ k => rw [z] at hc; simp at hc⟩
/-- The two rows that are gone through. -/
structure GcSt (base Ab Bb : Nat) (A B : Option Addr) (La ca Lb cb : Nat) (xs ys : List Nat) (w : World) : Prop where
  bA : Box w Ab 23 (.slice A La ca)
  bB : Box w Bb 23 (.slice B Lb cb)
  pa : Pol w A ca xs
  pb : Pol w B cb ys
  la : xs.length = La
  lb : ys.length = Lb
  ne : Ab ≠ Bb
  ba : base ≤ Ab
  bb : base ≤ Bb
theorem GcSt.below {base Ab Bb : Nat} {A B : Option Addr} {La ca Lb cb : Nat} {xs ys : List Nat} {w w' : World} (S : GcSt base Ab Bb A B La ca Lb cb xs ys w) (hb : Below w.heap.size w w') : GcSt base Ab Bb A B La ca Lb cb xs ys w' :=
  ⟨S.bA.below hb, S.bB.below hb, S.pa.below hb, S.pb.below hb, S.la, S.lb, S.ne, S.ba, S.bb⟩
/-- Both rows turn. -/
theorem GcSt.turn {base Ab Bb : Nat} {A B C : Option Addr} {La ca Lb cb Lc cc : Nat} {xs ys zs : List Nat} {w : World} (S : GcSt base Ab Bb A B La ca Lb cb xs ys w) (P : Pol w C cc zs) (lc : zs.length = Lc) :
    GcSt base Ab Bb B C Lb cb Lc cc ys zs ((w.setCell ⟨Ab, 0, none⟩ (.slice B Lb cb)).setCell ⟨Bb, 0, none⟩ (.slice C Lc cc)) := by
  have b1 := S.bA.set_ (.slice B Lb cb)
  have b2 := S.bB.far (p := ⟨Ab, 0, none⟩) (fun e => S.ne e.symm) (.slice B Lb cb)
  exact ⟨b1.far (p := ⟨Bb, 0, none⟩) S.ne _, b2.set_ _, (S.pb.setBox S.bA _).setBox b2 _, (P.setBox S.bA _).setBox b2 _, S.lb, lc, S.ne, S.ba, S.bb⟩

theorem Box.ne_ {w : World} {a b : Nat} {t t' : TypeId} {u v : Value} (h : Box w a t u) (k : Box w b t' v) (hne : t ≠ t') : a ≠ b := by
  rintro rfl
  unfold Box at h k
  rw [h] at k
  simp only [Option.some.injEq, Obj.cells.injEq] at k
  exact hne k.2.1


/-- Nothing of what was there has turned but two blocks. -/
structure But2 (x y : Nat) (w w' : World) : Prop where
  os : w'.os = w.os
  tape : w'.tape = w.tape
  output : w'.output = w.output
  size : w.heap.size ≤ w'.heap.size
  block : ∀ k, k < w.heap.size → k ≠ x → k ≠ y → w'.heap[k]? = w.heap[k]?
theorem But2.of_below {x y : Nat} {w w' : World} (h : Below w.heap.size w w') : But2 x y w w' := ⟨h.os, h.tape, h.output, h.size, fun k hk _ _ => h.block k hk⟩
theorem But2.set1 {x y : Nat} {a w : World} (h : But2 x y a w) (u : Value) : But2 x y a (w.setCell ⟨x, 0, none⟩ u) :=
  ⟨h.os, h.tape, h.output, by simpa [World.setCell] using h.size, fun k hk h1 h2 => (Below.heap_setCell w ⟨x, 0, none⟩ u k h1).trans (h.block k hk h1 h2)⟩
theorem But2.set2 {x y : Nat} {a w : World} (h : But2 x y a w) (u : Value) : But2 x y a (w.setCell ⟨y, 0, none⟩ u) :=
  ⟨h.os, h.tape, h.output, by simpa [World.setCell] using h.size, fun k hk h1 h2 => (Below.heap_setCell w ⟨y, 0, none⟩ u k h2).trans (h.block k hk h1 h2)⟩
theorem But2.drew {x y : Nat} {a w : World} (h : But2 x y a w) : But2 x y a w.drew := ⟨h.os, h.tape, h.output, h.size, h.block⟩
theorem But2.low {x y B : Nat} {w w' : World} (h : But2 x y w w') (hx : B ≤ x) (hy : B ≤ y) (hB : B ≤ w.heap.size) : Below B w w' :=
  ⟨h.os, h.tape, h.output, h.size, fun k hk => h.block k (by omega) (by omega) (by omega)⟩
theorem Box.but2 {x y b : Nat} {t : TypeId} {v : Value} {w w' : World} (h : Box w b t v) (hb : But2 x y w w') (h1 : b ≠ x) (h2 : b ≠ y) : Box w' b t v := (hb.block b h.lt h1 h2).trans h
theorem Pol.block_ne {w : World} {A S : Option Addr} {cap b n c : Nat} {t : TypeId} {xs : List Nat} (h : Pol w A cap xs) (hb : Box w b t (.slice S n c)) {i g o : Nat} (hi : i < xs.length) (e : A = some ⟨g, o, none⟩) : g ≠ b := by
  obtain ⟨g', o', e', hc⟩ := h.cell i hi
  rw [e] at e'
  simp only [Option.some.injEq, Addr.mk.injEq, and_true] at e'
  obtain ⟨rfl, rfl⟩ := e'
  rintro rfl
  unfold Box at hb
  simp only [World.cell?, hb] at hc
  cases z : o + i with
  | zero => rw [z] at hc; simp at hc
  | succ k => rw [z] at hc; simp at hc
theorem Pol.but2 {w w' : World} {A S T : Option Addr} {cap x y n c n' c' : Nat} {t t' : TypeId} {xs : List Nat} (h : Pol w A cap xs) (hb : But2 x y w w') (hx : Box w x t (.slice S n c)) (hy : Box w y t' (.slice T n' c')) : Pol w' A cap xs :=
  ⟨h.word, h.cap1, h.cap2, fun i hi => by
    obtain ⟨g, o, e, hc⟩ := h.cell i hi
    exact ⟨g, o, e, (World.cell?_of_block (w := w) (hb.block g (World.block_lt_of_cell? w _ hc) (h.block_ne hx hi e) (h.block_ne hy hi e))).trans hc⟩⟩
theorem GcSt.but2 {base Ab Bb x y : Nat} {A B S T : Option Addr} {La ca Lb cb n c n' c' : Nat} {t t' : TypeId} {xs ys : List Nat} {w w' : World} (G : GcSt base Ab Bb A B La ca Lb cb xs ys w) (hb : But2 x y w w') (hx : Box w x t (.slice S n c)) (hy : Box w y t' (.slice T n' c')) (h1 : x < base) (h2 : y < base) :
    GcSt base Ab Bb A B La ca Lb cb xs ys w' := by
  have := G.ba; have := G.bb
  exact ⟨G.bA.but2 hb (by omega) (by omega), G.bB.but2 hb (by omega) (by omega), G.pa.but2 hb hx hy, G.pb.but2 hb hx hy, G.la, G.lb, G.ne, G.ba, G.bb⟩


/-- The rule turns, and then what failed is the old rule. -/
theorem GcSt.turn2 {base Ab Bb : Nat} {A B C : Option Addr} {La ca Lb cb Lc cc : Nat} {xs ys zs : List Nat} {w : World} (S : GcSt base Ab Bb A B La ca Lb cb xs ys w) (P : Pol w C cc zs) (lc : zs.length = Lc) :
    GcSt base Ab Bb B C Lb cb Lc cc ys zs ((w.setCell ⟨Bb, 0, none⟩ (.slice C Lc cc)).setCell ⟨Ab, 0, none⟩ (.slice B Lb cb)) := by
  have b1 := S.bB.set_ (.slice C Lc cc)
  have b2 := S.bA.far (p := ⟨Bb, 0, none⟩) S.ne (.slice C Lc cc)
  exact ⟨b2.set_ _, b1.far (p := ⟨Ab, 0, none⟩) (fun e => S.ne e.symm) _, (S.pb.setBox S.bB _).setBox b2 _, (P.setBox S.bB _).setBox b2 _, S.lb, lc, S.ne, S.ba, S.bb⟩
/-- The rule alone turns. -/
theorem GcSt.put1 {base Ab Bb : Nat} {A B C : Option Addr} {La ca Lb cb Lc cc : Nat} {xs ys zs : List Nat} {w : World} (S : GcSt base Ab Bb A B La ca Lb cb xs ys w) (P : Pol w C cc zs) (lc : zs.length = Lc) :
    GcSt base Ab Bb A C La ca Lc cc xs zs (w.setCell ⟨Bb, 0, none⟩ (.slice C Lc cc)) :=
  ⟨S.bA.far (p := ⟨Bb, 0, none⟩) S.ne _, S.bB.set_ _, S.pa.setBox S.bB _, P.setBox S.bB _, S.la, lc, S.ne, S.ba, S.bb⟩
/-- What the closures leave. -/
def TurnP (base Fb Rb : Nat) (B : Option Addr) (Lb cb : Nat) (ys : List Nat) (Z : Nat) (w : World) (e : Ending) (w' : World) : Prop :=
  e = .returned (.tuple #[]) ∧ ∃ (C : Option Addr) (cc : Nat), GcSt base Fb Rb B C Lb cb (wordsOf Z).length cc ys (wordsOf Z) w' ∧ But2 Fb Rb w w'
set_option maxRecDepth 100000 in
set_option maxHeartbeats 4000000 in
theorem turnWalk (base Fb Rb Z Q u : Nat) (A B : Option Addr) (La ca Lb cb : Nat) (xs ys : List Nat) (w : World) (S : Hid (GcSt base Fb Rb A B La ca Lb cb xs ys w)) (bLa : La ≤ 50000) (bLb : Lb ≤ 50000) (bu : u ≤ 2048)
    (hQ : Hid (leN ys * 2 ^ u = Q)) (lQ : Hid ((wordsOf Q).length ≤ 50000)) (hZ : Hid (Q ^^^ leN xs = Z)) :
    Calls Tryd.prog 37 #[.int .i64 (u : Int), .pointer (some ⟨Rb, 0, none⟩), .pointer (some ⟨Fb, 0, none⟩)] w (TurnP base Fb Rb B Lb cb ys Z w) := by
  have e1 := S.out.bA.cell
  have e2 := S.out.bB.cell
  have f1 := S.out.bA.free
  have f2 := S.out.bB.free
  have ne := S.out.ne
  have hX : Below w.heap.size w w := Below.refl _ _
  go_enter Tryd.func37, Tryd.ntmps37
  go_wp2_with fail
  go_region_with
    (first
    | (go_at_call 39; ((with_reducible refine (gUp u Q (S.out.pb.below hX.drew) S.out.lb hQ.out bLb bu).mono ?_); rintro e x ⟨A1, c1, rfl, PA1, hb⟩; replace hX := below_then hX.drew hb; clear hb; have F1 := (S.out.bA.below hX).free; have F2 := (S.out.bB.below hX).free; have E1 := (S.out.bA.below hX).cell; have E2 := (S.out.bB.below hX).cell))
    | (go_at_call 38; ((with_reducible refine (gAdd Z PA1 (S.out.pa.below hX) rfl S.out.la (by rw [leN_wordsOf]; exact hZ.out) lQ.out bLa).mono ?_); rintro e x ⟨A2, c2, rfl, PA2, hb⟩; replace hX := below_then hX hb; clear hb; have F3 := (S.out.bA.below hX).free; have F4 := (S.out.bB.below hX).free; have E3 := (S.out.bA.below hX).cell; have E4 := (S.out.bB.below hX).cell)))
  all_goals
    go_end0
    exact ⟨rfl, A2, c2, (S.out.below hX).turn2 PA2 rfl, ((But2.of_below hX).set2 _).set1 _⟩
def PutP (base Fb Rb : Nat) (A : Option Addr) (La ca : Nat) (xs : List Nat) (Z : Nat) (w : World) (e : Ending) (w' : World) : Prop :=
  e = .returned (.tuple #[]) ∧ ∃ (C : Option Addr) (cc : Nat), GcSt base Fb Rb A C La ca (wordsOf Z).length cc xs (wordsOf Z) w' ∧ But2 Fb Rb w w'
set_option maxRecDepth 100000 in
set_option maxHeartbeats 4000000 in
theorem putWalk (base Fb Rb Z Q u : Nat) (A B : Option Addr) (La ca Lb cb : Nat) (xs ys : List Nat) (w : World) (S : Hid (GcSt base Fb Rb A B La ca Lb cb xs ys w)) (bLa : La ≤ 50000) (bLb : Lb ≤ 50000) (bu : u ≤ 2048)
    (hQ : Hid (leN xs * 2 ^ u = Q)) (lQ : Hid ((wordsOf Q).length ≤ 50000)) (hZ : Hid (leN ys ^^^ Q = Z)) :
    Calls Tryd.prog 40 #[.int .i64 (u : Int), .pointer (some ⟨Rb, 0, none⟩), .pointer (some ⟨Fb, 0, none⟩)] w (PutP base Fb Rb A La ca xs Z w) := by
  have e1 := S.out.bA.cell
  have e2 := S.out.bB.cell
  have f1 := S.out.bA.free
  have f2 := S.out.bB.free
  have ne := S.out.ne
  have hX : Below w.heap.size w w := Below.refl _ _
  go_enter Tryd.func40, Tryd.ntmps40
  go_wp2_with fail
  go_region_with
    (first
    | (go_at_call 39; ((with_reducible refine (gUp u Q (S.out.pa.below hX.drew) S.out.la hQ.out bLa bu).mono ?_); rintro e x ⟨A1, c1, rfl, PA1, hb⟩; replace hX := below_then hX.drew hb; clear hb; have F1 := (S.out.bA.below hX).free; have F2 := (S.out.bB.below hX).free; have E1 := (S.out.bA.below hX).cell; have E2 := (S.out.bB.below hX).cell))
    | (go_at_call 38; ((with_reducible refine (gAdd Z (S.out.pb.below hX) PA1 S.out.lb rfl (by rw [leN_wordsOf]; exact hZ.out) bLb lQ.out).mono ?_); rintro e x ⟨A2, c2, rfl, PA2, hb⟩; replace hX := below_then hX hb; clear hb; have F3 := (S.out.bA.below hX).free; have F4 := (S.out.bB.below hX).free; have E3 := (S.out.bA.below hX).cell; have E4 := (S.out.bB.below hX).cell)))
  all_goals
    go_end0
    exact ⟨rfl, A2, c2, (S.out.below hX).put1 PA2 rfl, (But2.of_below hX).set2 _⟩
end Go.Proofs.YtfpbfibnkknhdaaDoor
