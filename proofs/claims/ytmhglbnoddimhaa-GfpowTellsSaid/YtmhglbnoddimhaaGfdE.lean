/-
  What the call Gcd of package gfdiv answers: the two rows, and the closure that changes both.
-/
import Derived.Test.YtmhglbnoddimhaaGfdD
import Derived.LoopTactic
namespace Go.Proofs.Ytmhglbnoddimhaa
open Go.RowKit G
set_option linter.unusedVariables false

theorem Box.set_ {w : World} {b : Nat} {t : TypeId} {v : Value} (h : Box w b t v) (u : Value) : Box (w.setCell ⟨b, 0, none⟩ u) b t u := by
  unfold Box at *
  simp [World.setCell, Array.getElem?_modify, h]
theorem Pol.setBox {w : World} {A : Option Addr} {cap b : Nat} {t : TypeId} {xs : List Nat} {S : Option Addr} {n c : Nat} (h : Pol w A cap xs) (hb : Box w b t (.slice S n c)) (u : Value) : Pol (w.setCell ⟨b, 0, none⟩ u) A cap xs :=
  ⟨h.word, h.cap1, h.cap2, fun i hi => by
    obtain ⟨g, o, e, hc⟩ := h.cell i hi
    refine ⟨g, o, e, (World.cell?_of_block (w := w) (Below.heap_setCell w ⟨b, 0, none⟩ u g ?_)).trans hc⟩
    rintro rfl
    unfold Box at hb
    simp only [World.cell?, hb] at hc
    cases z : o + i with
    | zero => rw [z] at hc; simp at hc
    | succ k => rw [z] at hc; simp at hc⟩
/-- The two rows that are gone through. -/
structure GcSt (base Ab Bb : Nat) (A B : Option Addr) (La ca Lb cb : Nat) (xs ys : List Nat) (w : World) : Prop where
  bA : Box w Ab 23 (.slice A La ca)
  bB : Box w Bb 23 (.slice B Lb cb)
  pa : Pol w A ca xs
  pb : Pol w B cb ys
  la : xs.length = La
  lb : ys.length = Lb
  ne : Ab ≠ Bb
  ba : base ≤ Ab
  bb : base ≤ Bb
theorem GcSt.below {base Ab Bb : Nat} {A B : Option Addr} {La ca Lb cb : Nat} {xs ys : List Nat} {w w' : World} (S : GcSt base Ab Bb A B La ca Lb cb xs ys w) (hb : Below w.heap.size w w') : GcSt base Ab Bb A B La ca Lb cb xs ys w' :=
  ⟨S.bA.below hb, S.bB.below hb, S.pa.below hb, S.pb.below hb, S.la, S.lb, S.ne, S.ba, S.bb⟩
/-- Both rows turn. -/
theorem GcSt.turn {base Ab Bb : Nat} {A B C : Option Addr} {La ca Lb cb Lc cc : Nat} {xs ys zs : List Nat} {w : World} (S : GcSt base Ab Bb A B La ca Lb cb xs ys w) (P : Pol w C cc zs) (lc : zs.length = Lc) :
    GcSt base Ab Bb B C Lb cb Lc cc ys zs ((w.setCell ⟨Ab, 0, none⟩ (.slice B Lb cb)).setCell ⟨Bb, 0, none⟩ (.slice C Lc cc)) := by
  have b1 := S.bA.set_ (.slice B Lb cb)
  have b2 := S.bB.far (p := ⟨Ab, 0, none⟩) (fun e => S.ne e.symm) (.slice B Lb cb)
  exact ⟨b1.far (p := ⟨Bb, 0, none⟩) S.ne _, b2.set_ _, (S.pb.setBox S.bA _).setBox b2 _, (P.setBox S.bA _).setBox b2 _, S.lb, lc, S.ne, S.ba, S.bb⟩

theorem Box.ne_ {w : World} {a b : Nat} {t t' : TypeId} {u v : Value} (h : Box w a t u) (k : Box w b t' v) (hne : t ≠ t') : a ≠ b := by
  rintro rfl
  unfold Box at h k
  rw [h] at k
  simp only [Option.some.injEq, Obj.cells.injEq] at k
  exact hne k.2.1
/-- What a turn leaves. -/
def TurnP (base Ab Bb Eb : Nat) (E : Value) (B : Option Addr) (Lb cb : Nat) (ys : List Nat) (R : Nat) (w : World) (e : Ending) (w' : World) : Prop :=
  e = .returned (.bool true) ∧ ∃ (C : Option Addr) (cc : Nat), GcSt base Ab Bb B C Lb cb (wordsOf R).length cc ys (wordsOf R) w' ∧ Box w' Eb 87 E ∧ Below base w w'
set_option maxHeartbeats 1000000 in
theorem turnNo (base Ab Bb Eb : Nat) (E : Value) (A B : Option Addr) (La ca Lb cb : Nat) (xs ys : List Nat) (w : World) (S : GcSt base Ab Bb A B La ca Lb cb xs ys w) (bLb : Lb ≤ 50000) (h0 : leN ys = 0) :
    Calls Try.prog 64 #[.pointer (some ⟨Ab, 0, none⟩), .pointer (some ⟨Bb, 0, none⟩), .pointer (some ⟨Eb, 0, none⟩)] w (fun e w' => e = .returned (.bool false) ∧ w = w') := by
  have D := Lib.hid (divZero A B ca cb La Lb ys bLb w S.pb S.lb h0)
  have e1 := S.bA.cell
  have e2 := S.bB.cell
  clear S h0
  go_enter Try.func64, Try.ntmps64
  go_wp2_with fail
  refine (D.out).mono ?_
  rintro e w1 ⟨rfl, rfl⟩
  go_wp2_with fail
  go_ret
  exact ⟨rfl, rfl⟩
set_option maxRecDepth 100000 in
set_option maxHeartbeats 2000000 in
theorem turnGcd (base Ab Bb Eb R : Nat) (A B : Option Addr) (La ca Lb cb : Nat) (xs ys : List Nat) (w : World) (hs : base ≤ w.heap.size) (S : GcSt base Ab Bb A B La ca Lb cb xs ys w) (hE : Box w Eb 87 (.func (.func 59) #[] #[])) (bLa : La ≤ 50000) (bLb : Lb ≤ 50000) (h0 : leN ys ≠ 0) (hR : rt (leN xs) (leN ys) = R) :
    Calls Try.prog 64 #[.pointer (some ⟨Ab, 0, none⟩), .pointer (some ⟨Bb, 0, none⟩), .pointer (some ⟨Eb, 0, none⟩)] w (TurnP base Ab Bb Eb (.func (.func 59) #[] #[]) B Lb cb ys R w) := by
  have D := Lib.hid (cDiv _ _ S.pa S.pb S.la S.lb rfl rfl bLa bLb h0)
  rw [hR] at D
  have HS := Lib.hid S
  have HE := Lib.hid hE
  have e1 := S.bA.cell
  have e2 := S.bB.cell
  clear S h0 hE hR
  generalize qt (leN xs) (leN ys) = q at D
  go_enter Try.func64, Try.ntmps64
  go_wp2_with fail
  refine (D.out).mono ?_
  rintro e w1 ⟨A1, B1, c1, d1, rfl, P1, Q1, hb⟩
  clear e1 e2 D
  have S1 := Lib.hid (HS.out.below hb)
  have HQ := Lib.hid Q1
  have HB := Lib.hid hb
  have E1 := Lib.hid (HE.out.below hb)
  have e3 := E1.out.cell
  have e2 := S1.out.bB.cell
  have e1 := S1.out.bA.cell
  have f1 := S1.out.bA.free
  have f2 := S1.out.bB.free
  have ne := S1.out.ne
  clear P1 Q1 hb
  go_wp2
  go_ret
  refine ⟨rfl, B1, d1, S1.out.turn HQ.out rfl, (E1.out.far (p := ⟨Ab, 0, none⟩) (E1.out.ne_ S1.out.bA (by decide)) _).far (p := ⟨Bb, 0, none⟩) (E1.out.ne_ S1.out.bB (by decide)) _, ?_⟩
  exact ((HB.out.mono hs).setCell S1.out.ba _).setCell S1.out.bb _
theorem gcStart (w : World) (A B : Option Addr) (La ca Lb cb : Nat) (xs ys : List Nat) (F : Value) (P : Pol w A ca xs) (Q : Pol w B cb ys) (la : xs.length = La) (lb : ys.length = Lb) :
    GcSt w.heap.size w.heap.size (w.heap.size + 1) A B La ca Lb cb xs ys (((w.alloc (.cells #[.slice A La ca] 23)).alloc (.cells #[.slice B Lb cb] 23)).alloc (.cells #[F] 87)) ∧
    Box (((w.alloc (.cells #[.slice A La ca] 23)).alloc (.cells #[.slice B Lb cb] 23)).alloc (.cells #[F] 87)) (w.heap.size + 1 + 1) 87 F := by
  have b1 : Box (w.alloc (.cells #[.slice A La ca] 23)) w.heap.size 23 (.slice A La ca) := box_new _ _ _
  generalize hw1 : w.alloc (.cells #[.slice A La ca] 23) = w1 at b1 ⊢
  have s1 : w1.heap.size = w.heap.size + 1 := by rw [← hw1]; simp
  have B1 : Below w.heap.size w w1 := by rw [← hw1]; exact below_allocs w _
  have b2 : Box (w1.alloc (.cells #[.slice B Lb cb] 23)) w1.heap.size 23 (.slice B Lb cb) := box_new _ _ _
  generalize hw2 : w1.alloc (.cells #[.slice B Lb cb] 23) = w2 at b2 ⊢
  have s2 : w2.heap.size = w.heap.size + 1 + 1 := by rw [← hw2]; simp [s1]
  have B2 : Below w1.heap.size w1 w2 := by rw [← hw2]; exact below_allocs w1 _
  have b3 : Box (w2.alloc (.cells #[F] 87)) w2.heap.size 87 F := box_new _ _ _
  generalize hw3 : w2.alloc (.cells #[F] 87) = w3 at b3 ⊢
  have B3 : Below w2.heap.size w2 w3 := by rw [← hw3]; exact below_allocs w2 _
  rw [s2] at b3
  rw [s1] at b2
  have B23 := below_then B2 B3
  have B13 := below_then B1 B23
  exact ⟨⟨b1.below B23, b2.below B3, P.below B13, Q.below B13, la, lb, by omega, by omega, by omega⟩, b3⟩
theorem gcBelow (w0 w : World) (h : Below w0.heap.size w0 w) (x y z : Value) :
    Below w0.heap.size w0 (((w.alloc (.cells #[x] 23)).alloc (.cells #[y] 23)).alloc (.cells #[z] 87)) :=
  below_alloc (below_alloc (below_alloc h _) _) _
set_option maxRecDepth 100000 in
set_option maxHeartbeats 2000000 in
theorem gcWalk (A B : Option Addr) (La ca Lb cb G : Nat) (xs ys : List Nat) (w : World) (P : Hid (Pol w A ca xs)) (Q : Hid (Pol w B cb ys)) (la : Hid (xs.length = La)) (lb : Hid (ys.length = Lb)) (bLa : La ≤ 50000) (bLb : Lb ≤ 50000) (hG : Hid (gc (leN xs) (leN ys) = G)) :
    Calls Try.prog 58 #[.slice A La ca, .slice B Lb cb, .func (.func 59) #[] #[]] w (Ans G w) := by
  go_enter Try.func58, Try.ntmps58
  go_wp2_with fail
  have ST := Lib.hid (gcStart w A B La ca Lb cb xs ys (.func (.func 59) #[] #[]) P.out Q.out la.out lb.out)
  have BW := Lib.hid (gcBelow w w (Below.refl _ _) (.slice A La ca) (.slice B Lb cb) (.func (.func 59) #[] #[]))
  generalize hV : World.alloc _ _ = V at ST BW ⊢
  clear hV
  go_loopg [10] (len (leN ys)) (fun g u wr => ∃ (A' B' : Option Addr) (La' ca' Lb' cb' : Nat) (xs' ys' : List Nat), Hid (GcSt w.heap.size w.heap.size (w.heap.size + 1) A' B' La' ca' Lb' cb' xs' ys' wr) ∧ Hid (Box wr (w.heap.size + 1 + 1) 87 (.func (.func 59) #[] #[])) ∧ La' ≤ 50000 ∧ Lb' ≤ 50000 ∧ Hid (gc (leN xs') (leN ys') = G) ∧ Hid (len (leN ys') = g) ∧ Hid (Below w.heap.size w wr))
  case atStart => exact ⟨A, B, La, ca, Lb, cb, xs, ys, Lib.hid ST.out.1, Lib.hid ST.out.2, bLa, bLb, hG, Lib.hid rfl, BW⟩
  case round =>
    obtain ⟨A', B', La', ca', Lb', cb', xs', ys', S, E, b1, b2, hg, hl, HB⟩ := hrel
    clear ST BW
    by_cases h0 : leN ys' = 0
    · have T := Lib.hid (turnNo w.heap.size w.heap.size (w.heap.size + 1) (w.heap.size + 1 + 1) (.func (.func 59) #[] #[]) A' B' La' ca' Lb' cb' xs' ys' wr S.out b2 h0)
      have O := Lib.hid (gOwn G S.out.pa S.out.la (by have := hg.out; rw [h0, gc_zero] at this; exact this) b1)
      have e1 := S.out.bA.cell
      clear h0
      go_wp2_with fail
      refine (T.out).mono ?_
      rintro e w1 ⟨rfl, rfl⟩
      go_wp2_with fail
      refine (O.out).mono ?_
      rintro e w1 ⟨A1, c1, rfl, P1, hb⟩
      have HP := Lib.hid P1
      have HB1 := Lib.hid (below_then HB.out hb)
      clear P1 hb
      go_wp2_with fail
      go_ret
      exact ⟨A1, c1, rfl, HP.out, HB1.out⟩
    · have T := Lib.hid (turnGcd w.heap.size w.heap.size (w.heap.size + 1) (w.heap.size + 1 + 1) _ A' B' La' ca' Lb' cb' xs' ys' wr HB.out.size S.out E.out b1 b2 h0 rfl)
      have g1 := Lib.hid (show gc (leN ys') (leN (wordsOf (rt (leN xs') (leN ys')))) = G from by rw [leN_wordsOf, ← gc_step h0]; exact hg.out)
      have g2 : len (leN (wordsOf (rt (leN xs') (leN ys')))) < gk := by rw [leN_wordsOf, ← hl.out]; exact rt_lt h0
      have g3 := Nat.le_trans (wl_rt (a := leN xs') h0 (len_pol S.out.pb S.out.lb)) b2
      clear h0
      generalize rt (leN xs') (leN ys') = R at T g1 g2 g3
      go_wp2_with fail
      refine (T.out).mono ?_
      rintro e w1 ⟨rfl, C, cc, S1, E1, hb⟩
      have HS1 := Lib.hid S1
      have HE1 := Lib.hid E1
      have HB1 := Lib.hid (HB.out.trans hb)
      clear S1 E1 hb T
      go_wp2_with fail
      go_roundg (len (leN (wordsOf R)))
      case measure => exact g2
      case rel => exact ⟨B', C, Lb', cb', _, cc, ys', wordsOf R, HS1, HE1, b2, g3, g1, Lib.hid rfl, HB1⟩
set_option maxHeartbeats 1000000 in
theorem gGcd {A B : Option Addr} {L K ca cb : Nat} {xs ys : List Nat} {w : World} (G : Nat) (P : Pol w A ca xs) (Q : Pol w B cb ys) (hL : xs.length = L) (hK : ys.length = K) (hG : gc (leN xs) (leN ys) = G) (bL : L ≤ 50000) (bK : K ≤ 50000) :
    Calls Try.prog 50 #[.slice A L ca, .slice B K cb] w (Ans G w) := by
  have D := Lib.hid (gcWalk A B L ca K cb G xs ys w (Lib.hid P) (Lib.hid Q) (Lib.hid hL) (Lib.hid hK) bL bK (Lib.hid hG))
  clear P Q hL hK hG
  go_enter Try.func50, Try.ntmps50
  go_wp2_with fail
  refine (D.out).mono ?_
  rintro e w1 ⟨A1, c1, rfl, P1, hb⟩
  have HP := Lib.hid P1
  have HB := Lib.hid hb
  clear P1 hb
  go_wp2_with fail
  go_ret
  exact ⟨A1, c1, rfl, HP.out, HB.out⟩
end Go.Proofs.Ytmhglbnoddimhaa
