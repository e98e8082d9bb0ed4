/-
  What the call Inverse of package gfdiv answers.
-/
import Derived.Test.YtkfebhfbdhdibaaGfdF
namespace Go.Proofs.Ytkfebhfbdhdibaa
open Go.RowKit G
set_option linter.unusedVariables false

/-- The closure, as greatest is given it. -/
def invF (Lw Up : Nat) : Value := .func (.func 32) #[] #[.pointer (some ⟨Lw, 0, none⟩), .pointer (some ⟨Up, 0, none⟩)]
/-- What a turn leaves. -/
def TurnI (base base0 Ab Bb Eb Up Lw : Nat) (B : Option Addr) (Lb cb : Nat) (ys : List Nat) (R : Nat) (D : Option Addr) (Ld cd : Nat) (ls : List Nat) (Z : Nat) (w : World) (e : Ending) (w' : World) : Prop :=
  e = .returned (.bool true) ∧ ∃ (C : Option Addr) (cc : Nat) (F : Option Addr) (cf : Nat), GcSt base Ab Bb B C Lb cb (wordsOf R).length cc ys (wordsOf R) w' ∧ GcSt base0 Up Lw D F Ld cd (wordsOf Z).length cf ls (wordsOf Z) w' ∧ Box w' Eb 55 (invF Lw Up) ∧ Below base0 w w'
set_option maxRecDepth 100000 in
set_option maxHeartbeats 2000000 in
theorem turnInv (base base0 Ab Bb Eb Up Lw R Q Z : Nat) (A B C D : Option Addr) (La ca Lb cb Lu cu Ld cd : Nat) (xs ys us ls : List Nat) (w : World) (hs : base ≤ w.heap.size) (h01 : base0 ≤ base) (hU : Up < base) (hL : Lw < base) (S : GcSt base Ab Bb A B La ca Lb cb xs ys w) (T : GcSt base0 Up Lw C D Lu cu Ld cd us ls w) (hE : Box w Eb 55 (invF Lw Up))
    (bLa : La ≤ 50000) (bLb : Lb ≤ 50000) (bLu : Lu ≤ 50000) (bLd : Ld ≤ 50000) (h0 : leN ys ≠ 0) (hR : rt (leN xs) (leN ys) = R) (hQ : clm (leN ls) (qt (leN xs) (leN ys)) = Q) (hZ : leN us ^^^ Q = Z) (lQ : (wordsOf Q).length ≤ 50000) (lq : (wordsOf (qt (leN xs) (leN ys))).length ≤ 50000) :
    Calls Try.prog 44 #[.pointer (some ⟨Ab, 0, none⟩), .pointer (some ⟨Bb, 0, none⟩), .pointer (some ⟨Eb, 0, none⟩)] w (TurnI base base0 Ab Bb Eb Up Lw B Lb cb ys R D Ld cd ls Z w) := by
  have DV := Lib.hid (cDiv _ _ S.pa S.pb S.la S.lb rfl rfl bLa bLb h0)
  rw [hR] at DV
  have HS := Lib.hid S
  have HT := Lib.hid T
  have HE := Lib.hid hE
  have HQ := Lib.hid hQ
  have HZ := Lib.hid hZ
  have HlQ := Lib.hid lQ
  have Hlq := Lib.hid lq
  have e1 := S.bA.cell
  have e2 := S.bB.cell
  clear S T h0 hE hR hQ hZ lQ lq
  generalize qt (leN xs) (leN ys) = q at DV HQ Hlq
  go_enter Try.func44, Try.ntmps44
  go_wp2_with fail
  refine (DV.out).mono ?_
  rintro e w1 ⟨A1, B1, c1, d1, rfl, P1, Q1, hb⟩
  clear e1 e2 DV
  have S1 := Lib.hid (HS.out.below hb)
  have T1 := Lib.hid (HT.out.below hb)
  have HP1 := Lib.hid P1
  have HQ1 := Lib.hid Q1
  have HB := Lib.hid hb
  have E1 := Lib.hid (HE.out.below hb)
  have ST := Lib.hid (stepWalk base0 Up Lw Z Q C D A1 Lu cu Ld cd _ c1 us ls (wordsOf q) w1 T1 HP1 (Lib.hid rfl) bLu bLd Hlq.out (Lib.hid (by rw [leN_wordsOf]; exact HQ.out)) HlQ HZ)
  have e3 := E1.out.cell
  unfold invF at e3
  clear P1 Q1 hb
  go_wp2_with fail
  refine (ST.out).mono ?_
  rintro e w2 ⟨rfl, F, cf, T2, hb2⟩
  have Up0 := T1.out.bA
  have Lw0 := T1.out.bB
  have S2 := Lib.hid (S1.out.but2 hb2 Up0 Lw0 hU hL)
  have HT2 := Lib.hid T2
  have HQ2 := Lib.hid (HQ1.out.but2 hb2 Up0 Lw0)
  have E2 := Lib.hid (E1.out.but2 hb2 (E1.out.ne_ Up0 (by decide)) (E1.out.ne_ Lw0 (by decide)))
  have HB2 := Lib.hid ((HB.out.mono (Nat.le_trans h01 hs)).trans (hb2.low T1.out.ba T1.out.bb (Nat.le_trans (Nat.le_trans h01 hs) HB.out.size)))
  clear T2 hb2 e3 Up0 Lw0 ST
  have e2 := S2.out.bB.cell
  have e1 := S2.out.bA.cell
  have f1 := S2.out.bA.free
  have f2 := S2.out.bB.free
  have ne := S2.out.ne
  go_wp2_with fail
  go_ret
  have hA := S2.out.ba
  have hB := S2.out.bb
  have b1 := S2.out.bA
  have b2 := S2.out.bB.far (p := ⟨Ab, 0, none⟩) (fun e => S2.out.ne e.symm) (.slice B Lb cb)
  refine ⟨rfl, B1, d1, F, cf, S2.out.turn HQ2.out rfl, ?_, (E2.out.far (p := ⟨Ab, 0, none⟩) (E2.out.ne_ S2.out.bA (by decide)) _).far (p := ⟨Bb, 0, none⟩) (E2.out.ne_ S2.out.bB (by decide)) _, ?_⟩
  · have t := HT2.out
    exact ⟨(t.bA.far (p := ⟨Ab, 0, none⟩) (by show Up ≠ Ab; omega) _).far (p := ⟨Bb, 0, none⟩) (by show Up ≠ Bb; omega) _, (t.bB.far (p := ⟨Ab, 0, none⟩) (by show Lw ≠ Ab; omega) _).far (p := ⟨Bb, 0, none⟩) (by show Lw ≠ Bb; omega) _,
      (t.pa.setBox b1 _).setBox b2 _, (t.pb.setBox b1 _).setBox b2 _, t.la, t.lb, t.ne, t.ba, t.bb⟩
  · exact (HB2.out.setCell (by show base0 ≤ Ab; omega) _).setCell (by show base0 ≤ Bb; omega) _
end Go.Proofs.Ytkfebhfbdhdibaa
