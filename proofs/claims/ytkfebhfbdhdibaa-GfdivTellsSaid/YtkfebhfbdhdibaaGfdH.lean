/-
  What the call Inverse of package gfdiv answers.
-/
import Derived.Test.YtkfebhfbdhdibaaGfdG
namespace Go.Proofs.Ytkfebhfbdhdibaa
open Go.RowKit G
set_option linter.unusedVariables false

theorem ex_next {u l a b K : Nat} (hb : b ≠ 0) (h0 : len b < len a) (h3 : len u < len l) (h4 : len l + len a = K + 1) :
    len (u ^^^ clm l (qt a b)) + len b = K + 1 ∧ len l < len (u ^^^ clm l (qt a b)) ∧ len (clm l (qt a b)) ≤ K + 1 ∧ len (qt a b) ≤ K + 1 := by
  have q := qt_len (a := a) hb (by omega)
  have hl : l ≠ 0 := by intro e; subst e; rw [len_zero] at h3; omega
  have hq : qt a b ≠ 0 := by intro e; rw [e, len_zero] at q; omega
  have d := (len_clm hl hq).2
  have e := len_xor_lt (a := clm l (qt a b)) (b := u) (by omega)
  rw [Nat.xor_comm] at e
  have := len_pos hl
  have := len_pos hb
  omega
/-- What greatest leaves with the closure of Inverse. -/
def GInv (base0 Up G V : Nat) (w : World) (e : Ending) (w' : World) : Prop :=
  ∃ (A : Option Addr) (cap : Nat), e = .returned (.slice A (wordsOf G).length cap) ∧ Pol w' A cap (wordsOf G) ∧ (∃ (U : Option Addr) (cu : Nat), Box w' Up 23 (.slice U (wordsOf V).length cu) ∧ Pol w' U cu (wordsOf V)) ∧ Below base0 w w'
/-- What the two rows of numbers keep. -/
structure ExInv (u l a b G V K : Nat) : Prop where
  gc : gc a b = G
  ex : ex u l a b = V
  l1 : len b < len a
  l2 : len u < len l
  l3 : len l + len a = K + 1
theorem ExInv.next {u l a b G V K : Nat} (h : ExInv u l a b G V K) (hb : b ≠ 0) : ExInv l (u ^^^ clm l (qt a b)) b (rt a b) G V K := by
  have n := ex_next hb h.l1 h.l2 h.l3
  exact ⟨(gc_step hb).symm.trans h.gc, (ex_step hb).symm.trans h.ex, rt_lt hb, n.2.1, n.1⟩
set_option maxRecDepth 100000 in
set_option maxHeartbeats 4000000 in
theorem gcInvWalk (base0 Up Lw G V K : Nat) (A B C D : Option Addr) (La ca Lb cb Lu cu Ld cd u l : Nat) (xs ys : List Nat) (w : World) (P : Hid (Pol w A ca xs)) (Q : Hid (Pol w B cb ys)) (la : Hid (xs.length = La)) (lb : Hid (ys.length = Lb)) (bLa : La ≤ 50000) (bLb : Lb ≤ 50000)
    (T : Hid (GcSt base0 Up Lw C D Lu cu Ld cd (wordsOf u) (wordsOf l) w)) (hI : Hid (ExInv u l (leN xs) (leN ys) G V K)) (bK : K ≤ 1500000) :
    Calls Try.prog 31 #[.slice A La ca, .slice B Lb cb, invF Lw Up] w (GInv base0 Up G V w) := by
  have lU := T.out.bA.lt
  have lL := T.out.bB.lt
  have bU := T.out.ba
  go_enter Try.func31, Try.ntmps31
  go_wp2_with fail
  have ST := Lib.hid (gcStart w A B La ca Lb cb xs ys (invF Lw Up) P.out Q.out la.out lb.out)
  have BW := Lib.hid (gcBelow w w (Below.refl _ _) (.slice A La ca) (.slice B Lb cb) (invF Lw Up))
  generalize hV : World.alloc _ _ = V0 at ST BW ⊢
  clear hV
  have TT := Lib.hid (T.out.below BW.out)
  go_loopg [10] (len (leN ys)) (fun g z wr => ∃ (A' B' : Option Addr) (La' ca' Lb' cb' : Nat) (xs' ys' : List Nat) (C' D' : Option Addr) (Lu' cu' Ld' cd' u' l' : Nat), Hid (GcSt w.heap.size w.heap.size (w.heap.size + 1) A' B' La' ca' Lb' cb' xs' ys' wr) ∧ Hid (Box wr (w.heap.size + 1 + 1) 55 (invF Lw Up)) ∧ La' ≤ 50000 ∧ Lb' ≤ 50000 ∧
      Hid (GcSt base0 Up Lw C' D' Lu' cu' Ld' cd' (wordsOf u') (wordsOf l') wr) ∧ Hid (ExInv u' l' (leN xs') (leN ys') G V K) ∧ Hid (len (leN ys') = g) ∧ Hid (w.heap.size ≤ wr.heap.size ∧ Below base0 w wr))
  case atStart => exact ⟨A, B, La, ca, Lb, cb, xs, ys, C, D, Lu, cu, Ld, cd, u, l, Lib.hid ST.out.1, Lib.hid ST.out.2, bLa, bLb, TT, hI, Lib.hid rfl, Lib.hid ⟨BW.out.size, BW.out.mono (by omega)⟩⟩
  case round =>
    obtain ⟨A', B', La', ca', Lb', cb', xs', ys', C', D', Lu', cu', Ld', cd', u', l', S, E, b1, b2, T', I, hl, HB⟩ := hrel
    clear ST BW TT
    by_cases h0 : leN ys' = 0
    · have TN := Lib.hid (turnNo w.heap.size w.heap.size (w.heap.size + 1) (w.heap.size + 1 + 1) (invF Lw Up) A' B' La' ca' Lb' cb' xs' ys' wr S.out b2 h0)
      have O := Lib.hid (gOwn G S.out.pa S.out.la (by have := I.out.gc; rw [h0, gc_zero] at this; exact this) b1)
      have eV := Lib.hid (show u' = V from by have := I.out.ex; rw [h0, ex_zero] at this; exact this)
      have e1 := S.out.bA.cell
      clear h0
      go_wp2_with fail
      refine (TN.out).mono ?_
      rintro e w1 ⟨rfl, rfl⟩
      go_wp2_with fail
      refine (O.out).mono ?_
      rintro e w1 ⟨A1, c1, rfl, P1, hb⟩
      have HP := Lib.hid P1
      have HB1 := Lib.hid (HB.out.2.trans (hb.mono HB.out.2.size |>.mono (by omega)))
      have T1 := Lib.hid (T'.out.below hb)
      clear P1 hb
      go_wp2_with fail
      go_ret
      refine ⟨A1, c1, rfl, HP.out, ⟨C', cu', ?_, ?_⟩, HB1.out⟩
      · have := T1.out.bA
        rwa [← T1.out.la, eV.out] at this
      · have := T1.out.pa
        rwa [eV.out] at this
    · have n := ex_next h0 I.out.l1 I.out.l2 I.out.l3
      have l1 : Lu' ≤ 50000 := by rw [← T'.out.la]; exact wl_len (by have := I.out.l2; have := I.out.l3; omega)
      have l2 : Ld' ≤ 50000 := by rw [← T'.out.lb]; exact wl_len (by have := I.out.l3; omega)
      have TI := Lib.hid (turnInv w.heap.size base0 w.heap.size (w.heap.size + 1) (w.heap.size + 1 + 1) Up Lw _ _ _ A' B' C' D' La' ca' Lb' cb' Lu' cu' Ld' cd' xs' ys' (wordsOf u') (wordsOf l') wr HB.out.1 (by omega) lU lL S.out T'.out E.out b1 b2 l1 l2 h0 rfl rfl rfl (wl_len (by rw [leN_wordsOf]; omega)) (wl_len (by omega)))
      rw [leN_wordsOf, leN_wordsOf] at TI
      have I1 := Lib.hid (I.out.next h0)
      have g2 : len (leN (wordsOf (rt (leN xs') (leN ys')))) < gk := by rw [leN_wordsOf, ← hl.out]; exact rt_lt h0
      have g3 := Nat.le_trans (wl_rt (a := leN xs') h0 (len_pol S.out.pb S.out.lb)) b2
      clear h0 n l1 l2
      generalize u' ^^^ clm l' (qt (leN xs') (leN ys')) = Z at TI I1
      generalize rt (leN xs') (leN ys') = R at TI I1 g2 g3
      go_wp2_with fail
      refine (TI.out).mono ?_
      rintro e w1 ⟨rfl, C1, cc, F, cf, S1, T1, E1, hb⟩
      have HS1 := Lib.hid S1
      have HT1 := Lib.hid T1
      have HE1 := Lib.hid E1
      have HB1 := Lib.hid (show w.heap.size ≤ w1.heap.size ∧ Below base0 w w1 from ⟨Nat.le_trans HB.out.1 hb.size, HB.out.2.trans hb⟩)
      have I2 := Lib.hid (show ExInv l' Z (leN ys') (leN (wordsOf R)) G V K from by rw [leN_wordsOf]; exact I1.out)
      clear S1 T1 E1 hb TI
      go_wp2_with fail
      go_roundg (len (leN (wordsOf R)))
      case measure => exact g2
      case rel => exact ⟨B', C1, Lb', cb', _, cc, ys', wordsOf R, D', F, Ld', cd', _, cf, l', Z, HS1, HE1, b2, g3, HT1, I2, Lib.hid rfl, HB1⟩
end Go.Proofs.Ytkfebhfbdhdibaa
