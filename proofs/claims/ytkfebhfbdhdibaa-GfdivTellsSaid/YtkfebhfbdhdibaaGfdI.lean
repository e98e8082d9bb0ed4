/-
  What the call Inverse of package gfdiv answers.
-/
import Derived.Test.YtkfebhfbdhdibaaGfdH
namespace Go.Proofs.Ytkfebhfbdhdibaa
open Go.RowKit G
set_option linter.unusedVariables false

theorem cX1 (w : World) : Calls Try.prog 30 #[.int .i64 0] w (Ans 1 w) := cX 0 (by decide) w
theorem words_one : wordsOf 1 = [1] := words1 1 (by decide) (by decide)
theorem invStart (w : World) (D : Option Addr) (cd : Nat) (P : Pol w D cd (wordsOf 1)) (base0 : Nat) (hb : base0 ≤ w.heap.size) :
    GcSt base0 w.heap.size (w.heap.size + 1) none D 0 0 (wordsOf 1).length cd (wordsOf 0) (wordsOf 1) ((w.alloc (.cells #[.slice none 0 0] 23)).alloc (.cells #[.slice D (wordsOf 1).length cd] 23)) := by
  have b1 : Box (w.alloc (.cells #[.slice none 0 0] 23)) w.heap.size 23 (.slice none 0 0) := box_new _ _ _
  generalize hw1 : w.alloc (.cells #[.slice none 0 0] 23) = w1 at b1 ⊢
  have s1 : w1.heap.size = w.heap.size + 1 := by rw [← hw1]; simp
  have B1 : Below w.heap.size w w1 := by rw [← hw1]; exact below_allocs w _
  have b2 : Box (w1.alloc (.cells #[.slice D (wordsOf 1).length cd] 23)) w1.heap.size 23 (.slice D (wordsOf 1).length cd) := box_new _ _ _
  generalize hw2 : w1.alloc (.cells #[.slice D (wordsOf 1).length cd] 23) = w2 at b2 ⊢
  have B2 : Below w1.heap.size w1 w2 := by rw [← hw2]; exact below_allocs w1 _
  rw [s1] at b2
  exact ⟨b1.below B2, b2, by rw [wordsOf_zero]; exact Pol.nil _ _ _ (by decide), P.below (below_then B1 B2), by rw [wordsOf_zero]; rfl, rfl, by omega, by omega, by omega⟩
theorem inv_inv {a p : Nat} (hp : p ≠ 0) : ExInv 0 1 p (rt a p) (gc a p) (iv a p) (len p) :=
  ⟨gc_rt hp, rfl, rt_lt hp, by decide, by rw [len_one]; omega⟩
set_option maxHeartbeats 1000000 in
theorem gInvZero {A B : Option Addr} {L K ca cb : Nat} {ys : List Nat} {w : World} (Q : Pol w B cb ys) (hK : ys.length = K) (bK : K ≤ 20000) (h0 : leN ys = 0) :
    Calls Try.prog 12 #[.slice A L ca, .slice B K cb] w (NilE 8 w) := by
  have D := Lib.hid (gModZero (A := A) (L := L) (ca := ca) Q hK (by omega) h0)
  clear Q hK h0
  go_enter Try.func12, Try.ntmps12
  go_wp2_with fail
  refine (D.out).mono ?_
  rintro e w1 ⟨rfl, hb⟩
  have HB := Lib.hid hb
  clear hb
  go_wp2_with fail
  go_ret2
  exact ⟨rfl, HB.out⟩
set_option maxRecDepth 100000 in
set_option maxHeartbeats 4000000 in
theorem invWalk (A B : Option Addr) (L K ca cb G V R : Nat) (xs ys : List Nat) (w : World) (P : Hid (Pol w A ca xs)) (Q : Hid (Pol w B cb ys)) (hL : Hid (xs.length = L)) (hK : Hid (ys.length = K)) (bL : L ≤ 20000) (bK : K ≤ 20000) (h0 : Hid (leN ys ≠ 0)) (hG : Hid (gc (leN xs) (leN ys) = G)) (hV : Hid (iv (leN xs) (leN ys) = V)) (b : Bool) (hb : Hid (sameN G 1 = b)) :
    Calls Try.prog 12 #[.slice A L ca, .slice B K cb] w (if b then AnsE V 0 w else NilE 1 w) := by
  have lk := len_pol Q.out hK.out
  have D := Lib.hid (gMod _ P.out Q.out hL.out hK.out rfl (by omega) (by omega) h0.out)
  have l1 := Lib.hid (wl_rt (a := leN xs) h0.out lk)
  have lG := Lib.hid (show (wordsOf G).length ≤ K from by rw [← hG.out]; exact wl_len (Nat.le_trans (dv_len (gc_parts (leN xs) (leN ys)).2 h0.out) lk))
  have I := inv_inv (a := leN xs) h0.out
  rw [hG.out, hV.out] at I
  generalize rt (leN xs) (leN ys) = S at D l1 I
  have HI := Lib.hid I
  clear I
  go_enter Try.func12, Try.ntmps12
  go_wp2_with fail
  refine (D.out).mono ?_
  rintro e w1 ⟨A1, c1, rfl, P1, hb1⟩
  have HP1 := Lib.hid P1
  have HB1 := Lib.hid hb1
  clear P1 hb1 D
  go_wp2_with fail
  refine (cX1 _).mono ?_
  rintro e w2 ⟨A2, c2, rfl, P2, hb2⟩
  have HP2 := Lib.hid P2
  have HP1' := Lib.hid (HP1.out.below hb2)
  have HB2 := Lib.hid (below_then HB1.out hb2)
  clear P2 hb2
  have T := Lib.hid (invStart w2 A2 c2 HP2.out w.heap.size HB2.out.size)
  have BW := Lib.hid (below_alloc (below_alloc (Below.refl w2.heap.size w2) (.cells #[.slice none 0 0] 23)) (.cells #[.slice A2 (wordsOf 1).length c2] 23))
  go_wp2_with fail
  generalize hW : World.alloc _ _ = W at T BW ⊢
  clear hW
  refine (gcInvWalk w.heap.size w2.heap.size (w2.heap.size + 1) G V (len (leN ys)) B A1 none A2 K cb _ c1 0 0 _ c2 0 1 ys (wordsOf S) W (Lib.hid ((Q.out.below HB2.out).below BW.out)) (Lib.hid (HP1'.out.below BW.out)) hK (Lib.hid rfl) (by omega) (by have := l1.out; omega) T (Lib.hid (by rw [leN_wordsOf]; exact HI.out)) (by omega)).mono ?_
  rintro e w3 ⟨A3, c3, rfl, P3, ⟨U, cu, bU, PU⟩, hb3⟩
  have HP3 := Lib.hid P3
  have HbU := Lib.hid bU
  have HPU := Lib.hid PU
  have HB3 := Lib.hid (show Below w.heap.size w w3 from (below_then HB2.out BW.out).trans hb3)
  clear P3 bU PU hb3
  go_wp2_with fail
  refine (cX1 _).mono ?_
  rintro e w4 ⟨A4, c4, rfl, P4, hb4⟩
  have HP4 := Lib.hid P4
  have HP3' := Lib.hid (HP3.out.below hb4)
  have HbU' := Lib.hid (HbU.out.below hb4)
  have HPU' := Lib.hid (HPU.out.below hb4)
  have HB4 := Lib.hid (below_then HB3.out hb4)
  clear P4 hb4
  go_wp2_with fail
  refine (gSame b HP3'.out HP4.out rfl rfl (by rw [leN_wordsOf, leN_wordsOf]; exact hb.out) (by have := lG.out; omega)).mono ?_
  rintro e w5 ⟨rfl, hb5⟩
  have HbU5 := Lib.hid (HbU'.out.below hb5)
  have HPU5 := Lib.hid (HPU'.out.below hb5)
  have HB5 := Lib.hid (below_then HB4.out hb5)
  clear hb5
  have e5 := HbU5.out.cell
  cases b
  · go_wp2_with fail
    go_ret2
    exact ⟨rfl, HB5.out⟩
  · go_wp2_with fail
    go_ret2
    exact ⟨U, cu, rfl, HPU5.out, HB5.out⟩
theorem gInvOk {A B : Option Addr} {L K ca cb : Nat} {xs ys : List Nat} {w : World} (V : Nat) (P : Pol w A ca xs) (Q : Pol w B cb ys) (hL : xs.length = L) (hK : ys.length = K) (bL : L ≤ 20000) (bK : K ≤ 20000) (h0 : leN ys ≠ 0) (hG : gc (leN xs) (leN ys) = 1) (hV : iv (leN xs) (leN ys) = V) :
    Calls Try.prog 12 #[.slice A L ca, .slice B K cb] w (AnsE V 0 w) := by
  have := invWalk A B L K ca cb 1 V 0 xs ys w (Lib.hid P) (Lib.hid Q) (Lib.hid hL) (Lib.hid hK) bL bK (Lib.hid h0) (Lib.hid hG) (Lib.hid hV) true (Lib.hid rfl)
  simpa using this
theorem gInvNo {A B : Option Addr} {L K ca cb : Nat} {xs ys : List Nat} {w : World} (P : Pol w A ca xs) (Q : Pol w B cb ys) (hL : xs.length = L) (hK : ys.length = K) (bL : L ≤ 20000) (bK : K ≤ 20000) (h0 : leN ys ≠ 0) (hG : gc (leN xs) (leN ys) ≠ 1) :
    Calls Try.prog 12 #[.slice A L ca, .slice B K cb] w (NilE 1 w) := by
  have := invWalk A B L K ca cb _ _ 0 xs ys w (Lib.hid P) (Lib.hid Q) (Lib.hid hL) (Lib.hid hK) bL bK (Lib.hid h0) (Lib.hid rfl) (Lib.hid rfl) false (Lib.hid (by unfold sameN; simpa using hG))
  simpa using this
end Go.Proofs.Ytkfebhfbdhdibaa
