/-
  What the calls Mod and MulMod of package gfdiv answer.
-/
import Derived.Test.YtmhglbnoddimhaaGfdC
namespace Go.Proofs.Ytmhglbnoddimhaa
open Go.RowKit G
set_option linter.unusedVariables false

/-- An answer that is a polynomial in its own form, in a list of its own, and an error's number. -/
def AnsE (N : Nat) (k : Int) (w : World) (e : Ending) (w' : World) : Prop :=
  ∃ (A : Option Addr) (cap : Nat), e = .returned (.tuple #[.slice A (wordsOf N).length cap, .int .i64 k]) ∧ Pol w' A cap (wordsOf N) ∧ Below w.heap.size w w'
/-- No answer: nil, and an error's number. -/
def NilE (k : Int) (w : World) (e : Ending) (w' : World) : Prop := e = .returned (.tuple #[.slice none 0 0, .int .i64 k]) ∧ Below w.heap.size w w'
theorem NilE.ans {k : Int} {w : World} {e : Ending} {w' : World} (h : NilE k w e w') : AnsE 0 k w e w' :=
  ⟨none, 0, by rw [wordsOf_zero]; exact h.1, by rw [wordsOf_zero]; exact Pol.nil _ _ _ (by omega), h.2⟩
/-- The lengths of answers. -/
theorem wl_len {N k : Nat} (h : len N ≤ 64 * k) : (wordsOf N).length ≤ k := wl k (pow_up (len_lt N) h)
theorem wl_rt {a b k : Nat} (hb : b ≠ 0) (h : len b ≤ 64 * k) : (wordsOf (rt a b)).length ≤ k := wl_len (by have := rt_lt (a := a) hb; omega)
theorem wl_qt {a b k : Nat} (hb : b ≠ 0) (h : len a ≤ 64 * k) : (wordsOf (qt a b)).length ≤ k := wl_len (qt_lt hb h)
theorem wl_gc {a b k : Nat} (ha : len a ≤ 64 * k) (hb : len b ≤ 64 * k) : (wordsOf (gc a b)).length ≤ k := wl_len (gc_lt ha hb)
theorem len_pol {w : World} {A : Option Addr} {cap L : Nat} {xs : List Nat} (P : Pol w A cap xs) (hL : xs.length = L) : len (leN xs) ≤ 64 * L := by rw [← hL]; exact len_words P.word

set_option maxHeartbeats 1000000 in
theorem gMod {A B : Option Addr} {L K ca cb : Nat} {xs ys : List Nat} {w : World} (R : Nat) (P : Pol w A ca xs) (Q : Pol w B cb ys) (hL : xs.length = L) (hK : ys.length = K) (hR : rt (leN xs) (leN ys) = R) (bL : L ≤ 50000) (bK : K ≤ 50000) (h0 : leN ys ≠ 0) :
    Calls Try.prog 31 #[.slice A L ca, .slice B K cb] w (AnsE R 0 w) := by
  have D := Lib.hid (cDiv _ _ P Q hL hK rfl rfl bL bK h0)
  rw [hR] at D
  clear P Q hL hK hR h0
  generalize qt (leN xs) (leN ys) = q at D
  go_enter Try.func31, Try.ntmps31
  go_wp2_with fail
  refine (D.out).mono ?_
  rintro e w1 ⟨A1, B1, c1, d1, rfl, P1, Q1, hb⟩
  have HQ := Lib.hid Q1
  have HB := Lib.hid hb
  clear P1 Q1 hb
  go_wp2_with fail
  go_ret2
  exact ⟨B1, d1, rfl, HQ.out, HB.out⟩
set_option maxHeartbeats 1000000 in
theorem gModZero {A B : Option Addr} {L K ca cb : Nat} {ys : List Nat} {w : World} (Q : Pol w B cb ys) (hK : ys.length = K) (bK : K ≤ 50000) (h0 : leN ys = 0) :
    Calls Try.prog 31 #[.slice A L ca, .slice B K cb] w (NilE 8 w) := by
  have D := Lib.hid (divZero A B ca cb L K ys bK w Q hK h0)
  clear Q hK h0
  go_enter Try.func31, Try.ntmps31
  go_wp2_with fail
  refine (D.out).mono ?_
  rintro e w1 ⟨rfl, rfl⟩
  go_wp2_with fail
  go_ret2
  exact ⟨rfl, Below.refl _ _⟩
set_option maxHeartbeats 1000000 in
theorem gMulMod {A B C : Option Addr} {L K M ca cb cc : Nat} {xs ys zs : List Nat} {w : World} (R : Nat) (P : Pol w A ca xs) (Q : Pol w B cb ys) (Z : Pol w C cc zs) (hL : xs.length = L) (hK : ys.length = K) (hM : zs.length = M) (hR : rt (clm (leN xs) (leN ys)) (leN zs) = R) (bL : L ≤ 25000) (bK : K ≤ 25000) (bM : M ≤ 25000) (h0 : leN zs ≠ 0) :
    Calls Try.prog 24 #[.slice A L ca, .slice B K cb, .slice C M cc] w (AnsE R 0 w) := by
  have l3 := len_pol Z hM
  have l1 := Lib.hid (wl_rt (a := leN xs) h0 l3)
  have l2 := Lib.hid (wl_rt (a := leN ys) h0 l3)
  have l4 := Lib.hid (wl_len (N := clm (rt (leN xs) (leN zs)) (rt (leN ys) (leN zs))) (k := 2 * M) (by
    refine Nat.le_trans (len_le (clm_lt (m := 64 * M) (n := 64 * M) (pow_up (len_lt _) ?_) (pow_up (len_lt _) ?_))) (by omega)
    · have := rt_lt (a := leN xs) h0; omega
    · have := rt_lt (a := leN ys) h0; omega))
  have HP := Lib.hid P
  have HQ := Lib.hid Q
  have HZ := Lib.hid Z
  have h1 := Lib.hid hL
  have h2 := Lib.hid hK
  have h3 := Lib.hid hM
  have h4 := Lib.hid hR
  have h5 := Lib.hid h0
  clear P Q Z hL hK hM hR h0 l3
  go_enter Try.func24, Try.ntmps24
  go_wp2_with fail
  refine (gMod _ HP.out HZ.out h1.out h3.out rfl (by omega) (by omega) h5.out).mono ?_
  rintro e w1 ⟨A1, c1, rfl, P1, hb⟩
  have HP1 := Lib.hid P1
  have HB1 := Lib.hid hb
  clear P1 hb
  go_wp2_with fail
  refine (gMod _ (HQ.out.below HB1.out) (HZ.out.below HB1.out) h2.out h3.out rfl (by omega) (by omega) h5.out).mono ?_
  rintro e w2 ⟨A2, c2, rfl, P2, hb⟩
  have HP2 := Lib.hid P2
  have HB2 := Lib.hid hb
  clear P2 hb
  go_wp2_with fail
  refine (gMul _ (HP1.out.below HB2.out) HP2.out rfl rfl rfl (by have := l1.out; omega) (by have := l2.out; omega)).mono ?_
  rintro e w3 ⟨A3, c3, rfl, P3, hb⟩
  have HP3 := Lib.hid P3
  have HB3 := Lib.hid (below_then (below_then HB1.out HB2.out) hb)
  clear P3 hb
  go_wp2_with fail
  refine (gMod R HP3.out (HZ.out.below HB3.out) rfl h3.out (by rw [leN_wordsOf, leN_wordsOf, leN_wordsOf, rt_clm h5.out]; exact h4.out) (by have := l4.out; rw [leN_wordsOf, leN_wordsOf]; omega) (by omega) h5.out).mono ?_
  rintro e w4 ⟨A4, c4, rfl, P4, hb⟩
  have HP4 := Lib.hid P4
  have HB4 := Lib.hid (below_then HB3.out hb)
  clear P4 hb
  go_wp2_with fail
  go_ret2
  exact ⟨A4, c4, rfl, HP4.out, HB4.out⟩
set_option maxHeartbeats 1000000 in
theorem gMulModZero {A B C : Option Addr} {L K M ca cb cc : Nat} {zs : List Nat} {w : World} (Z : Pol w C cc zs) (hM : zs.length = M) (bM : M ≤ 25000) (h0 : leN zs = 0) :
    Calls Try.prog 24 #[.slice A L ca, .slice B K cb, .slice C M cc] w (NilE 8 w) := by
  have D := Lib.hid (gModZero (A := A) (L := L) (ca := ca) Z hM (by omega) h0)
  clear Z hM h0
  go_enter Try.func24, Try.ntmps24
  go_wp2_with fail
  refine (D.out).mono ?_
  rintro e w1 ⟨rfl, hb⟩
  have HB := Lib.hid hb
  clear hb
  go_wp2_with fail
  go_ret2
  exact ⟨rfl, HB.out⟩
end Go.Proofs.Ytmhglbnoddimhaa
