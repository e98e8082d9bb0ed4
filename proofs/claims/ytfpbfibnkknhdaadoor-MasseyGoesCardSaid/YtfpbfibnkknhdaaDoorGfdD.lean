/-
  What the calls Mod and MulMod of package gfdiv answer.
-/
import Derived.Test.YtfpbfibnkknhdaaDoorGfdC
namespace Go.Proofs.YtfpbfibnkknhdaaDoor
open Go.RowKit G
set_option linter.unusedVariables false

/-- An answer that is a polynomial in its own form, in a list of its own, and an error's number. -/
def AnsE (N : Nat) (k : Int) (w : World) (e : Ending) (w' : World) : Prop :=
  ∃ (A : Option Addr) (cap : Nat), e = .returned (.tuple #[.slice A (wordsOf N).length cap, .int .i64 k]) ∧ Pol w' A cap (wordsOf N) ∧ Below w.heap.size w w'
/-- No answer: nil, and an error's number. -/
def NilE (k : Int) (w : World) (e : Ending) (w' : World) : Prop := e = .returned (.tuple #[.slice none 0 0, .int .i64 k]) ∧ Below w.heap.size w w'
theorem NilE.ans {k : Int} {w : World} {e : Ending} {w' : World} (h : NilE k w e w') : AnsE 0 k w e w' :=
  ⟨none, 0, by rw [wordsOf_zero]; exact h.1, by rw [wordsOf_zero]; exact Pol.nil _ _ _ (by omega), h.2⟩
/-- The lengths of answers. -/
theorem wl_len {N k : Nat} (h : len N ≤ 64 * k) : (wordsOf N).length ≤ k := wl k (pow_up (len_lt N) h)
theorem wl_rt {a b k : Nat} (hb : b ≠ 0) (h : len b ≤ 64 * k) : (wordsOf (rt a b)).length ≤ k := wl_len (by have := rt_lt (a := a) hb; omega)
theorem wl_qt {a b k : Nat} (hb : b ≠ 0) (h : len a ≤ 64 * k) : (wordsOf (qt a b)).length ≤ k := wl_len (qt_lt hb h)
theorem wl_gc {a b k : Nat} (ha : len a ≤ 64 * k) (hb : len b ≤ 64 * k) : (wordsOf (gc a b)).length ≤ k := wl_len (gc_lt ha hb)
theorem len_pol {w : World} {A : Option Addr} {cap L : Nat} {xs : List Nat} (P : Pol w A cap xs) (hL : xs.length = L) : len (leN xs) ≤ 64 * L := by rw [← hL]; exact len_words P.word

set_option maxHeartbeats 1000000 in
theorem gMod {A B : Option Addr} {L K ca cb : Nat} {xs ys : List Nat} {w : World} (R : Nat) (P : Pol w A ca xs) (Q : Pol w B cb ys) (hL : xs.length = L) (hK : ys.length = K) (hR : rt (leN xs) (leN ys) = R) (bL : L ≤ 50000) (bK : K ≤ 50000) (h0 : leN ys ≠ 0) :
    Calls Tryd.prog 21 #[.slice A L ca, .slice B K cb] w (AnsE R 0 w) := by
  have D := Lib.hid (cDiv _ _ P Q hL hK rfl rfl bL bK h0)
  rw [hR] at D
  clear P Q hL hK hR h0
  generalize qt (leN xs) (leN ys) = q at D
  go_enter Tryd.func21, Tryd.ntmps21
  go_wp2_with fail
  refine (D.out).mono ?_
  rintro e w1 ⟨A1, B1, c1, d1, rfl, P1, Q1, hb⟩
  have HQ := Lib.hid Q1
  have HB := Lib.hid hb
  clear P1 Q1 hb
  go_wp2_with fail
  go_ret2
  exact ⟨B1, d1, rfl, HQ.out, HB.out⟩
set_option maxHeartbeats 1000000 in
theorem gModZero {A B : Option Addr} {L K ca cb : Nat} {ys : List Nat} {w : World} (Q : Pol w B cb ys) (hK : ys.length = K) (bK : K ≤ 50000) (h0 : leN ys = 0) :
    Calls Tryd.prog 21 #[.slice A L ca, .slice B K cb] w (NilE 8 w) := by
  have D := Lib.hid (divZero A B ca cb L K ys bK w Q hK h0)
  clear Q hK h0
  go_enter Tryd.func21, Tryd.ntmps21
  go_wp2_with fail
  refine (D.out).mono ?_
  rintro e w1 ⟨rfl, rfl⟩
  go_wp2_with fail
  go_ret2
  exact ⟨rfl, Below.refl _ _⟩
end Go.Proofs.YtfpbfibnkknhdaaDoor
