/-
  GfpowTells of layer 4 answers true for every two polynomials, every number of 128 bits and every int. Made by wip/gen/gfwtells.py.
-/
import Derived.Test.YtmhglbnoddimhaaGfwTellsZ
import Derived.Test.YtmhglbnoddimhaaGfwTellsNeg
import Derived.Test.YtmhglbnoddimhaaGfwTellsHi
import Derived.Test.YtmhglbnoddimhaaGfwTellsIn
namespace Go.Proofs.Ytmhglbnoddimhaa
open Go.RowKit G
set_option linter.unusedVariables false

theorem powTellsWalk (A B : Option Addr) (ca cb La Lb : Nat) (xs ys : List Nat) (h l : Int) (m : Int) (N : Nat) (w : World) (Pa : Pol w A ca xs) (Pb : Pol w B cb ys) (wn : Wn h l N) (ha : xs.length = La) (hb : ys.length = Lb) (mb : m ≤ 9223372036854775807) (ma : -9223372036854775808 ≤ m) :
    Calls Try.prog 3 #[.slice A La ca, .slice B Lb cb, .agg #[.int .u64 h, .int .u64 l], .int .i64 m] w (Bl true w) := by
  by_cases hl : La ≤ 4 ∧ Lb ≤ 4
  · obtain ⟨sa, sb⟩ := hl
    by_cases mid : 40 < m ∧ m ≤ 2048
    · exact tells_mid A B ca cb La Lb xs ys h l m w Pa Pb (Lib.hid ha) (Lib.hid hb) sa sb (by omega) (by omega) mid.1 mid.2
    · have lx := len_pol Pa ha
      have ly := len_pol Pb hb
      have bX := bitsOf_len (leN xs)
      by_cases h0 : leN ys = 0
      · by_cases m1 : 40 < m
        · exact tells_zero_hi A B ca cb La Lb xs ys h l m (leN xs) w Pa Pb (Lib.hid ha) (Lib.hid hb) sa sb (by omega) (by omega) (Lib.hid rfl) (Lib.hid h0) m1 (by omega) (decide_eq_false (by omega))
        · exact tells_zero_lo A B ca cb La Lb xs ys h l m (leN xs) w Pa Pb (Lib.hid ha) (Lib.hid hb) sa sb (by omega) (by omega) (Lib.hid rfl) (Lib.hid h0) (by omega) (decide_eq_false (by omega))
      · have p := len_pos h0
        have bY := bitsOf_len (leN ys)
        have kz : ((bitsOf (leN ys)).length == 0) = false := by
          have : (bitsOf (leN ys)).length ≠ 0 := by omega
          simpa using this
        have kz2 : (((bitsOf (leN ys)).length : Int) == 0) = false := beq_eq_false_iff_ne.2 (by omega)
        have bE : len N ≤ 128 := len_le (k := 128) wn.lt
        have r1 : ∀ z, len (rt z (leN ys)) ≤ 256 := fun z => by have := rt_lt (a := z) h0; omega
        have l9 : ∀ z, (bitsOf (rt z (leN ys))).length ≤ 900000 := fun z => by rw [bitsOf_len]; exact Nat.le_trans (r1 z) (by decide)
        have l5 : ∀ z, (wordsOf (rt z (leN ys))).length ≤ 50000 := fun z => Nat.le_trans (wl_len (k := 4) (r1 z)) (by decide)
        by_cases m3 : m < 0
        · exact tells_neg A B ca cb La Lb xs ys h l m N _ _ _ _ _ _ w Pa Pb (Lib.hid ha) (Lib.hid hb) sa sb (by omega) (by omega) wn (Lib.hid rfl) (Lib.hid h0) (Lib.hid h0) (Lib.hid rfl) (Lib.hid rfl) (Lib.hid rfl) kz kz2 (by omega) bE (Lib.hid (by omega)) (Lib.hid (by omega)) (Lib.hid rfl) (Lib.hid rfl) (Lib.hid rfl) (Lib.hid rfl) (Lib.hid (l9 _)) (Lib.hid (l5 _)) (Lib.hid (l9 _)) (Lib.hid (l5 _)) (by omega) (decide_eq_false (by omega)) m3
        · by_cases m4 : 2048 < m
          · exact tells_hi A B ca cb La Lb xs ys h l m N _ _ _ _ _ _ w Pa Pb (Lib.hid ha) (Lib.hid hb) sa sb (by omega) (by omega) wn (Lib.hid rfl) (Lib.hid h0) (Lib.hid h0) (Lib.hid rfl) (Lib.hid rfl) (Lib.hid rfl) kz kz2 (by omega) bE (Lib.hid (by omega)) (Lib.hid (by omega)) (Lib.hid rfl) (Lib.hid rfl) (Lib.hid rfl) (Lib.hid rfl) (Lib.hid (l9 _)) (Lib.hid (l5 _)) (Lib.hid (l9 _)) (Lib.hid (l5 _)) (by omega) (by omega) (decide_eq_false (by omega)) m3 (decide_eq_false (by omega)) m4
          · obtain ⟨k, rfl⟩ := Int.eq_ofNat_of_zero_le (show 0 ≤ m by omega)
            exact tells_in A B ca cb La Lb xs ys h l k N _ _ _ _ _ _ _ w Pa Pb (Lib.hid ha) (Lib.hid hb) sa sb (by omega) (by omega) wn (Lib.hid rfl) (Lib.hid h0) (Lib.hid h0) (Lib.hid rfl) (Lib.hid rfl) (Lib.hid rfl) kz kz2 (by omega) bE (Lib.hid (by omega)) (Lib.hid (by omega)) (Lib.hid rfl) (Lib.hid rfl) (Lib.hid rfl) (Lib.hid rfl) (Lib.hid (l9 _)) (Lib.hid (l5 _)) (Lib.hid (l9 _)) (Lib.hid (l5 _)) (by omega) (by omega) (decide_eq_false (by omega)) (by omega) (decide_eq_false (by omega)) (by omega) (Lib.hid rfl) (Lib.hid rfl) (Lib.hid (l9 _)) (Lib.hid (l5 _)) (Lib.hid fun z => by rw [bitsOf_len]; exact Nat.le_trans (r1 z) (by decide)) (Lib.hid fun z => Nat.le_trans (len_prod (Y := leN ys) (K := 256) (r1 z) (r1 z)) (by decide))
  · exact tells_large A B ca cb La Lb h l m w (by omega)
end Go.Proofs.Ytmhglbnoddimhaa
