/-
  What the calls Of, Full, Sub, Left, Len and Bit of package wide answer, for numbers as such; what rest and square of package gfpow answer.
-/
import Derived.Test.YtmhglbnoddimhaaWideC
import Derived.Test.YtmhglbnoddimhaaGfdE
import Derived.Test.YtmhglbnoddimhaaGfpG
import Derived.Test.YtmhglbnoddimhaaGfwM
namespace Go.Proofs.Ytmhglbnoddimhaa
open Go.RowKit G
set_option linter.unusedVariables false

/-- h and l are the two words of N. -/
structure Wn (h l : Int) (N : Nat) : Prop where
  h0 : 0 ≤ h
  h1 : h < 18446744073709551616
  l0 : 0 ≤ l
  l1 : l < 18446744073709551616
  eq : h * 18446744073709551616 + l = (N : Int)
def hiW (N : Nat) : Nat := N / 18446744073709551616
def loW (N : Nat) : Nat := N % 18446744073709551616
theorem Wn.of {h l : Int} {N : Nat} (k : Wn h l N) : h = ((hiW N : Nat) : Int) ∧ l = ((loW N : Nat) : Int) := by
  obtain ⟨a, b, c, d, e⟩ := k
  unfold hiW loW
  omega
theorem Wn.lt {h l : Int} {N : Nat} (k : Wn h l N) : N < 340282366920938463463374607431768211456 := by
  obtain ⟨a, b, c, d, e⟩ := k
  omega
theorem wn_of {N : Nat} (h : N < 340282366920938463463374607431768211456) : Wn ((hiW N : Nat) : Int) ((loW N : Nat) : Int) N := by
  unfold hiW loW
  exact ⟨by omega, by omega, by omega, by omega, by omega⟩
theorem wn_nat {h l N : Nat} (h1 : h < 18446744073709551616) (l1 : l < 18446744073709551616) (e : h * 18446744073709551616 + l = N) : Wn (h : Int) (l : Int) N := ⟨by omega, by omega, by omega, by omega, by omega⟩
/-- An answer that is a number of 128 bits. -/
def AnsW (N : Nat) (w : World) (e : Ending) (w' : World) : Prop := e = .returned (.agg #[.int .u64 ((hiW N : Nat) : Int), .int .u64 ((loW N : Nat) : Int)]) ∧ Below w.heap.size w w'
/-- An answer that is an int. -/
def AnsI (n : Int) (w : World) (e : Ending) (w' : World) : Prop := e = .returned (.int .i64 n) ∧ Below w.heap.size w w'
theorem ansW_of {h l : Int} {N : Nat} {w w' : World} (k : Wn h l N) (hb : Below w.heap.size w w') : AnsW N w (.returned (.agg #[.int .u64 h, .int .u64 l])) w' := by
  obtain ⟨rfl, rfl⟩ := k.of
  exact ⟨rfl, hb⟩
theorem wn_is {h l n : Int} {N : Nat} (k : Wd.Is n h l) (e : n = (N : Int)) : Wn h l N := by
  obtain ⟨a, b, c, d, f⟩ := k
  exact ⟨a, b, c, d, by omega⟩
theorem cOf (n : Nat) (x : Int) (e : (n : Int) = x) (h : n < 18446744073709551616) (w : World) : Calls Try.prog 22 #[.int .u64 x] w (AnsW n w) := by
  subst e
  refine (Wd.wOf (n : Int) (by omega) (by omega) w).mono ?_
  rintro e w' ⟨h, l, ⟨rfl, rfl⟩, rfl, hb⟩
  exact ansW_of ⟨by omega, by omega, by omega, by omega, by omega⟩ hb
theorem cFull (n m N : Nat) (e : n * m = N) (h : n < 18446744073709551616) (h2 : m < 18446744073709551616) (w : World) : Calls Try.prog 25 #[.int .u64 (n : Int), .int .u64 (m : Int)] w (AnsW N w) := by
  subst e
  refine (Wd.wFull (n : Int) (m : Int) (by omega) (by omega) (by omega) (by omega) w).mono ?_
  rintro e w' ⟨h, l, i, rfl, hb⟩
  exact ansW_of (wn_is i (by rw [Int.natCast_mul])) hb
/-- An answer that is a number and a bool. -/
def AnsWB (N : Nat) (c : Bool) (w : World) (e : Ending) (w' : World) : Prop := e = .returned (.tuple #[.agg #[.int .u64 ((hiW N : Nat) : Int), .int .u64 ((loW N : Nat) : Int)], .bool c]) ∧ Below w.heap.size w w'
theorem cSub {a b c d : Int} {M N : Nat} (K : Nat) (i : Wn a b M) (j : Wn c d N) (le : N ≤ M) (e : M - N = K) (w : World) :
    Calls Try.prog 32 #[.agg #[.int .u64 a, .int .u64 b], .agg #[.int .u64 c, .int .u64 d]] w (AnsWB K false w) := by
  subst e
  have h := Wd.wSub a b c d i.h0 i.h1 i.l0 i.l1 j.h0 j.h1 j.l0 j.l1 w
  rw [i.eq, j.eq] at h
  refine h.mono ?_
  rintro e w' ⟨h, l, c, ⟨k, rfl⟩, rfl, hb⟩
  have kk : Wn h l (M - N) := wn_is k (by have := i.lt; omega)
  obtain ⟨rfl, rfl⟩ := kk.of
  have q : decide ((M : Int) < (N : Int)) = false := by simp; omega
  rw [q]
  exact ⟨rfl, hb⟩
theorem cLeft {a b : Int} {M : Nat} (n K : Nat) (i : Wn a b M) (e : M * 2 ^ n = K) (h : K < 340282366920938463463374607431768211456) (w : World) :
    Calls Try.prog 33 #[.agg #[.int .u64 a, .int .u64 b], .int .i64 (n : Int)] w (AnsW K w) := by
  have h := Wd.wLeft a b (n : Int) i.h0 i.h1 i.l0 i.l1 w
  rw [i.eq, Int.toNat_natCast] at h
  refine h.mono ?_
  rintro e w' ⟨h, l, k, rfl, hb⟩
  refine ansW_of (wn_is k ?_) hb
  have : ((M : Int) * 2 ^ n) = ((M * 2 ^ n : Nat) : Int) := by rw [Int.natCast_mul, Int.natCast_pow]; rfl
  rw [this]
  omega
theorem len_two_words (h l : Nat) (hl : l < 18446744073709551616) (h0 : h ≠ 0) : len (h * 18446744073709551616 + l) = 64 + len h := by
  have a := len_ge h0
  have b := len_lt h
  have c := len_pos h0
  rw [show 64 + len h = (63 + len h) + 1 from by omega]
  refine len_of ?_ ?_
  · rw [show 63 + len h = (len h - 1) + 64 from by omega, Nat.pow_add]
    calc 2 ^ (len h - 1) * 2 ^ 64 ≤ h * 2 ^ 64 := Nat.mul_le_mul_right _ a
      _ ≤ h * 18446744073709551616 + l := by omega
  · rw [show 63 + len h + 1 = len h + 64 from by omega, Nat.pow_add]
    have : (h + 1) * 2 ^ 64 ≤ 2 ^ len h * 2 ^ 64 := Nat.mul_le_mul_right _ b
    omega
set_option maxRecDepth 100000 in
set_option maxHeartbeats 400000 in
theorem cLen {a b : Int} {M : Nat} (K : Nat) (i : Wn a b M) (e : len M = K) (w : World) :
    Calls Try.prog 42 #[.agg #[.int .u64 a, .int .u64 b]] w (AnsI (K : Int) w) := by
  obtain ⟨h, rfl⟩ := Int.eq_ofNat_of_zero_le i.h0
  obtain ⟨l, rfl⟩ := Int.eq_ofNat_of_zero_le i.l0
  have h1 := i.h1
  have l1 := i.l1
  have hM : h * 18446744073709551616 + l = M := by have := i.eq; omega
  clear i
  by_cases h0 : h = 0
  · subst h0
    have E := Lib.hid (show len l = K from by rw [← e, ← hM]; simp)
    clear e hM
    go_enter Try.func42, Try.ntmps42
    go_wp2_with (go_at_call 45; refine (cLen64 l (by omega) _).mono ?_; rintro e w' ⟨rfl, rfl⟩)
    go_ret
    exact ⟨by rw [E.out]; rfl, below_alloc (Below.refl _ _) _⟩
  · have hne : ((h : Int) != 0) = true := by simp; omega
    have hne2 : (h != 0) = true := by simpa using h0
    have hq := len_word (x := h) (by omega)
    have E := Lib.hid (show 64 + len h = K from by rw [← e, ← hM, len_two_words h l (by omega) h0])
    clear e hM
    go_enter Try.func42, Try.ntmps42
    go_wp2_with (go_at_call 45; refine (cLen64 h (by omega) _).mono ?_; rintro e w' ⟨rfl, rfl⟩)
    go_ret
    exact ⟨by rw [← E.out]; simp, below_alloc (Below.refl _ _) _⟩
theorem cBitW {a b : Int} {M : Nat} (k K : Nat) (i : Wn a b M) (e : M / 2 ^ k % 2 = K) (w : World) :
    Calls Try.prog 56 #[.agg #[.int .u64 a, .int .u64 b], .int .i64 (k : Int)] w (AnsI (K : Int) w) := by
  have h := Wd.wBit a b (k : Int) i.h0 i.h1 i.l0 i.l1 w
  rw [i.eq] at h
  refine h.mono ?_
  rintro e w' ⟨r, rfl, rfl, hb⟩
  refine ⟨?_, hb⟩
  have : Wd.bitOf (M : Int) (k : Int) = (K : Int) := by
    unfold Wd.bitOf
    rw [if_neg (by omega), Int.toNat_natCast, show ((M : Int) / 2 ^ k % 2) = ((M / 2 ^ k % 2 : Nat) : Int) from by rw [Int.natCast_emod, Int.natCast_ediv, Int.natCast_pow]; rfl, ‹M / 2 ^ k % 2 = K›]
  rw [this]

theorem gX (n N : Nat) (x : Int) (e : (n : Int) = x) (k : 2 ^ n = N) (h : n ≤ 2048) (w : World) : Calls Try.prog 30 #[.int .i64 x] w (Ans N w) := by
  subst e k; exact cX n h w
set_option maxHeartbeats 1000000 in
theorem gRest {A B : Option Addr} {L K ca cb : Nat} {xs ys : List Nat} {w : World} (R : Nat) (P : Pol w A ca xs) (Q : Pol w B cb ys) (hL : xs.length = L) (hK : ys.length = K) (hR : rt (leN xs) (leN ys) = R) (bL : L ≤ 50000) (bK : K ≤ 50000) (h0 : leN ys ≠ 0) :
    Calls Try.prog 35 #[.slice A L ca, .slice B K cb] w (Ans R w) := by
  have D := Lib.hid (gMod R P Q hL hK hR bL bK h0)
  clear P Q hL hK hR h0
  go_enter Try.func35, Try.ntmps35
  go_wp2_with fail
  refine (D.out).mono ?_
  rintro e w1 ⟨A1, c1, rfl, P1, hb⟩
  have HP := Lib.hid P1
  have HB := Lib.hid hb
  clear P1 hb
  go_wp2_with fail
  go_ret
  exact ⟨A1, c1, rfl, HP.out, HB.out⟩
theorem len_sq_le {a k : Nat} (h : len a ≤ k) : len (clm a a) ≤ 2 * k := by
  by_cases z : a = 0
  · subst z; rw [clm_zero, len_zero]; omega
  · have := (len_clm z z).2; omega
set_option maxHeartbeats 1000000 in
theorem gSq {A B : Option Addr} {L K ca cb : Nat} {xs ys : List Nat} {w : World} (R : Nat) (P : Pol w A ca xs) (Q : Pol w B cb ys) (hL : xs.length = L) (hK : ys.length = K) (hR : rt (clm (leN xs) (leN xs)) (leN ys) = R) (bL : L ≤ 20000) (bK : K ≤ 50000) (h0 : leN ys ≠ 0) :
    Calls Try.prog 37 #[.slice A L ca, .slice B K cb] w (Ans R w) := by
  have l4 := Lib.hid (wl_len (N := clm (leN xs) (leN xs)) (k := 2 * L) (by have := len_sq_le (len_pol P hL); omega))
  have HP := Lib.hid P
  have HQ := Lib.hid Q
  have h1 := Lib.hid hL
  have h2 := Lib.hid hK
  have h4 := Lib.hid hR
  have h5 := Lib.hid h0
  clear P Q hL hK hR h0
  go_enter Try.func37, Try.ntmps37
  go_wp2_with fail
  refine (gSquare _ HP.out h1.out rfl (by omega)).mono ?_
  rintro e w1 ⟨A1, c1, rfl, P1, hb⟩
  have HP1 := Lib.hid P1
  have HB1 := Lib.hid hb
  clear P1 hb
  go_wp2_with fail
  refine (gRest R HP1.out (HQ.out.below HB1.out) rfl h2.out (by rw [leN_wordsOf]; exact h4.out) (by have := l4.out; omega) (by omega) h5.out).mono ?_
  rintro e w2 ⟨A2, c2, rfl, P2, hb⟩
  have HP2 := Lib.hid P2
  have HB2 := Lib.hid (below_then HB1.out hb)
  clear P2 hb
  go_wp2_with fail
  go_ret
  exact ⟨A2, c2, rfl, HP2.out, HB2.out⟩
end Go.Proofs.Ytmhglbnoddimhaa
