/-
  The mathematics of xoshiro256**: states, their next ones and those ahead, sums, words and lowest bits.
-/
import Derived.Test.YthohgleklcoglaaGfpM
namespace Go.Proofs.Ythohgleklcoglaa.G
set_option linter.unusedVariables false

/-- A word, so many places up. -/
def sl (n x : Nat) : Nat := x * 2 ^ n % 18446744073709551616
theorem sl_lt (n x : Nat) : sl n x < 18446744073709551616 := Nat.mod_lt _ (by decide)
theorem sl_bit (n x i : Nat) : (sl n x).testBit i = (decide (i < 64) && (decide (n ≤ i) && x.testBit (i - n))) := by
  unfold sl
  rw [show (18446744073709551616 : Nat) = 2 ^ 64 from rfl, Nat.testBit_mod_two_pow, bit_shift]
theorem sl_xor (n x y : Nat) : sl n (x ^^^ y) = sl n x ^^^ sl n y := by
  refine Nat.eq_of_testBit_eq (fun i => ?_)
  rw [Nat.testBit_xor, sl_bit, sl_bit, sl_bit, Nat.testBit_xor]
  cases decide (i < 64) <;> cases decide (n ≤ i) <;> cases x.testBit (i - n) <;> cases y.testBit (i - n) <;> rfl
theorem sl_sl (m n x : Nat) : sl m (sl n x) = sl (m + n) x := by
  refine Nat.eq_of_testBit_eq (fun i => ?_)
  rw [sl_bit, sl_bit, sl_bit]
  by_cases h0 : i < 64
  · by_cases h1 : m ≤ i
    · by_cases h2 : n ≤ i - m
      · rw [show i - (m + n) = i - m - n by omega]
        simp [h0, h1, h2, show m + n ≤ i by omega, show i - m < 64 by omega]
      · simp [h0, h1, h2, show ¬ (m + n ≤ i) by omega]
    · simp [h1, show ¬ (m + n ≤ i) by omega]
  · simp [h0]
theorem sl_out {n : Nat} (h : 64 ≤ n) (x : Nat) : sl n x = 0 := by
  refine Nat.eq_of_testBit_eq (fun i => ?_)
  rw [sl_bit, Nat.zero_testBit]
  by_cases h0 : i < 64
  · simp [show ¬ n ≤ i by omega]
  · simp [h0]
/-- A word turned by so many places. -/
def tn (k x : Nat) : Nat := upW k x x
theorem tn_lt {k x : Nat} (h : x < 18446744073709551616) : tn k x < 18446744073709551616 := upW_lt k x x h
theorem tn_bit {k x : Nat} (h0 : 0 < k) (h1 : k < 64) (h : x < 18446744073709551616) (i : Nat) : (tn k x).testBit i = (decide (i < 64) && if k ≤ i then x.testBit (i - k) else x.testBit (64 - k + i)) := by
  have e := sl_bit k x i
  unfold sl at e
  unfold tn upW
  rw [Nat.testBit_or, e, Nat.testBit_div_two_pow]
  by_cases i0 : i < 64
  · by_cases i1 : k ≤ i
    · have := bit_word h (i := 64 - k + i) (by omega)
      rw [Nat.add_comm] at this
      first
        | simp [i0, i1, this]
        | (rw [Nat.add_comm] at this; simp [i0, i1, this])
    · rw [Nat.add_comm (64 - k) i]
      first
        | simp [i0, i1]
        | (rw [Nat.add_comm i (64 - k)]; simp [i0, i1])
  · have := bit_word h (i := 64 - k + i) (by omega)
    rw [Nat.add_comm] at this
    first
      | simp [i0, this]
      | (rw [Nat.add_comm] at this; simp [i0, this])
theorem tn_xor {k x y : Nat} (h0 : 0 < k) (h1 : k < 64) (hx : x < 18446744073709551616) (hy : y < 18446744073709551616) : tn k (x ^^^ y) = tn k x ^^^ tn k y := by
  refine Nat.eq_of_testBit_eq (fun i => ?_)
  rw [Nat.testBit_xor, tn_bit h0 h1 (word_xor hx hy), tn_bit h0 h1 hx, tn_bit h0 h1 hy]
  by_cases i0 : i < 64 <;> by_cases i1 : k ≤ i <;> simp [i0, i1, Nat.testBit_xor]
theorem tn_tn {k x : Nat} (h0 : 0 < k) (h1 : k < 64) (hx : x < 18446744073709551616) : tn (64 - k) (tn k x) = x := by
  refine Nat.eq_of_testBit_eq (fun i => ?_)
  rw [tn_bit (by omega) (by omega) (tn_lt hx)]
  by_cases i0 : i < 64
  · by_cases i1 : 64 - k ≤ i
    · rw [if_pos i1, tn_bit h0 h1 hx, if_neg (by omega), show 64 - k + (i - (64 - k)) = i by omega]
      simp [i0, show i - (64 - k) < 64 by omega]
    · rw [if_neg i1, tn_bit h0 h1 hx, if_pos (by omega), show 64 - (64 - k) + i - k = i by omega]
      simp [i0, show 64 - (64 - k) + i < 64 by omega]
  · rw [bit_word hx (by omega)]; simp [i0]
/-- What unshift tells. -/
def unsh (w : Nat) : Nat := w ^^^ sl 17 w ^^^ sl 34 (w ^^^ sl 17 w)
theorem unsh_lt {w : Nat} (h : w < 18446744073709551616) : unsh w < 18446744073709551616 := word_xor (word_xor h (sl_lt _ _)) (sl_lt _ _)
theorem unsh_sh (x : Nat) : unsh (x ^^^ sl 17 x) = x := by
  unfold unsh
  simp only [sl_xor, sl_sl, Nat.reduceAdd]
  rw [sl_out (n := 68) (by decide)]
  refine Nat.eq_of_testBit_eq (fun i => ?_)
  simp only [Nat.testBit_xor, Nat.zero_testBit]
  generalize x.testBit i = p, (sl 17 x).testBit i = q, (sl 34 x).testBit i = r, (sl 51 x).testBit i = s
  revert p q r s; decide
theorem sh_unsh (w : Nat) : unsh w ^^^ sl 17 (unsh w) = w := by
  unfold unsh
  simp only [sl_xor, sl_sl, Nat.reduceAdd]
  rw [sl_out (n := 68) (by decide)]
  refine Nat.eq_of_testBit_eq (fun i => ?_)
  simp only [Nat.testBit_xor, Nat.zero_testBit]
  generalize w.testBit i = p, (sl 17 w).testBit i = q, (sl 34 w).testBit i = r, (sl 51 w).testBit i = s
  revert p q r s; decide

/-- A state. -/
structure St where
  a : Nat
  b : Nat
  c : Nat
  d : Nat
deriving DecidableEq
/-- Its words are words. -/
structure St.Ok (s : St) : Prop where
  a : s.a < 18446744073709551616
  b : s.b < 18446744073709551616
  c : s.c < 18446744073709551616
  d : s.d < 18446744073709551616
def St.zero : St := ⟨0, 0, 0, 0⟩
def stepS (s : St) : St := ⟨s.a ^^^ (s.d ^^^ s.b), s.b ^^^ (s.c ^^^ s.a), s.c ^^^ s.a ^^^ sl 17 s.b, tn 45 (s.d ^^^ s.b)⟩
/-- The b of the state ahead. -/
def aheadS (s : St) : Nat := unsh (s.b ^^^ s.c)
def backS (s : St) : St := ⟨s.a ^^^ tn 19 s.d, aheadS s, s.b ^^^ aheadS s ^^^ (s.a ^^^ tn 19 s.d), tn 19 s.d ^^^ aheadS s⟩
def addS (s t : St) : St := ⟨s.a ^^^ t.a, s.b ^^^ t.b, s.c ^^^ t.c, s.d ^^^ t.d⟩
theorem St.Ok.step {s : St} (h : s.Ok) : (stepS s).Ok := ⟨word_xor h.a (word_xor h.d h.b), word_xor h.b (word_xor h.c h.a), word_xor (word_xor h.c h.a) (sl_lt _ _), tn_lt (word_xor h.d h.b)⟩
theorem St.Ok.ahead {s : St} (h : s.Ok) : aheadS s < 18446744073709551616 := unsh_lt (word_xor h.b h.c)
theorem St.Ok.back {s : St} (h : s.Ok) : (backS s).Ok := ⟨word_xor h.a (tn_lt h.d), h.ahead, word_xor (word_xor h.b h.ahead) (word_xor h.a (tn_lt h.d)), word_xor (tn_lt h.d) h.ahead⟩
theorem St.Ok.add {s t : St} (h : s.Ok) (k : t.Ok) : (addS s t).Ok := ⟨word_xor h.a k.a, word_xor h.b k.b, word_xor h.c k.c, word_xor h.d k.d⟩
theorem St.Ok.zero : St.zero.Ok := ⟨by decide, by decide, by decide, by decide⟩
theorem St.same {s t : St} (h1 : s.a = t.a) (h2 : s.b = t.b) (h3 : s.c = t.c) (h4 : s.d = t.d) : s = t := by cases s; cases t; simp_all
theorem back_step {s : St} (h : s.Ok) : backS (stepS s) = s := by
  have e1 : tn 19 (stepS s).d = s.d ^^^ s.b := tn_tn (k := 45) (by decide) (by decide) (word_xor h.d h.b)
  have e2 : aheadS (stepS s) = s.b := by
    unfold aheadS stepS
    rw [show s.b ^^^ (s.c ^^^ s.a) ^^^ (s.c ^^^ s.a ^^^ sl 17 s.b) = s.b ^^^ sl 17 s.b by
      rw [Nat.xor_assoc, ← Nat.xor_assoc (s.c ^^^ s.a), Nat.xor_self, Nat.zero_xor], unsh_sh]
  have e3 : (stepS s).a ^^^ (s.d ^^^ s.b) = s.a := xor_cancel _ _
  refine St.same ?_ ?_ ?_ ?_
  · show (stepS s).a ^^^ tn 19 (stepS s).d = _
    rw [e1, e3]
  · exact e2
  · show (stepS s).b ^^^ aheadS (stepS s) ^^^ ((stepS s).a ^^^ tn 19 (stepS s).d) = _
    rw [e1, e2, e3]
    show s.b ^^^ (s.c ^^^ s.a) ^^^ s.b ^^^ s.a = s.c
    rw [Nat.xor_comm s.b, xor_cancel, xor_cancel]
  · show tn 19 (stepS s).d ^^^ aheadS (stepS s) = _
    rw [e1, e2, xor_cancel]
theorem step_back {s : St} (h : s.Ok) : stepS (backS s) = s := by
  have e1 : (backS s).d ^^^ (backS s).b = tn 19 s.d := xor_cancel _ _
  have e2 : (backS s).c ^^^ (backS s).a = s.b ^^^ aheadS s := xor_cancel _ _
  refine St.same ?_ ?_ ?_ ?_
  · show (backS s).a ^^^ ((backS s).d ^^^ (backS s).b) = _
    rw [e1]; exact xor_cancel _ _
  · show (backS s).b ^^^ ((backS s).c ^^^ (backS s).a) = _
    rw [e2]
    show aheadS s ^^^ (s.b ^^^ aheadS s) = _
    rw [Nat.xor_comm, xor_cancel]
  · show (backS s).c ^^^ (backS s).a ^^^ sl 17 (backS s).b = _
    rw [e2]
    show s.b ^^^ aheadS s ^^^ sl 17 (aheadS s) = _
    rw [Nat.xor_assoc]
    unfold aheadS
    rw [sh_unsh, ← Nat.xor_assoc, Nat.xor_self, Nat.zero_xor]
  · show tn 45 ((backS s).d ^^^ (backS s).b) = _
    rw [e1]
    exact tn_tn (k := 19) (by decide) (by decide) h.d
theorem step_zero : stepS St.zero = St.zero := by decide +kernel
theorem back_zero : backS St.zero = St.zero := by decide +kernel
theorem step_right {s : St} (h : s.Ok) : stepS s = St.zero ↔ s = St.zero :=
  ⟨fun e => by rw [← back_step h, e, back_zero], fun e => by rw [e, step_zero]⟩
theorem back_right {s : St} (h : s.Ok) : backS s = St.zero ↔ s = St.zero :=
  ⟨fun e => by rw [← step_back h, e, step_zero], fun e => by rw [e, back_zero]⟩
theorem step_add {s t : St} (h : s.Ok) (k : t.Ok) : stepS (addS s t) = addS (stepS s) (stepS t) := by
  refine St.same ?_ ?_ ?_ ?_
  · show s.a ^^^ t.a ^^^ (s.d ^^^ t.d ^^^ (s.b ^^^ t.b)) = s.a ^^^ (s.d ^^^ s.b) ^^^ (t.a ^^^ (t.d ^^^ t.b))
    rw [xor4 s.d, xor4 s.a]
  · show s.b ^^^ t.b ^^^ (s.c ^^^ t.c ^^^ (s.a ^^^ t.a)) = s.b ^^^ (s.c ^^^ s.a) ^^^ (t.b ^^^ (t.c ^^^ t.a))
    rw [xor4 s.c, xor4 s.b]
  · show s.c ^^^ t.c ^^^ (s.a ^^^ t.a) ^^^ sl 17 (s.b ^^^ t.b) = s.c ^^^ s.a ^^^ sl 17 s.b ^^^ (t.c ^^^ t.a ^^^ sl 17 t.b)
    rw [xor4 s.c, sl_xor, xor4 (s.c ^^^ s.a)]
  · show tn 45 (s.d ^^^ t.d ^^^ (s.b ^^^ t.b)) = tn 45 (s.d ^^^ s.b) ^^^ tn 45 (t.d ^^^ t.b)
    rw [xor4 s.d, tn_xor (by decide) (by decide) (word_xor h.d h.b) (word_xor k.d k.b)]
theorem add_add (s t : St) : addS (addS s t) t = s := St.same (xor_cancel _ _) (xor_cancel _ _) (xor_cancel _ _) (xor_cancel _ _)
theorem add_comm (s t : St) : addS s t = addS t s := St.same (Nat.xor_comm _ _) (Nat.xor_comm _ _) (Nat.xor_comm _ _) (Nat.xor_comm _ _)

def wordS (s : St) : Nat := tn 7 (s.b * 5 % 18446744073709551616) * 9 % 18446744073709551616
theorem wordS_lt (s : St) : wordS s < 18446744073709551616 := Nat.mod_lt _ (by decide)
/-- So many steps. -/
def iterS (s : St) : Nat → St
  | 0 => s
  | k + 1 => stepS (iterS s k)
theorem St.Ok.iter {s : St} (h : s.Ok) : ∀ k, (iterS s k).Ok
  | 0 => h
  | k + 1 => (h.iter k).step
theorem iter_right {s : St} (h : s.Ok) : ∀ k, iterS s k = St.zero ↔ s = St.zero
  | 0 => Iff.rfl
  | k + 1 => (step_right (h.iter k)).trans (iter_right h k)
theorem iterS_add (s : St) (m : Nat) : ∀ n, iterS s (m + n) = iterS (iterS s m) n
  | 0 => rfl
  | n + 1 => by show stepS (iterS s (m + n)) = _; rw [iterS_add s m n]; rfl
/-- So many words. -/
def rowS (s : St) : Nat → List Nat
  | 0 => []
  | k + 1 => rowS s k ++ [wordS (iterS s k)]
theorem rowS_len (s : St) : ∀ k, (rowS s k).length = k
  | 0 => rfl
  | k + 1 => by rw [rowS, List.length_append, rowS_len s k]; rfl
theorem rowS_add (s : St) (m : Nat) : ∀ n, rowS s (m + n) = rowS s m ++ rowS (iterS s m) n
  | 0 => by simp [rowS]
  | n + 1 => by
    show rowS s (m + n) ++ [wordS (iterS s (m + n))] = _
    rw [rowS_add s m n, iterS_add, List.append_assoc]; rfl
theorem rowS_wds (s : St) : ∀ k, Wds (rowS s k)
  | 0 => fun y hy => by cases hy
  | k + 1 => fun y hy => by
    rcases List.mem_append.1 hy with h | h
    · exact rowS_wds s k y h
    · rw [List.mem_singleton.1 h]; exact wordS_lt _
/-- The lowest bit. -/
def bitS (s : St) : Bool := decide (s.a % 2 = 1)
/-- So many lowest bits. -/
def bitsS (s : St) : Nat → List Bool
  | 0 => []
  | k + 1 => bitsS s k ++ [bitS (iterS s k)]
theorem bitsS_len (s : St) : ∀ k, (bitsS s k).length = k
  | 0 => rfl
  | k + 1 => by rw [bitsS, List.length_append, bitsS_len s k]; rfl
theorem bitsS_get (s : St) : ∀ n k, k < n → (bitsS s n).getD k false = bitS (iterS s k)
  | n + 1, k, h => by
    rw [bitsS]
    by_cases e : k < n
    · have := bitsS_get s n k e
      rw [List.getD_eq_getElem?_getD] at this ⊢
      rwa [List.getElem?_append_left (by rw [bitsS_len]; exact e)]
    · obtain rfl : k = n := by omega
      rw [List.getD_eq_getElem?_getD, List.getElem?_append_right (by rw [bitsS_len]; exact Nat.le_refl _), bitsS_len, Nat.sub_self]; rfl
theorem iterS_lin {s t : St} (h : s.Ok) (k : t.Ok) : ∀ n, iterS (addS s t) n = addS (iterS s n) (iterS t n)
  | 0 => rfl
  | n + 1 => by
    show stepS (iterS (addS s t) n) = addS (stepS (iterS s n)) (stepS (iterS t n))
    rw [iterS_lin h k n, step_add (h.iter n) (k.iter n)]
theorem bitS_add (s t : St) : bitS (addS s t) = (bitS s != bitS t) := by
  have e := Nat.testBit_xor s.a t.a 0
  rw [Nat.testBit_zero, Nat.testBit_zero, Nat.testBit_zero] at e
  unfold bitS
  show decide ((s.a ^^^ t.a) % 2 = 1) = _
  rw [e]
theorem bits_lin {s t : St} (h : s.Ok) (k : t.Ok) (n i : Nat) (hi : i < n) : (bitsS (addS s t) n).getD i false = ((bitsS s n).getD i false != (bitsS t n).getD i false) := by
  rw [bitsS_get _ _ _ hi, bitsS_get _ _ _ hi, bitsS_get _ _ _ hi, iterS_lin h k, bitS_add]
end Go.Proofs.Ythohgleklcoglaa.G
