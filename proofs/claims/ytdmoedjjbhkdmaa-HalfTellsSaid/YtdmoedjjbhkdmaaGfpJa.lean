/-
  Polynomials over the field of two as numbers of bits: products without carries, lists of words. Plain mathematics; nothing of the program.
-/
import Derived.Test.YtdmoedjjbhkdmaaRows
import Derived.WalkKit
import Derived.ProofKit
import Derived.OpenShut
import Derived.Handy
import Derived.Lib.Hide
import Derived.Deep.QuietTactic
import Derived.BigQuiet
import Derived.Deep.OwnRows
import Derived.Laws.BitsAllLaws
import Derived.Outline
import Derived.WalkMore
import Derived.Deep.LoopGhost
import Derived.Shelf.Small.Bits
import Derived.Shelf.Strconv.Itoa0
import Derived.Test.YtdmoedjjbhkdmaaProg
import Derived.Deep.RegionHeld3
import Derived.Lib.SmallJoins
import Derived.WideKeyArgs
import Derived.ChangeSlices
import Derived.ChangeSame
import Derived.Laws.OwnMore
import Derived.RegionTactic
import Derived.ChangeAlike
namespace Go.Proofs.Ytdmoedjjbhkdmaa.G
/-- The product of two polynomials over the field of two, each as the number of its bits. -/
def clm (a : Nat) (b : Nat) : Nat :=
  if b = 0 then 0 else (if b % 2 = 1 then a else 0) ^^^ (2 * clm a (b / 2))
  termination_by b
  decreasing_by omega

theorem clm_zero (a : Nat) : clm a 0 = 0 := by unfold clm; simp
theorem clm_step (a b : Nat) : clm a b = (if b % 2 = 1 then a else 0) ^^^ (2 * clm a (b / 2)) := by
  by_cases h : b = 0
  · subst h; simp [clm_zero]
  · rw [clm, if_neg h]
theorem two_xor (a b : Nat) : 2 * (a ^^^ b) = 2 * a ^^^ 2 * b := by
  have := Nat.shiftLeft_xor_distrib (a := a) (b := b) (i := 1)
  simp only [Nat.shiftLeft_eq, Nat.pow_one] at this
  rw [Nat.mul_comm 2, Nat.mul_comm 2, Nat.mul_comm 2]; exact this
theorem clm_even (a b : Nat) : clm a (2 * b) = 2 * clm a b := by
  rw [clm_step a (2 * b), if_neg (by omega), Nat.zero_xor, show 2 * b / 2 = b from by omega]
theorem clm_odd (a b : Nat) : clm a (2 * b + 1) = a ^^^ 2 * clm a b := by
  rw [clm_step, if_pos (by omega), show (2 * b + 1) / 2 = b from by omega]
theorem bin (P : Nat → Prop) (h0 : P 0) (he : ∀ b, P b → P (2 * b)) (ho : ∀ b, P b → P (2 * b + 1)) : ∀ b, P b := by
  intro b
  induction b using Nat.strongRecOn with
  | _ b ih =>
    by_cases h : b = 0
    · subst h; exact h0
    · have := ih (b / 2) (by omega)
      rcases Nat.mod_two_eq_zero_or_one b with e | e
      · have := he _ this; rwa [show 2 * (b / 2) = b from by omega] at this
      · have := ho _ this; rwa [show 2 * (b / 2) + 1 = b from by omega] at this
theorem xor4 (a b c d : Nat) : (a ^^^ b) ^^^ (c ^^^ d) = (a ^^^ c) ^^^ (b ^^^ d) := by
  rw [Nat.xor_assoc, ← Nat.xor_assoc b, Nat.xor_comm b c, Nat.xor_assoc c, ← Nat.xor_assoc a]
theorem clm_xor_left (a a' b : Nat) : clm (a ^^^ a') b = clm a b ^^^ clm a' b := by
  refine bin (fun b => clm (a ^^^ a') b = clm a b ^^^ clm a' b) (by simp [clm_zero]) (fun b ih => ?_) (fun b ih => ?_) b
  · simp only [clm_even, ih, two_xor]
  · simp only [clm_odd, ih, two_xor]; exact xor4 _ _ _ _
theorem clm_two_left (a b : Nat) : clm (2 * a) b = 2 * clm a b := by
  refine bin (fun b => clm (2 * a) b = 2 * clm a b) (by simp [clm_zero]) (fun b ih => ?_) (fun b ih => ?_) b
  · simp only [clm_even, ih]
  · simp only [clm_odd, ih, two_xor]
theorem clm_zero_left (b : Nat) : clm 0 b = 0 := by
  refine bin (fun b => clm 0 b = 0) (clm_zero 0) (fun b ih => ?_) (fun b ih => ?_) b
  · simp only [clm_even, ih]
  · simp only [clm_odd, ih]; rfl
theorem odd_xor (b : Nat) : 2 * b + 1 = 2 * b ^^^ 1 := by
  refine Nat.eq_of_testBit_eq (fun i => ?_)
  cases i with
  | zero => simp [Nat.testBit_zero]
  | succ i => simp only [Nat.testBit_succ, Nat.xor_div_two]; rw [show (2 * b + 1) / 2 = b from by omega, show 2 * b / 2 = b from by omega]; simp
theorem clm_one (a : Nat) : clm a 1 = a := by
  have := clm_odd a 0; simpa [clm_zero] using this
theorem clm_one_left (b : Nat) : clm 1 b = b := by
  refine bin (fun b => clm 1 b = b) (clm_zero 1) (fun b ih => ?_) (fun b ih => ?_) b
  · simp only [clm_even, ih]
  · simp only [clm_odd, ih]; rw [odd_xor, Nat.xor_comm]
theorem clm_comm (a b : Nat) : clm a b = clm b a := by
  refine bin (fun b => clm a b = clm b a) (by rw [clm_zero, clm_zero_left]) (fun b ih => ?_) (fun b ih => ?_) b
  · rw [clm_even, clm_two_left, ih]
  · rw [clm_odd, odd_xor, clm_xor_left, clm_two_left, clm_one_left, ih, Nat.xor_comm]
theorem clm_xor (a b b' : Nat) : clm a (b ^^^ b') = clm a b ^^^ clm a b' := by
  rw [clm_comm, clm_xor_left, clm_comm b, clm_comm b']
theorem clm_assoc (a b c : Nat) : clm (clm a b) c = clm a (clm b c) := by
  refine bin (fun c => clm (clm a b) c = clm a (clm b c)) (by simp [clm_zero]) (fun c ih => ?_) (fun c ih => ?_) c
  · simp only [clm_even, ih]
  · simp only [clm_odd, ih, clm_xor, clm_even]
theorem clm_pow (a n : Nat) : clm a (2 ^ n) = a * 2 ^ n := by
  induction n with
  | zero => simp [clm_one]
  | succ n ih => rw [Nat.pow_succ, Nat.mul_comm (2 ^ n), clm_even, ih, ← Nat.mul_assoc, Nat.mul_comm 2 a, Nat.mul_assoc]
theorem clm_shift (a b n : Nat) : clm a (b * 2 ^ n) = clm a b * 2 ^ n := by
  rw [← clm_pow, ← clm_assoc, clm_pow]
theorem clm_shift_left (a b n : Nat) : clm (a * 2 ^ n) b = clm a b * 2 ^ n := by
  rw [clm_comm, clm_shift, clm_comm]
theorem xor_cancel (a b : Nat) : a ^^^ b ^^^ b = a := by rw [Nat.xor_assoc, Nat.xor_self, Nat.xor_zero]
theorem xor_shift (a b n : Nat) : (a ^^^ b) * 2 ^ n = a * 2 ^ n ^^^ b * 2 ^ n := by
  have := Nat.shiftLeft_xor_distrib (a := a) (b := b) (i := n)
  simpa only [Nat.shiftLeft_eq] using this

theorem sq_even (a : Nat) : clm (2 * a) (2 * a) = 2 * (2 * clm a a) := by rw [clm_even, clm_two_left]
theorem sq_xor (a b : Nat) : clm (a ^^^ b) (a ^^^ b) = clm a a ^^^ clm b b := by
  rw [clm_xor, clm_xor_left, clm_xor_left, clm_comm b a]
  rw [Nat.xor_assoc, ← Nat.xor_assoc (clm a b), Nat.xor_self, Nat.zero_xor]
theorem sq_odd (a : Nat) : clm (2 * a + 1) (2 * a + 1) = 2 * (2 * clm a a) + 1 := by
  rw [odd_xor, sq_xor, sq_even, clm_one, odd_xor]
theorem bit_even (a i : Nat) : (2 * a).testBit (i + 1) = a.testBit i := by rw [Nat.testBit_succ, show 2 * a / 2 = a from by omega]
theorem bit_odd (a i : Nat) : (2 * a + 1).testBit (i + 1) = a.testBit i := by rw [Nat.testBit_succ, show (2 * a + 1) / 2 = a from by omega]
theorem bit_even0 (a : Nat) : (2 * a).testBit 0 = false := by simp [Nat.testBit_zero]
theorem bit_odd0 (a : Nat) : (2 * a + 1).testBit 0 = true := by simp [Nat.testBit_zero]
theorem sq_bits (a : Nat) : ∀ n, (clm a a).testBit (2 * n) = a.testBit n ∧ (clm a a).testBit (2 * n + 1) = false := by
  refine bin (fun a => ∀ n, (clm a a).testBit (2 * n) = a.testBit n ∧ (clm a a).testBit (2 * n + 1) = false) (by simp [clm_zero]) (fun b ih n => ?_) (fun b ih n => ?_) a
  · rw [sq_even]
    cases n with
    | zero => exact ⟨by rw [Nat.mul_zero, bit_even0, bit_even0], by rw [bit_even, Nat.mul_zero, bit_even0]⟩
    | succ n =>
      rw [show 2 * (n + 1) = (2 * n) + 1 + 1 from by omega, bit_even, bit_even, bit_even, bit_even, bit_even]
      exact ih n
  · rw [sq_odd]
    cases n with
    | zero => exact ⟨by rw [Nat.mul_zero, bit_odd0, bit_odd0], by rw [bit_odd, Nat.mul_zero, bit_even0]⟩
    | succ n =>
      rw [show 2 * (n + 1) = (2 * n) + 1 + 1 from by omega, bit_odd, bit_even, bit_odd, bit_odd, bit_even]
      exact ih n
/-- Degrees: how many bits a number has. -/
def len : Nat → Nat := fun n => if n = 0 then 0 else Nat.log2 n + 1
theorem len_zero : len 0 = 0 := rfl
theorem len_lt (n : Nat) : n < 2 ^ len n := by
  unfold len; split
  · subst_vars; decide
  · exact Nat.lt_log2_self
theorem len_le {n k : Nat} (h : n < 2 ^ k) : len n ≤ k := by
  unfold len; split
  · omega
  · exact (Nat.log2_lt (by assumption)).2 h
theorem len_ge {n : Nat} (h : n ≠ 0) : 2 ^ (len n - 1) ≤ n := by
  unfold len; rw [if_neg h]; exact Nat.log2_self_le h
theorem len_pos {n : Nat} (h : n ≠ 0) : 0 < len n := by unfold len; rw [if_neg h]; omega
theorem len_of {n k : Nat} (h1 : 2 ^ k ≤ n) (h2 : n < 2 ^ (k + 1)) : len n = k + 1 := by
  have a := len_le h2
  have h0 : n ≠ 0 := by have := Nat.two_pow_pos k; omega
  have b := len_lt n
  have c : 2 ^ k < 2 ^ len n := by omega
  have := (Nat.pow_lt_pow_iff_right (by decide : 1 < 2)).1 c
  omega
theorem len_two {n : Nat} (h : n ≠ 0) : len (2 * n) = len n + 1 := by
  have a := len_ge h; have b := len_lt n; have c := len_pos h
  refine len_of ?_ ?_
  · have : 2 ^ len n = 2 * 2 ^ (len n - 1) := by rw [← Nat.pow_succ']; congr 1; omega
    omega
  · rw [Nat.pow_succ]; omega
theorem xor_lt {a b k : Nat} (ha : a < 2 ^ k) (hb : b < 2 ^ k) : a ^^^ b < 2 ^ k := Nat.xor_lt_two_pow ha hb
theorem len_xor_le (a b k : Nat) (ha : len a ≤ k) (hb : len b ≤ k) : len (a ^^^ b) ≤ k :=
  len_le (xor_lt (Nat.lt_of_lt_of_le (len_lt a) (Nat.pow_le_pow_right (by decide) ha)) (Nat.lt_of_lt_of_le (len_lt b) (Nat.pow_le_pow_right (by decide) hb)))
theorem len_bit {a : Nat} (h : a ≠ 0) : a.testBit (len a - 1) = true := by
  have a1 := len_ge h; have b := len_lt a; have c := len_pos h
  rw [Nat.testBit_eq_decide_div_mod_eq]
  have e : 2 ^ len a = 2 * 2 ^ (len a - 1) := by rw [← Nat.pow_succ']; congr 1; omega
  have : a / 2 ^ (len a - 1) = 1 := by
    apply Nat.div_eq_of_lt_le <;> omega
  simp [this]
theorem len_bit_out {a i : Nat} (h : len a ≤ i) : a.testBit i = false :=
  Nat.testBit_lt_two_pow (Nat.lt_of_lt_of_le (len_lt a) (Nat.pow_le_pow_right (by decide) h))
theorem len_xor_lt {a b : Nat} (h : len b < len a) : len (a ^^^ b) = len a := by
  have ha : a ≠ 0 := by intro e; subst e; simp [len_zero] at h
  have up := len_xor_le a b (len a) (Nat.le_refl _) (Nat.le_of_lt h)
  have hb := len_bit ha
  have ho := len_bit_out (a := b) (i := len a - 1) (by omega)
  have : (a ^^^ b).testBit (len a - 1) = true := by rw [Nat.testBit_xor, hb, ho]; rfl
  have p := len_pos ha
  by_cases q : len (a ^^^ b) ≤ len a - 1
  · rw [len_bit_out q] at this; cases this
  · omega
theorem len_clm {a b : Nat} (ha : a ≠ 0) : b ≠ 0 → clm a b ≠ 0 ∧ len (clm a b) + 1 = len a + len b := by
  refine bin (fun b => b ≠ 0 → clm a b ≠ 0 ∧ len (clm a b) + 1 = len a + len b) (fun h => (h rfl).elim) (fun b ih h => ?_) (fun b ih h => ?_) b
  · have hb : b ≠ 0 := by omega
    obtain ⟨i1, i2⟩ := ih hb
    rw [clm_even, len_two i1, len_two hb]
    exact ⟨by omega, by omega⟩
  · by_cases hb : b = 0
    · subst hb; rw [Nat.mul_zero, Nat.zero_add, clm_one]; exact ⟨ha, rfl⟩
    · obtain ⟨i1, i2⟩ := ih hb
      have e := len_two i1
      have pb := len_pos hb
      have e2 : len (2 * b + 1) = len b + 1 := by
        rw [odd_xor, len_xor_lt, len_two hb]
        rw [len_two hb]; show len 1 < _; have : len 1 = 1 := rfl; omega
      have e3 : len (clm a (2 * b + 1)) = len (clm a b) + 1 := by
        rw [clm_odd, Nat.xor_comm, len_xor_lt, e]
        omega
      refine ⟨fun z => ?_, by omega⟩
      rw [z, len_zero] at e3; omega
theorem len_mul_pow {a : Nat} (ha : a ≠ 0) (n : Nat) : len (a * 2 ^ n) = len a + n := by
  have h := (len_clm ha (b := 2 ^ n) (by have := Nat.two_pow_pos n; omega)).2
  rw [clm_pow] at h
  have : len (2 ^ n) = n + 1 := len_of (Nat.le_refl _) (by rw [Nat.pow_succ]; have := Nat.two_pow_pos n; omega)
  omega
theorem clm_lt {a b m n : Nat} (ha : a < 2 ^ m) (hb : b < 2 ^ n) : clm a b < 2 ^ (m + n) := by
  by_cases h1 : a = 0
  · subst h1; rw [clm_zero_left]; exact Nat.two_pow_pos _
  by_cases h2 : b = 0
  · subst h2; rw [clm_zero]; exact Nat.two_pow_pos _
  have h := (len_clm h1 h2).2
  have := len_le ha; have := len_le hb
  exact Nat.lt_of_lt_of_le (len_lt _) (Nat.pow_le_pow_right (by decide) (by omega))

/-- The number of a list of words, the lowest one first. -/
def leN : List Nat → Nat
  | [] => 0
  | x :: r => x + 18446744073709551616 * leN r
/-- All are words of 64 bits. -/
def Wds (xs : List Nat) : Prop := ∀ x ∈ xs, x < 18446744073709551616
theorem Wds.head {x : Nat} {r : List Nat} (h : Wds (x :: r)) : x < 18446744073709551616 := h x (by simp)
theorem Wds.tail {x : Nat} {r : List Nat} (h : Wds (x :: r)) : Wds r := fun y hy => h y (by simp [hy])
theorem Wds.get {xs : List Nat} (h : Wds xs) (i : Nat) : xs.getD i 0 < 18446744073709551616 := by
  rw [List.getD_eq_getElem?_getD]
  by_cases hi : i < xs.length
  · rw [List.getElem?_eq_getElem hi]; exact h _ (List.getElem_mem hi)
  · rw [List.getElem?_eq_none (by omega)]; decide
/-- The words of a number: its own form. -/
def wordsOf (n : Nat) : List Nat := if n = 0 then [] else n % 18446744073709551616 :: wordsOf (n / 18446744073709551616)
  termination_by n
  decreasing_by omega
theorem wordsOf_zero : wordsOf 0 = [] := by unfold wordsOf; simp
theorem wordsOf_pos {n : Nat} (h : n ≠ 0) : wordsOf n = n % 18446744073709551616 :: wordsOf (n / 18446744073709551616) := by rw [wordsOf, if_neg h]
theorem wordsOf_facts (n : Nat) : leN (wordsOf n) = n ∧ Wds (wordsOf n) := by
  induction n using Nat.strongRecOn with
  | _ n ih =>
    by_cases h : n = 0
    · subst h; rw [wordsOf_zero]; exact ⟨rfl, fun x hx => by cases hx⟩
    · rw [wordsOf_pos h]
      obtain ⟨a, b⟩ := ih (n / 18446744073709551616) (by omega)
      refine ⟨by simp only [leN, a]; omega, fun x hx => ?_⟩
      rcases List.mem_cons.1 hx with rfl | hx
      · omega
      · exact b x hx
theorem leN_wordsOf (n : Nat) : leN (wordsOf n) = n := (wordsOf_facts n).1
theorem wds_wordsOf (n : Nat) : Wds (wordsOf n) := (wordsOf_facts n).2
theorem wordsOf_len (k : Nat) : ∀ {n : Nat}, n < 2 ^ (64 * k) → (wordsOf n).length ≤ k := by
  induction k with
  | zero => intro n h; have : n = 0 := by simpa using h
            subst this; rw [wordsOf_zero]; simp
  | succ k ih =>
    intro n h
    by_cases hn : n = 0
    · subst hn; rw [wordsOf_zero]; simp
    · rw [wordsOf_pos hn, List.length_cons]
      have : n / 18446744073709551616 < 2 ^ (64 * k) := by
        rw [Nat.div_lt_iff_lt_mul (by decide), show (18446744073709551616 : Nat) = 2 ^ 64 from rfl, ← Nat.pow_add, show 64 * k + 64 = 64 * (k + 1) from by omega]; exact h
      have := ih this
      omega
theorem leN_cons (x : Nat) (r : List Nat) : leN (x :: r) = x + 18446744073709551616 * leN r := rfl
theorem leN_zero {xs : List Nat} (h : ∀ i, xs.getD i 0 = 0) : leN xs = 0 := by
  induction xs with
  | nil => rfl
  | cons x r ih =>
    have h0 := h 0
    have := ih (fun i => by have := h (i + 1); simpa using this)
    simp at h0
    rw [leN_cons, this, h0]
/-- The first n words of a list, where all behind are 0 and the last of them isn't, are the own form. -/
theorem take_own : ∀ (xs : List Nat) (n : Nat), Wds xs → n ≤ xs.length → (∀ i, n ≤ i → xs.getD i 0 = 0) → (n = 0 ∨ xs.getD (n - 1) 0 ≠ 0) → xs.take n = wordsOf (leN xs)
  | xs, 0, _, _, hz, _ => by rw [leN_zero (fun i => hz i (Nat.zero_le _)), wordsOf_zero, List.take_zero]
  | [], n + 1, _, hl, _, _ => by simp at hl
  | x :: r, n + 1, hw, hl, hz, hn => by
    have hx := hw.head
    have hne : (x :: r).getD n 0 ≠ 0 := by
      rcases hn with h | h
      · omega
      · simpa using h
    have ih := take_own r n hw.tail (by simpa using hl) (fun i hi => by have := hz (i + 1) (by omega); simpa using this) (by
      cases n with
      | zero => exact .inl rfl
      | succ n => right; simpa using hne)
    have nz : x + 18446744073709551616 * leN r ≠ 0 := by
      intro e
      have e1 : x = 0 := by omega
      have e2 : leN r = 0 := by omega
      rw [e2, wordsOf_zero] at ih
      cases n with
      | zero => exact hne (by simp [e1])
      | succ n =>
        have := congrArg List.length ih
        simp only [List.length_take, List.length_nil, List.length_cons] at this hl
        omega
    rw [leN_cons, wordsOf_pos nz, List.take_succ_cons, show (x + 18446744073709551616 * leN r) % 18446744073709551616 = x from by omega, show (x + 18446744073709551616 * leN r) / 18446744073709551616 = leN r from by omega, ih]
theorem bit_leN : ∀ (xs : List Nat) (k : Nat), Wds xs → (leN xs).testBit k = (xs.getD (k / 64) 0).testBit (k % 64)
  | [], k, _ => by simp [leN]
  | x :: r, k, hw => by
    have h := Nat.testBit_two_pow_mul_add (leN r) (b := x) (i := 64) hw.head k
    rw [leN_cons, Nat.add_comm, show (18446744073709551616 : Nat) = 2 ^ 64 from rfl, h]
    by_cases hk : k < 64
    · rw [if_pos hk, show k / 64 = 0 from by omega, show k % 64 = k from by omega]; rfl
    · rw [if_neg hk, bit_leN r (k - 64) hw.tail, show k / 64 = (k - 64) / 64 + 1 from by omega, show (k - 64) % 64 = k % 64 from by omega]; simp
theorem leN_lt : ∀ (xs : List Nat), Wds xs → leN xs < 2 ^ (64 * xs.length)
  | [], _ => by simp [leN]
  | x :: r, hw => by
    have := leN_lt r hw.tail
    have hx := hw.head
    rw [leN_cons, List.length_cons, show 64 * (r.length + 1) = 64 * r.length + 64 from by omega, Nat.pow_add, show (2 : Nat) ^ 64 = 18446744073709551616 from rfl]
    omega
theorem bit_word {x : Nat} (hx : x < 18446744073709551616) {i : Nat} (hi : 64 ≤ i) : x.testBit i = false :=
  Nat.testBit_lt_two_pow (Nat.lt_of_lt_of_le hx (by rw [show (18446744073709551616 : Nat) = 2 ^ 64 from rfl]; exact Nat.pow_le_pow_right (by decide) hi))
theorem bit_shift (v n i : Nat) : (v * 2 ^ n).testBit i = (decide (n ≤ i) && v.testBit (i - n)) := by
  rw [Nat.mul_comm, Nat.testBit_two_pow_mul]
theorem getD_set (ps : List Nat) (k v i : Nat) (hk : k < ps.length) : (ps.set k v).getD i 0 = if i = k then v else ps.getD i 0 := by
  simp only [List.getD_eq_getElem?_getD, List.getElem?_set]
  by_cases h : i = k
  · subst h; simp [hk]
  · rw [if_neg (fun e => h e.symm), if_neg h]
theorem Wds.set {ps : List Nat} (h : Wds ps) (k v : Nat) (hv : v < 18446744073709551616) : Wds (ps.set k v) := by
  intro x hx
  rcases List.mem_or_eq_of_mem_set hx with h1 | h1
  · exact h x h1
  · rw [h1]; exact hv
theorem word_xor {a b : Nat} (ha : a < 18446744073709551616) (hb : b < 18446744073709551616) : a ^^^ b < 18446744073709551616 := Nat.xor_lt_two_pow (n := 64) ha hb
/-- A word that is added to one of a list. -/
theorem leN_set_xor (ps : List Nat) (k v : Nat) (hw : Wds ps) (hk : k < ps.length) (hv : v < 18446744073709551616) : leN (ps.set k (ps.getD k 0 ^^^ v)) = leN ps ^^^ v * 2 ^ (64 * k) := by
  refine Nat.eq_of_testBit_eq (fun i => ?_)
  rw [bit_leN _ _ (hw.set k _ (word_xor (hw.get k) hv)), Nat.testBit_xor, bit_leN _ _ hw, bit_shift, getD_set _ _ _ _ hk]
  by_cases h : i / 64 = k
  · rw [if_pos h, Nat.testBit_xor, ← h, show i - 64 * (i / 64) = i % 64 from by omega, show decide (64 * (i / 64) ≤ i) = true from by simp; omega]; simp
  · rw [if_neg h]
    by_cases h2 : 64 * k ≤ i
    · rw [bit_word hv (by omega)]; simp
    · simp [h2]
theorem leN_take_succ (xs : List Nat) (k : Nat) (hw : Wds xs) : leN (xs.take (k + 1)) = leN (xs.take k) ^^^ xs.getD k 0 * 2 ^ (64 * k) := by
  have ht : ∀ n, Wds (xs.take n) := fun n x hx => hw x (List.mem_of_mem_take hx)
  refine Nat.eq_of_testBit_eq (fun i => ?_)
  rw [Nat.testBit_xor, bit_leN _ _ (ht _), bit_leN _ _ (ht _), bit_shift]
  simp only [List.getD_eq_getElem?_getD, List.getElem?_take]
  by_cases h : i / 64 = k
  · rw [if_pos (by omega), if_neg (by omega), ← h, show i - 64 * (i / 64) = i % 64 from by omega, show decide (64 * (i / 64) ≤ i) = true from by simp; omega]; simp
  · have e : (decide (64 * k ≤ i) && ((xs[k]?.getD 0).testBit (i - 64 * k))) = false := by
      by_cases h2 : 64 * k ≤ i
      · have := bit_word (hw.get k) (i := i - 64 * k) (by omega)
        rw [List.getD_eq_getElem?_getD] at this
        rw [this]; simp
      · simp [h2]
    rw [e]
    by_cases h3 : i / 64 < k
    · rw [if_pos (by omega), if_pos h3]; simp
    · rw [if_neg (by omega), if_neg h3]; simp
theorem leN_take_all (xs : List Nat) (n : Nat) (h : ∀ i, n ≤ i → xs.getD i 0 = 0) (hw : Wds xs) : leN (xs.take n) = leN xs := by
  have ht : ∀ n, Wds (xs.take n) := fun n x hx => hw x (List.mem_of_mem_take hx)
  refine Nat.eq_of_testBit_eq (fun i => ?_)
  rw [bit_leN _ _ (ht _), bit_leN _ _ hw]
  by_cases h3 : i / 64 < n
  · simp only [List.getD_eq_getElem?_getD, List.getElem?_take]; rw [if_pos h3]
  · rw [h _ (by omega)]; simp only [List.getD_eq_getElem?_getD, List.getElem?_take]; rw [if_neg h3]; simp
/-- A list that holds the sums of the words of two. -/
theorem leN_sum (ps xs ys : List Nat) (hp : Wds ps) (hx : Wds xs) (hy : Wds ys) (h : ∀ i, ps.getD i 0 = xs.getD i 0 ^^^ ys.getD i 0) : leN ps = leN xs ^^^ leN ys := by
  refine Nat.eq_of_testBit_eq (fun i => ?_)
  rw [Nat.testBit_xor, bit_leN _ _ hp, bit_leN _ _ hx, bit_leN _ _ hy, h, Nat.testBit_xor]
/-- A word of what goes up: s bits. -/
def upW (s x y : Nat) : Nat := x * 2 ^ s % 18446744073709551616 ||| y / 2 ^ (64 - s)
theorem upW_lt (s x y : Nat) (hy : y < 18446744073709551616) : upW s x y < 18446744073709551616 := by
  unfold upW
  exact Nat.or_lt_two_pow (n := 64) (Nat.mod_lt _ (by decide)) (Nat.lt_of_le_of_lt (Nat.div_le_self _ _) hy)
theorem leN_up (ps xs : List Nat) (q s : Nat) (hs : s < 64) (hp : Wds ps) (hx : Wds xs)
    (h : ∀ i, ps.getD i 0 = if i < q then 0 else upW s (xs.getD (i - q) 0) (if i = q then 0 else xs.getD (i - q - 1) 0)) : leN ps = leN xs * 2 ^ (64 * q + s) := by
  refine Nat.eq_of_testBit_eq (fun i => ?_)
  rw [bit_shift, bit_leN _ _ hp, bit_leN _ _ hx, h]
  by_cases h1 : i / 64 < q
  · rw [if_pos h1, show decide (64 * q + s ≤ i) = false from by simp; omega]; simp
  · rw [if_neg h1]
    unfold upW
    have e64 : (18446744073709551616 : Nat) = 2 ^ 64 := rfl
    rw [Nat.testBit_or, Nat.testBit_div_two_pow, e64, Nat.testBit_mod_two_pow, bit_shift]
    have d1 : decide (i % 64 < 64) = true := by simp; omega
    rw [d1, Bool.true_and]
    by_cases h2 : s ≤ i % 64
    · have b2 : ∀ y, y < 18446744073709551616 → y.testBit (i % 64 + (64 - s)) = false := fun y hy => bit_word hy (by omega)
      rw [b2 _ (by split; decide; exact hx.get _), Bool.or_false, show decide (s ≤ i % 64) = true from by simpa using h2, Bool.true_and, show decide (64 * q + s ≤ i) = true from by simp; omega, Bool.true_and, show (i - (64 * q + s)) / 64 = i / 64 - q from by omega, show (i - (64 * q + s)) % 64 = i % 64 - s from by omega]
    · rw [show decide (s ≤ i % 64) = false from by simpa using h2, Bool.false_and, Bool.false_or]
      by_cases h3 : i / 64 = q
      · rw [if_pos h3, show decide (64 * q + s ≤ i) = false from by simp; omega]; simp
      · rw [if_neg h3, show decide (64 * q + s ≤ i) = true from by simp; omega, Bool.true_and, show (i - (64 * q + s)) / 64 = i / 64 - q - 1 from by omega, show (i - (64 * q + s)) % 64 = i % 64 + (64 - s) from by omega]
theorem leN_inj {xs ys : List Nat} (hx : Wds xs) (hy : Wds ys) (h : leN xs = leN ys) (i : Nat) : xs.getD i 0 = ys.getD i 0 := by
  refine Nat.eq_of_testBit_eq (fun t => ?_)
  by_cases ht : t < 64
  · have a := bit_leN xs (64 * i + t) hx
    have b := bit_leN ys (64 * i + t) hy
    rw [h, b, show (64 * i + t) / 64 = i from by omega, show (64 * i + t) % 64 = t from by omega] at a
    exact a.symm
  · rw [bit_word (hx.get i) (by omega), bit_word (hy.get i) (by omega)]
/-- The product of two words, part by part: after i parts. -/
theorem parts_step (a b i : Nat) : clm a (b % 2 ^ (i + 1)) = if b.testBit i then clm a (b % 2 ^ i) ^^^ a * 2 ^ i else clm a (b % 2 ^ i) := by
  have e : b % 2 ^ (i + 1) = b % 2 ^ i ^^^ (if b.testBit i then 2 ^ i else 0) := by
    refine Nat.eq_of_testBit_eq (fun j => ?_)
    rw [Nat.testBit_xor, Nat.testBit_mod_two_pow, Nat.testBit_mod_two_pow]
    by_cases hj : j = i
    · subst hj
      by_cases hb : b.testBit j <;> simp [hb, Nat.testBit_two_pow_self]
    · have : (if b.testBit i then 2 ^ i else 0 : Nat).testBit j = false := by
        split
        · exact Nat.testBit_two_pow_of_ne (fun e => hj e.symm)
        · simp
      rw [this]
      by_cases h2 : j < i
      · simp [h2, show j < i + 1 from by omega]
      · simp [h2, show ¬ j < i + 1 from by omega]
  rw [e]
  split
  · rw [clm_xor, clm_pow]
  · rw [Nat.xor_zero]
theorem div_shift (a n m : Nat) (h : n ≤ m) : a * 2 ^ n / 2 ^ m = a / 2 ^ (m - n) := by
  have : (2 : Nat) ^ m = 2 ^ n * 2 ^ (m - n) := by rw [← Nat.pow_add]; congr 1; omega
  rw [this, ← Nat.div_div_eq_div_mul, Nat.mul_div_cancel _ (Nat.two_pow_pos n)]
theorem xor_div (a b n : Nat) : (a ^^^ b) / 2 ^ n = a / 2 ^ n ^^^ b / 2 ^ n := by
  have := Nat.shiftRight_xor_distrib (a := a) (b := b) (i := n)
  simpa only [Nat.shiftRight_eq_div_pow] using this
theorem xor_mod (a b n : Nat) : (a ^^^ b) % 2 ^ n = a % 2 ^ n ^^^ b % 2 ^ n := by
  refine Nat.eq_of_testBit_eq (fun j => ?_)
  simp only [Nat.testBit_xor, Nat.testBit_mod_two_pow]
  by_cases h : j < n <;> simp [h]
end Go.Proofs.Ytdmoedjjbhkdmaa.G
/-
  Lists of bits and their numbers. Plain mathematics; nothing of the program.
-/
namespace Go.Proofs.Ytdmoedjjbhkdmaa.G
/-- The number of a list of bits, the lowest one first. -/
def leB : List Nat → Nat
  | [] => 0
  | x :: r => x + 2 * leB r
def Bts (xs : List Nat) : Prop := ∀ x ∈ xs, x < 2
theorem Bts.head {x : Nat} {r : List Nat} (h : Bts (x :: r)) : x < 2 := h x (by simp)
theorem Bts.tail {x : Nat} {r : List Nat} (h : Bts (x :: r)) : Bts r := fun y hy => h y (by simp [hy])
theorem Bts.get {xs : List Nat} (h : Bts xs) (i : Nat) : xs.getD i 0 < 2 := by
  rw [List.getD_eq_getElem?_getD]
  by_cases hi : i < xs.length
  · rw [List.getElem?_eq_getElem hi]; exact h _ (List.getElem_mem hi)
  · rw [List.getElem?_eq_none (by omega)]; decide
theorem Bts.append {xs ys : List Nat} (h : Bts xs) (k : Bts ys) : Bts (xs ++ ys) := fun x hx => by
  rcases List.mem_append.1 hx with hx | hx
  · exact h x hx
  · exact k x hx
theorem leB_cons (x : Nat) (r : List Nat) : leB (x :: r) = x + 2 * leB r := rfl
/-- A bit of a list of bits is that of its number. -/
theorem leB_get : ∀ (xs : List Nat) (k : Nat), Bts xs → leB xs / 2 ^ k % 2 = xs.getD k 0
  | [], k, _ => by simp [leB]
  | x :: r, 0, h => by have := h.head; rw [leB_cons]; simp; omega
  | x :: r, k + 1, h => by
    have := h.head
    rw [leB_cons, Nat.pow_succ, Nat.mul_comm (2 ^ k), ← Nat.div_div_eq_div_mul, show (x + 2 * leB r) / 2 = leB r from by omega, leB_get r k h.tail]
    simp
theorem bit_leB (xs : List Nat) (k : Nat) (h : Bts xs) : (leB xs).testBit k = decide (xs.getD k 0 = 1) := by
  rw [Nat.testBit_eq_decide_div_mod_eq, leB_get xs k h]
theorem num_ext {M N : Nat} (h : ∀ k, M / 2 ^ k % 2 = N / 2 ^ k % 2) : M = N := by
  refine Nat.eq_of_testBit_eq (fun k => ?_)
  rw [Nat.testBit_eq_decide_div_mod_eq, Nat.testBit_eq_decide_div_mod_eq, h k]
theorem leB_lt : ∀ (xs : List Nat), Bts xs → leB xs < 2 ^ xs.length
  | [], _ => by simp [leB]
  | x :: r, h => by
    have := leB_lt r h.tail
    have := h.head
    rw [leB_cons, List.length_cons, Nat.pow_succ]
    omega
theorem leB_append : ∀ (xs ys : List Nat), leB (xs ++ ys) = leB xs + 2 ^ xs.length * leB ys
  | [], ys => by simp [leB]
  | x :: r, ys => by
    rw [List.cons_append, leB_cons, leB_cons, leB_append r ys, List.length_cons, Nat.pow_succ, Nat.mul_add, Nat.mul_comm (2 ^ r.length) 2, Nat.mul_assoc]
    omega
/-- The bits of a number, none behind the highest 1. -/
def bitsOf (n : Nat) : List Nat := if n = 0 then [] else n % 2 :: bitsOf (n / 2)
  termination_by n
  decreasing_by omega
theorem bitsOf_zero : bitsOf 0 = [] := by unfold bitsOf; simp
theorem bitsOf_pos {n : Nat} (h : n ≠ 0) : bitsOf n = n % 2 :: bitsOf (n / 2) := by rw [bitsOf, if_neg h]
theorem bitsOf_facts (n : Nat) : leB (bitsOf n) = n ∧ Bts (bitsOf n) := by
  induction n using Nat.strongRecOn with
  | _ n ih =>
    by_cases h : n = 0
    · subst h; rw [bitsOf_zero]; exact ⟨rfl, fun x hx => by cases hx⟩
    · rw [bitsOf_pos h]
      obtain ⟨a, b⟩ := ih (n / 2) (by omega)
      refine ⟨by simp only [leB, a]; omega, fun x hx => ?_⟩
      rcases List.mem_cons.1 hx with rfl | hx
      · omega
      · exact b x hx
theorem leB_bitsOf (n : Nat) : leB (bitsOf n) = n := (bitsOf_facts n).1
theorem bts_bitsOf (n : Nat) : Bts (bitsOf n) := (bitsOf_facts n).2
theorem bitsOf_get (n k : Nat) : (bitsOf n).getD k 0 = n / 2 ^ k % 2 := by
  rw [← leB_get _ k (bts_bitsOf n), leB_bitsOf]
theorem bitsOf_len (n : Nat) : (bitsOf n).length = len n := by
  induction n using Nat.strongRecOn with
  | _ n ih =>
    by_cases h : n = 0
    · subst h; rw [bitsOf_zero]; rfl
    · rw [bitsOf_pos h, List.length_cons, ih (n / 2) (by omega)]
      by_cases h2 : n / 2 = 0
      · obtain rfl : n = 1 := by omega
        rfl
      · have e := len_two h2
        rcases Nat.mod_two_eq_zero_or_one n with m | m
        · rw [show 2 * (n / 2) = n from by omega] at e; omega
        · have : len (2 * (n / 2) + 1) = len (2 * (n / 2)) := by
            rw [odd_xor, len_xor_lt]
            rw [e]
            have := len_pos h2
            show len 1 < _
            have : len 1 = 1 := rfl
            omega
          rw [show 2 * (n / 2) + 1 = n from by omega] at this
          omega
theorem leB_same {xs : List Nat} (hx : Bts xs) {N : Nat} (h : leB xs = N) (i : Nat) : xs.getD i 0 = (bitsOf N).getD i 0 := by
  rw [bitsOf_get, ← h, leB_get _ _ hx]
/-- The first bits of a list, where all behind are 0 and the last of them isn't. -/
theorem take_ownB (xs : List Nat) (n N : Nat) (hx : Bts xs) (hN : leB xs = N) (hn : n ≤ xs.length) (hz : ∀ i, n ≤ i → xs.getD i 0 = 0) (h : n = 0 ∨ xs.getD (n - 1) 0 ≠ 0) : xs.take n = bitsOf N := by
  have e : n = len N := by
    apply Nat.le_antisymm
    · rcases h with h | h
      · omega
      · by_cases q : n ≤ len N
        · exact q
        · exfalso
          apply h
          rw [leB_same hx hN, List.getD_eq_getElem?_getD, List.getElem?_eq_none (by rw [bitsOf_len]; omega)]; rfl
    · by_cases q : len N ≤ n
      · exact q
      · exfalso
        have h0 : N ≠ 0 := by intro e; rw [e, len_zero] at q; omega
        have t := len_bit h0
        rw [Nat.testBit_eq_decide_div_mod_eq, ← bitsOf_get, ← leB_same hx hN, hz _ (by omega)] at t
        simp at t
  refine List.ext_getElem (by rw [List.length_take, bitsOf_len]; omega) (fun i h1 h2 => ?_)
  have q := leB_same hx hN i
  rw [List.length_take] at h1
  rw [List.getElem_take]
  simpa [List.getD_eq_getElem?_getD, List.getElem?_eq_getElem (show i < xs.length by omega), List.getElem?_eq_getElem h2] using q
/-- So many bits of a number. -/
def bitsK (k x : Nat) : List Nat := (List.range k).map fun i => x / 2 ^ i % 2
theorem bitsK_length (k x : Nat) : (bitsK k x).length = k := by simp [bitsK]
theorem bitsK_succ (k x : Nat) : bitsK (k + 1) x = bitsK k x ++ [x / 2 ^ k % 2] := by simp [bitsK, List.range_succ]
theorem bts_bitsK (k x : Nat) : Bts (bitsK k x) := fun y hy => by
  obtain ⟨i, _, rfl⟩ := List.mem_map.1 hy
  exact Nat.mod_lt _ (by decide)
theorem bitsK_get (k x i : Nat) : (bitsK k x).getD i 0 = if i < k then x / 2 ^ i % 2 else 0 := by
  unfold bitsK
  rw [List.getD_eq_getElem?_getD, List.getElem?_map]
  by_cases h : i < k
  · rw [List.getElem?_range h, if_pos h]; rfl
  · rw [List.getElem?_eq_none (by simp; omega), if_neg h]; rfl
theorem leB_bitsK (k x : Nat) (h : x < 2 ^ k) : leB (bitsK k x) = x := by
  refine num_ext (fun i => ?_)
  rw [leB_get _ _ (bts_bitsK k x), bitsK_get]
  split
  · rfl
  · rw [Nat.div_eq_of_lt (Nat.lt_of_lt_of_le h (Nat.pow_le_pow_right (by decide) (by omega)))]
/-- The bits of so many words. -/
def wbits (xs : List Nat) : List Nat := xs.flatMap (bitsK 64)
theorem wbits_length (xs : List Nat) : (wbits xs).length = 64 * xs.length := by
  induction xs with
  | nil => rfl
  | cons x r ih => simp only [wbits, List.flatMap_cons, List.length_append, bitsK_length, List.length_cons] at *; omega
theorem bts_wbits (xs : List Nat) : Bts (wbits xs) := fun y hy => by
  obtain ⟨x, _, h⟩ := List.mem_flatMap.1 hy
  exact bts_bitsK 64 x y h
theorem leB_wbits : ∀ (xs : List Nat), Wds xs → leB (wbits xs) = leN xs
  | [], _ => rfl
  | x :: r, h => by
    rw [wbits, List.flatMap_cons, leB_append, bitsK_length, leN_cons, leB_bitsK 64 x h.head]
    have := leB_wbits r h.tail
    rw [wbits] at this
    rw [this]
theorem wbits_take (xs : List Nat) (k : Nat) (hk : k < xs.length) : wbits (xs.take (k + 1)) = wbits (xs.take k) ++ bitsK 64 (xs.getD k 0) := by
  have e : xs.getD k 0 = xs[k] := by simp [List.getD_eq_getElem?_getD, List.getElem?_eq_getElem hk]
  rw [e, List.take_succ_eq_append_getElem hk, wbits, wbits, List.flatMap_append]
  simp only [List.flatMap_cons, List.flatMap_nil, List.append_nil]
theorem half_step (N a m : Nat) : N / 2 ^ a % 2 ^ (m + 1) = N / 2 ^ (a + 1) % 2 ^ m * 2 + N / 2 ^ a % 2 := by
  rw [Nat.pow_succ 2 a, ← Nat.div_div_eq_div_mul, Nat.pow_succ]
  generalize N / 2 ^ a = M
  rw [Nat.mul_comm (2 ^ m) 2, Nat.mod_mul]
  omega
theorem wordsOf_get (N k : Nat) : (wordsOf N).getD k 0 = N / 2 ^ (64 * k) % 18446744073709551616 := by
  induction k generalizing N with
  | zero =>
    by_cases h : N = 0
    · subst h; rw [wordsOf_zero]; rfl
    · rw [wordsOf_pos h]; simp
  | succ k ih =>
    by_cases h : N = 0
    · subst h; rw [wordsOf_zero]; simp
    · rw [wordsOf_pos h]
      have := ih (N / 18446744073709551616)
      rw [Nat.div_div_eq_div_mul, show (18446744073709551616 : Nat) * 2 ^ (64 * k) = 2 ^ (64 * (k + 1)) from by rw [show 64 * (k + 1) = 64 + 64 * k from by omega, Nat.pow_add]] at this
      simpa using this
theorem leB_sum (ps xs ys : List Nat) (hp : Bts ps) (hx : Bts xs) (hy : Bts ys) (h : ∀ i, ps.getD i 0 = (xs.getD i 0 + ys.getD i 0) % 2) : leB ps = leB xs ^^^ leB ys := by
  refine Nat.eq_of_testBit_eq (fun i => ?_)
  have a := hx.get i
  have b := hy.get i
  rw [Nat.testBit_xor, bit_leB _ _ hp, bit_leB _ _ hx, bit_leB _ _ hy, h]
  rcases (show xs.getD i 0 = 0 ∨ xs.getD i 0 = 1 by omega) with e | e <;> rcases (show ys.getD i 0 = 0 ∨ ys.getD i 0 = 1 by omega) with f | f <;> rw [e, f] <;> rfl
theorem leB_up (xs : List Nat) (n : Nat) : leB (List.replicate n 0 ++ xs) = leB xs * 2 ^ n := by
  have z : leB (List.replicate n 0) = 0 := by
    induction n with
    | zero => rfl
    | succ n ih => rw [List.replicate_succ, leB_cons, ih]
  rw [leB_append, z, List.length_replicate, Nat.zero_add, Nat.mul_comm]
theorem bts_zero (n : Nat) : Bts (List.replicate n 0) := fun x hx => by rw [(List.mem_replicate.1 hx).2]; decide
theorem Bts.set {ps : List Nat} (h : Bts ps) (k v : Nat) (hv : v < 2) : Bts (ps.set k v) := by
  intro x hx
  rcases List.mem_or_eq_of_mem_set hx with h1 | h1
  · exact h x h1
  · rw [h1]; exact hv
theorem leB_set (ps : List Nat) (k v : Nat) (hw : Bts ps) (hk : k < ps.length) (hv : v < 2) : leB (ps.set k ((ps.getD k 0 + v) % 2)) = leB ps ^^^ v * 2 ^ k := by
  refine Nat.eq_of_testBit_eq (fun i => ?_)
  have a := hw.get k
  rw [bit_leB _ _ (hw.set k _ (Nat.mod_lt _ (by decide))), Nat.testBit_xor, bit_leB _ _ hw, bit_shift, getD_set _ _ _ _ hk]
  by_cases h : i = k
  · subst h
    rw [if_pos rfl, Nat.sub_self, show decide (i ≤ i) = true from by simp]
    rcases (show ps.getD i 0 = 0 ∨ ps.getD i 0 = 1 by omega) with e | e <;> rcases (show v = 0 ∨ v = 1 by omega) with f | f <;> rw [e, f] <;> rfl
  · rw [if_neg h]
    have : (decide (k ≤ i) && v.testBit (i - k)) = false := by
      by_cases h2 : k ≤ i
      · have : v.testBit (i - k) = false := Nat.testBit_lt_two_pow (Nat.lt_of_lt_of_le hv (by
          have := Nat.pow_le_pow_right (n := 2) (by decide) (show 1 ≤ i - k by omega)
          simpa using this))
        simp [this]
      · simp [h2]
    rw [this]; simp
theorem leB_take_succ (xs : List Nat) (k : Nat) (hw : Bts xs) (hk : k < xs.length) : leB (xs.take (k + 1)) = leB (xs.take k) ^^^ xs.getD k 0 * 2 ^ k := by
  have e : xs.take (k + 1) = xs.take k ++ [xs.getD k 0] := by
    rw [List.take_succ_eq_append_getElem hk]
    simp [List.getD_eq_getElem?_getD, List.getElem?_eq_getElem hk]
  have l : (xs.take k).length = k := by rw [List.length_take]; omega
  rw [e, leB_append, l]
  have ht : Bts (xs.take k) := fun x hx => hw x (List.mem_of_mem_take hx)
  have lt := leB_lt _ ht
  rw [l] at lt
  show _ + 2 ^ k * (xs.getD k 0 + 2 * 0) = _
  refine Nat.eq_of_testBit_eq (fun i => ?_)
  rw [Nat.add_comm, Nat.testBit_two_pow_mul_add _ lt, Nat.testBit_xor, bit_shift]
  by_cases h : i < k
  · rw [if_pos h, show decide (k ≤ i) = false from by simp; omega]; simp
  · rw [if_neg h, show decide (k ≤ i) = true from by simp; omega, Nat.testBit_lt_two_pow (Nat.lt_of_lt_of_le lt (Nat.pow_le_pow_right (by decide) (by omega)))]; simp
end Go.Proofs.Ytdmoedjjbhkdmaa.G
/-
  What the calls word, size and Words of package gfp answer: a word of a list, how many words the own form has, and the product of two words, for all lists of words.
-/
namespace Go.Proofs.Ytdmoedjjbhkdmaa
open Go.RowKit G
set_option linter.unusedVariables false

/-- A slice (its address, its capacity) that holds these words. -/
structure Pol (w : World) (A : Option Addr) (cap : Nat) (xs : List Nat) : Prop where
  word : Wds xs
  cap1 : xs.length ≤ cap
  cap2 : cap ≤ 9223372036854775807
  cell : ∀ i, i < xs.length → ∃ b o, A = some ⟨b, o, none⟩ ∧ w.cell? ⟨b, o + i, none⟩ = some (.int .u64 ((xs.getD i 0 : Nat) : Int))
theorem Pol.below {w w' : World} {A : Option Addr} {cap : Nat} {xs : List Nat} (h : Pol w A cap xs) (hb : Below w.heap.size w w') : Pol w' A cap xs :=
  ⟨h.word, h.cap1, h.cap2, fun i hi => by
    obtain ⟨b, o, e, hc⟩ := h.cell i hi
    exact ⟨b, o, e, (hb.cell (p := ⟨b, o + i, none⟩) (World.block_lt_of_cell? w _ hc)).trans hc⟩⟩
theorem Pol.nil (w : World) (A : Option Addr) (cap : Nat) (h : cap ≤ 9223372036854775807) : Pol w A cap [] := ⟨fun x hx => (by cases hx), Nat.zero_le _, h, fun i hi => (by cases hi)⟩
theorem below_then {w W w' : World} (h : Below w.heap.size w W) (hb : Below W.heap.size W w') : Below w.heap.size w w' := h.trans (hb.mono h.size)
theorem below_drewN {w : World} (n : Nat) : Below w.heap.size w (w.drewN n) := ⟨rfl, rfl, rfl, Nat.le_refl _, fun _ _ => rfl⟩
theorem below_drewN' {B : Nat} {a w : World} (h : Below B a w) (n : Nat) : Below B a (w.drewN n) := ⟨h.os, h.tape, h.output, h.size, h.block⟩
theorem below_alloc {w W : World} (h : Below w.heap.size w W) (o : Obj) : Below w.heap.size w (W.alloc o) := h.alloc h.size o

/-- How many words the own form has. -/
def sz (n : Nat) : Nat := (wordsOf n).length
end Go.Proofs.Ytdmoedjjbhkdmaa
/-
  What the call Words of package gfp answers: the product of two words, its high word and its low one, for all words.
-/
namespace Go.Proofs.Ytdmoedjjbhkdmaa
open Go.RowKit G
set_option linter.unusedVariables false

theorem and1 (r : Nat) (h : r < 18446744073709551616) : bits .and .u64 (r : Int) 1 = ((r % 2 : Nat) : Int) := by
  have := u64_and_nat r 1 h (by decide)
  rw [Nat.and_one_is_mod] at this
  exact this
theorem div_int (b k : Nat) : (b : Int) / 2 ^ k = ((b / 2 ^ k : Nat) : Int) := by rw [Int.natCast_ediv, Int.natCast_pow]; rfl
theorem mul_int (b k : Nat) : (b : Int) * 2 ^ k = ((b * 2 ^ k : Nat) : Int) := by rw [Int.natCast_mul, Int.natCast_pow]; rfl
theorem xor_int (x y : Nat) (hx : x < 18446744073709551616) (hy : y < 18446744073709551616) : bits .xor .u64 (x : Int) (y : Int) = ((x ^^^ y : Nat) : Int) := u64_xor_nat x y hx hy
theorem wrap_nat (n : Nat) : IntKind.u64.wrap (n : Int) = ((n % 18446744073709551616 : Nat) : Int) := by simp [IntKind.wrap, IntKind.bits, IntKind.signed]
theorem bit_mod (b k : Nat) : b.testBit k = decide (b / 2 ^ k % 2 = 1) := Nat.testBit_eq_decide_div_mod_eq

theorem words_same (a b k : Nat) (h : b / 2 ^ k % 2 = 0) : clm a (b % 2 ^ (k + 1)) = clm a (b % 2 ^ k) := by
  rw [parts_step, bit_mod, h]; simp
theorem words_more (a b k : Nat) (h : ¬ b / 2 ^ k % 2 = 0) (hk : k < 64) : clm a (b % 2 ^ (k + 1)) / 18446744073709551616 = clm a (b % 2 ^ k) / 18446744073709551616 ^^^ a / 2 ^ (64 - k) ∧
    clm a (b % 2 ^ (k + 1)) % 18446744073709551616 = clm a (b % 2 ^ k) % 18446744073709551616 ^^^ a * 2 ^ k % 18446744073709551616 := by
  have e : b.testBit k = true := by rw [bit_mod]; simp; omega
  rw [parts_step, if_pos e, show (18446744073709551616 : Nat) = 2 ^ 64 from rfl]
  exact ⟨by rw [xor_div, div_shift _ _ _ (by omega)], xor_mod _ _ _⟩

end Go.Proofs.Ytdmoedjjbhkdmaa
/-
  What the calls Own, Deg, Bit and Same of package gfp answer, for all lists of words (of up to 100000).
-/
namespace Go.Proofs.Ytdmoedjjbhkdmaa
open Go.RowKit G
set_option linter.unusedVariables false

/-- An answer that is a polynomial in its own form, in a list of its own. -/
def Ans (N : Nat) (w : World) (e : Ending) (w' : World) : Prop :=
  ∃ (A : Option Addr) (cap : Nat), e = .returned (.slice A (wordsOf N).length cap) ∧ Pol w' A cap (wordsOf N) ∧ Below w.heap.size w w'
theorem infoW : (Try.prog.info? 22).map (fun i => (i.zero, i.size, i.bytes)) = some (some (.int .u64 0), 1, 8) := by kernel_rfl
theorem own_take (xs : List Nat) (N : Nat) (hw : Wds xs) (h : leN xs = N) : xs.take (sz N) = wordsOf N ∧ sz N ≤ xs.length := by
  have hl : sz N ≤ xs.length := wordsOf_len _ (by rw [← h]; exact leN_lt xs hw)
  refine ⟨List.ext_getElem (by rw [List.length_take]; unfold sz at *; omega) (fun i h1 h2 => ?_), hl⟩
  have e := leN_inj hw (wds_wordsOf N) (by rw [leN_wordsOf]; exact h) i
  rw [List.getElem_take]
  rw [List.length_take] at h1
  simpa [List.getD_eq_getElem?_getD, List.getElem?_eq_getElem (show i < xs.length by omega), List.getElem?_eq_getElem h2] using e
theorem Pol.of_owns {w : World} {base : Nat} {v : Value} {xs : List Nat} (hw : Wds xs) (h : w.ownsRow base 22 1 v xs.length (xs.map fun x : Nat => Value.int .u64 (x : Int))) :
    ∃ A cap, v = .slice A xs.length cap ∧ Pol w A cap xs := by
  obtain ⟨hl, h2⟩ := id h
  rcases h2 with ⟨rfl, hn⟩ | ⟨g, cap, cur, rfl, hg, hh, hc, hm, rest⟩
  · have e : xs = [] := List.eq_nil_of_length_eq_zero hn
    subst e
    exact ⟨none, 0, rfl, Pol.nil _ _ _ (by omega)⟩
  · refine ⟨some ⟨g, 0, none⟩, cap, rfl, hw, hc, hm, fun i hi => ⟨g, 0, rfl, ?_⟩⟩
    have := h.cells (g := g) rfl i (.int .u64 ((xs.getD i 0 : Nat) : Int)) (by simp [List.getElem?_eq_getElem hi])
    rw [Addr.add_lit] at this
    exact this
theorem Pol.news {w : World} {a : Addr} {cap : Nat} {xs : List Nat} (h : Pol w (some a) cap xs) (ys : List Nat) (n : Nat) (e : xs.take n = ys) : ∀ (j : Nat) (u : Value), (ys.map fun x : Nat => Value.int .u64 (x : Int))[j]? = some u → w.cell? (a.add j) = some u := by
  intro j u hu
  rw [List.getElem?_map] at hu
  cases hy : ys[j]? with
  | none => rw [hy] at hu; cases hu
  | some y =>
    rw [hy] at hu
    obtain rfl : Value.int .u64 (y : Int) = u := by simpa using hu
    obtain ⟨hj, hyy⟩ := List.getElem?_eq_some_iff.1 hy
    have hj' : j < xs.length := by rw [← e, List.length_take] at hj; omega
    obtain ⟨b, o, ea, hc⟩ := h.cell j hj'
    obtain rfl : a = ⟨b, o, none⟩ := by simpa using ea
    rw [Addr.add_lit, hc]
    have : ys[j]? = xs[j]? := by rw [← e, List.getElem?_take]; split; rfl; rw [← e, List.length_take] at hj; omega
    rw [hy] at this
    rw [List.getD_eq_getElem?_getD, ← this]; rfl
theorem one_cells (xs : List Nat) : ∀ u ∈ xs.map (fun x : Nat => Value.int .u64 (x : Int)), u.oneCell' = true := by
  intro u hu
  obtain ⟨n, _, rfl⟩ := List.mem_map.1 hu
  rfl
end Go.Proofs.Ytdmoedjjbhkdmaa
/-
  What math/bits.Len64 answers in this program: the library's contract at this program's numbers.
-/
namespace Go.Proofs.Ytdmoedjjbhkdmaa
open Go.Shelf G

theorem len_half {n : Nat} (h : n ≠ 0) : len n = 1 + len (n / 2) := by
  by_cases h2 : n / 2 = 0
  · obtain rfl : n = 1 := by omega
    rfl
  · have e := len_two h2
    rcases Nat.mod_two_eq_zero_or_one n with m | m
    · rw [show 2 * (n / 2) = n from by omega] at e; omega
    · have : len (2 * (n / 2) + 1) = len (2 * (n / 2)) := by
        rw [odd_xor, len_xor_lt]
        rw [e]
        have := len_pos h2
        show len 1 < _
        have : len 1 = 1 := rfl
        omega
      rw [show 2 * (n / 2) + 1 = n from by omega] at this
      omega
theorem bitLen_len (x : Nat) : x < 2 ^ 64 → Lib.bitLen x = len x := by
  induction x using Nat.strongRecOn with
  | _ x ih =>
    intro hx
    by_cases h : x = 0
    · subst h; rfl
    · rw [Lib.bitLen_half x h hx, len_half h, ih (x / 2) (by omega) (by omega)]
end Go.Proofs.Ytdmoedjjbhkdmaa
/-
  What the calls Deg, Bit and Same of package gfp answer, for all lists of words.
-/
namespace Go.Proofs.Ytdmoedjjbhkdmaa
open Go.RowKit G
set_option linter.unusedVariables false

theorem ret_int {k : IntKind} {a b : Int} (h : a = b) : Ending.returned (.int k a) = .returned (.int k b) := by rw [h]
theorem wordsOf_last (N : Nat) : N ≠ 0 → (wordsOf N).getD (sz N - 1) 0 ≠ 0 := by
  induction N using Nat.strongRecOn with
  | _ N ih =>
    intro h
    have e : sz N = sz (N / 18446744073709551616) + 1 := by unfold sz; rw [wordsOf_pos h]; rfl
    rw [wordsOf_pos h, e]
    by_cases h2 : N / 18446744073709551616 = 0
    · rw [h2, show sz 0 = 0 from by unfold sz; rw [wordsOf_zero]; rfl]
      simp; omega
    · have := ih _ (by omega) h2
      have p : 0 < sz (N / 18446744073709551616) := by unfold sz; rw [wordsOf_pos h2]; simp
      rw [show sz (N / 18446744073709551616) + 1 - 1 = (sz (N / 18446744073709551616) - 1) + 1 from by omega]
      simpa using this
theorem sz_zero : sz 0 = 0 := by unfold sz; rw [wordsOf_zero]; rfl
theorem deg_top (xs : List Nat) (N m : Nat) (hw : Wds xs) (h : leN xs = N) (hm : sz N = m + 1) : xs.getD m 0 ≠ 0 ∧ len N = 64 * m + len (xs.getD m 0) ∧ m < xs.length := by
  have hN : N ≠ 0 := by intro e; rw [e, sz_zero] at hm; omega
  obtain ⟨e1, e2⟩ := own_take xs N hw h
  have e := leN_inj hw (wds_wordsOf N) (by rw [leN_wordsOf]; exact h)
  have l := wordsOf_last N hN
  rw [hm, Nat.add_sub_cancel, ← e m] at l
  refine ⟨l, ?_, by omega⟩
  have s := leN_take_succ xs m hw
  rw [← hm, e1, leN_wordsOf] at s
  have t : leN (xs.take m) < 2 ^ (64 * m) := by
    have := leN_lt (xs.take m) (fun x hx => hw x (List.mem_of_mem_take hx))
    rwa [List.length_take, Nat.min_eq_left (by omega)] at this
  have t2 := len_le t
  have t3 := len_mul_pow l (64 * m)
  have t4 := len_pos l
  rw [s, Nat.xor_comm, len_xor_lt (by omega), t3]
  omega

theorem len_word {x : Nat} (h : x < 18446744073709551616) : len x ≤ 64 := len_le (k := 64) h
theorem bit_split (xs : List Nat) (N k : Nat) (hw : Wds xs) (h : leN xs = N) : xs.getD (k / 64) 0 / 2 ^ (k % 64) % 2 = N / 2 ^ k % 2 := by
  have := bit_leN xs k hw
  rw [h, bit_mod, bit_mod] at this
  have := decide_eq_decide.1 this
  omega
theorem Pol.take {w : World} {A : Option Addr} {cap : Nat} {xs : List Nat} (h : Pol w A cap xs) (n : Nat) : Pol w A cap (xs.take n) :=
  ⟨fun x hx => h.word x (List.mem_of_mem_take hx), by rw [List.length_take]; have := h.cap1; omega, h.cap2, fun i hi => by
    rw [List.length_take] at hi
    obtain ⟨b, o, e, hc⟩ := h.cell i (by omega)
    refine ⟨b, o, e, hc.trans ?_⟩
    simp only [List.getD_eq_getElem?_getD, List.getElem?_take]; rw [if_pos (by omega)]⟩
theorem Pol.drewN {w : World} {A : Option Addr} {cap : Nat} {xs : List Nat} (h : Pol w A cap xs) (n : Nat) : Pol (w.drewN n) A cap xs := ⟨h.word, h.cap1, h.cap2, h.cell⟩
/-- Are two lists the same? -/
def sameL (us vs : List Nat) : Bool := decide (us = vs)
theorem same_false {us vs : List Nat} {k : Nat} (h : us.getD k 0 ≠ vs.getD k 0) : sameL us vs = false := by
  unfold sameL
  simp only [decide_eq_false_iff_not]
  intro e; exact h (by rw [e])
theorem same_true {us vs : List Nat} (hl : us.length = vs.length) (h : ∀ j, j < us.length → us.getD j 0 = vs.getD j 0) : sameL us vs = true := by
  unfold sameL
  simp only [decide_eq_true_eq]
  refine List.ext_getElem hl (fun i h1 h2 => ?_)
  have := h i h1
  simpa [List.getD_eq_getElem?_getD, List.getElem?_eq_getElem h1, List.getElem?_eq_getElem h2] using this
end Go.Proofs.Ytdmoedjjbhkdmaa
/-
  What the calls Same and Add of package gfp answer, for all lists of words (of up to 50000).
-/
namespace Go.Proofs.Ytdmoedjjbhkdmaa
open Go.RowKit G
set_option linter.unusedVariables false

/-- Are two numbers the same? -/
def sameN (M N : Nat) : Bool := decide (M = N)
theorem sameN_self (N : Nat) : sameN N N = true := by unfold sameN; simp
theorem sameL_words (M N : Nat) : sameL (wordsOf M) (wordsOf N) = sameN M N := by
  unfold sameL sameN
  refine decide_eq_decide.2 ⟨fun h => ?_, fun h => by rw [h]⟩
  rw [← leN_wordsOf M, ← leN_wordsOf N, h]
/-- A new row that holds these words. -/
def RowL (w : World) (g : Nat) (ps : List Nat) : Prop := w.rowIs g 22 ps.length (fun i => .int .u64 ((ps.getD i 0 : Nat) : Int))
theorem RowL.set {w : World} {g : Nat} {ps : List Nat} (h : RowL w g ps) (k v : Nat) (hk : k < ps.length) : RowL (w.setCell ⟨g, k, none⟩ (.int .u64 (v : Int))) g (ps.set k v) := by
  unfold RowL at *
  rw [List.length_set]
  refine (World.rowIs.set h k (.int .u64 (v : Int))).congr (fun i hi => ?_)
  show (if i = k then Value.int .u64 (v : Int) else .int .u64 ((ps.getD i 0 : Nat) : Int)) = _
  rw [getD_set _ _ _ _ hk]
  split <;> rfl
theorem RowL.made (w : World) (n : Nat) : RowL (w.alloc (.cells (madeCells #[.int .u64 0] n) 22)) w.heap.size (List.replicate n 0) := by
  unfold RowL
  rw [List.length_replicate]
  refine (World.rowIs_made w (.int .u64 0) n 22).congr (fun i hi => ?_)
  simp [hi]
theorem RowL.pol {w : World} {g : Nat} {ps : List Nat} (h : RowL w g ps) (hw : Wds ps) (hl : ps.length ≤ 9223372036854775807) : Pol w (some ⟨g, 0, none⟩) ps.length ps :=
  ⟨hw, Nat.le_refl _, hl, fun i hi => ⟨g, 0, rfl, by rw [Nat.zero_add]; exact World.rowIs.cell h hi⟩⟩
theorem wds_zero (n : Nat) : Wds (List.replicate n 0) := fun x hx => by rw [(List.mem_replicate.1 hx).2]; decide
theorem getD_zero (n i : Nat) : (List.replicate n 0).getD i 0 = 0 := by
  rw [List.getD_eq_getElem?_getD, List.getElem?_replicate]; split <;> rfl
/-- What a loop that fills a new row keeps. -/
structure Fill (w : World) (g n : Nat) (ps : List Nat) (wr : World) : Prop where
  row : RowL wr g ps
  wds : Wds ps
  len : ps.length = n
  new : w.heap.size ≤ g
  below : Below w.heap.size w wr
theorem Fill.start (w : World) (n : Nat) : Fill w w.heap.size n (List.replicate n 0) (w.alloc (.cells (madeCells #[.int .u64 0] n) 22)) :=
  ⟨RowL.made w n, wds_zero n, List.length_replicate, Nat.le_refl _, below_alloc (Below.refl _ _) _⟩
theorem Fill.set {w : World} {g n : Nat} {ps : List Nat} {wr : World} (h : Fill w g n ps wr) (k v : Nat) (hk : k < n) (hv : v < 18446744073709551616) : Fill w g n (ps.set k v) (wr.setCell ⟨g, k, none⟩ (.int .u64 (v : Int))) :=
  ⟨h.row.set k v (by rw [h.len]; exact hk), h.wds.set k v hv, by rw [List.length_set]; exact h.len, h.new, h.below.setCell h.new _⟩
theorem Fill.cell {w : World} {g n : Nat} {ps : List Nat} {wr : World} (h : Fill w g n ps wr) (k : Nat) (hk : k < n) : wr.cell? ⟨g, k, none⟩ = some (.int .u64 ((ps.getD k 0 : Nat) : Int)) ∧ wr.frozen? ⟨g, k, none⟩ = false :=
  ⟨World.rowIs.cell h.row (by rw [h.len]; exact hk), World.rowIs.frozen h.row k⟩
theorem Fill.pol {w : World} {g n : Nat} {ps : List Nat} {wr : World} (h : Fill w g n ps wr) (hn : n ≤ 9223372036854775807) : Pol wr (some ⟨g, 0, none⟩) n ps := by
  have := h.row.pol h.wds (by rw [h.len]; exact hn)
  rwa [h.len] at this
theorem Pol.far {w wr : World} {A : Option Addr} {cap : Nat} {xs : List Nat} (P : Pol w A cap xs) (hb : Below w.heap.size w wr) : Pol wr A cap xs := P.below hb

end Go.Proofs.Ytdmoedjjbhkdmaa
/-
  What the calls Up and X of package gfp answer, for all lists of words (of up to 50000) and all places.
-/
namespace Go.Proofs.Ytdmoedjjbhkdmaa
open Go.RowKit G
set_option linter.unusedVariables false

theorem or_int (x y s : Nat) (hy : y < 18446744073709551616) : bits .or .u64 (IntKind.u64.wrap ((x : Int) * 2 ^ s)) ((y : Int) / 2 ^ (64 - s)) = ((upW s x y : Nat) : Int) := by
  rw [mul_int, wrap_nat, div_int]
  exact u64_or_nat _ _ (Nat.mod_lt _ (by decide)) (Nat.lt_of_le_of_lt (Nat.div_le_self _ _) hy)
theorem upW_zero (s : Nat) : upW s 0 0 = 0 := by unfold upW; simp
/-- The word behind, none behind the first one. -/
def behind (xs : List Nat) (k : Nat) : Nat := if k = 0 then 0 else xs.getD (k - 1) 0
theorem behind_lt {xs : List Nat} (h : Wds xs) (k : Nat) : behind xs k < 18446744073709551616 := by unfold behind; split; decide; exact h.get _
theorem Pol.drew {w : World} {A : Option Addr} {cap : Nat} {xs : List Nat} (h : Pol w A cap xs) : Pol w.drew A cap xs := ⟨h.word, h.cap1, h.cap2, h.cell⟩
theorem Fill.drew {w : World} {g n : Nat} {ps : List Nat} {wr : World} (h : Fill w g n ps wr) : Fill w g n ps wr.drew := ⟨h.row, h.wds, h.len, h.new, h.below.drew⟩

/-- What the row of Up holds after k rounds. -/
def UpTo (q s k : Nat) (xs ps : List Nat) : Prop := ∀ i, ps.getD i 0 = if q ≤ i ∧ i < q + k then upW s (xs.getD (i - q) 0) (behind xs (i - q)) else 0
theorem UpTo.start (q s n : Nat) (xs : List Nat) : UpTo q s 0 xs (List.replicate n 0) := fun i => by rw [getD_zero, if_neg (by omega)]
theorem UpTo.step {q s k : Nat} {xs ps : List Nat} (h : UpTo q s k xs ps) (hk : q + k < ps.length) : UpTo q s (k + 1) xs (ps.set (q + k) (upW s (xs.getD k 0) (behind xs k))) := fun i => by
  rw [getD_set _ _ _ _ hk, h i]
  by_cases e : i = q + k
  · subst e; rw [if_pos rfl, if_pos (by omega), show q + k - q = k from by omega]
  · rw [if_neg e]
    by_cases e2 : q ≤ i ∧ i < q + k
    · rw [if_pos e2, if_pos (by omega)]
    · rw [if_neg e2, if_neg (by omega)]
theorem UpTo.done {q s : Nat} {xs ps : List Nat} (h : UpTo q s (xs.length + 1) xs ps) (hs : s < 64) (hp : Wds ps) (hx : Wds xs) : leN ps = leN xs * 2 ^ (64 * q + s) := by
  refine leN_up ps xs q s hs hp hx (fun i => ?_)
  rw [h i]
  by_cases e : i < q
  · rw [if_neg (by omega), if_pos e]
  · rw [if_neg e]
    have eb : (if i = q then 0 else xs.getD (i - q - 1) 0) = behind xs (i - q) := by
      unfold behind
      by_cases e2 : i = q
      · rw [if_pos e2, if_pos (by omega)]
      · rw [if_neg e2, if_neg (by omega)]
    rw [eb]
    by_cases e2 : i < q + (xs.length + 1)
    · rw [if_pos (by omega)]
    · rw [if_neg (by omega), List.getD_eq_getElem?_getD, List.getElem?_eq_none (by omega)]
      unfold behind
      rw [if_neg (by omega), List.getD_eq_getElem?_getD, List.getElem?_eq_none (by omega)]
      exact (upW_zero s).symm

theorem pol_one (w : World) (x : Nat) (hx : x < 18446744073709551616) : Pol (w.alloc (.cells #[.int .u64 (x : Int)] 22)) (some ⟨w.heap.size, 0, none⟩) 1 [x] :=
  ⟨fun y hy => (by rw [List.mem_singleton.1 hy]; exact hx), Nat.le_refl _, by decide, fun i hi => ⟨w.heap.size, 0, rfl, by
    obtain rfl : i = 0 := by simpa using hi
    simp⟩⟩
theorem join_xor (n : Nat) : n / 18446744073709551616 * 18446744073709551616 ^^^ n % 18446744073709551616 = n := by
  refine Nat.eq_of_testBit_eq (fun i => ?_)
  rw [Nat.testBit_xor, show (18446744073709551616 : Nat) = 2 ^ 64 from rfl, bit_shift, Nat.testBit_div_two_pow, Nat.testBit_mod_two_pow]
  by_cases h : 64 ≤ i
  · rw [show i - 64 + 64 = i from by omega, show decide (i < 64) = false from by simp; omega, show decide (64 ≤ i) = true from by simpa using h]; simp
  · rw [show decide (i < 64) = true from by simp; omega, show decide (64 ≤ i) = false from by simpa using h]; simp
theorem two_words (v n : Nat) : v / 18446744073709551616 * 2 ^ (64 * (n + 1)) ^^^ v % 18446744073709551616 * 2 ^ (64 * n) = v * 2 ^ (64 * n) := by
  rw [show 64 * (n + 1) = 64 + 64 * n from by omega, Nat.pow_add, ← Nat.mul_assoc, ← xor_shift]
  congr 1
  exact join_xor v
theorem high_lt {a b : Nat} (ha : a < 18446744073709551616) (hb : b < 18446744073709551616) : clm a b / 18446744073709551616 < 18446744073709551616 := by
  have := clm_lt (m := 64) (n := 64) ha hb
  omega
end Go.Proofs.Ytdmoedjjbhkdmaa
/-
  What the call Mul of package gfp answers, for all lists of words (of up to 50000).
-/
namespace Go.Proofs.Ytdmoedjjbhkdmaa
open Go.RowKit G
set_option linter.unusedVariables false

/-- What the row of Mul holds after i rows, and j words of the next one. -/
def MulTo (i j : Nat) (xs ys : List Nat) (Y : Nat) (ps : List Nat) : Prop := leN ps = clm (leN (xs.take i)) Y ^^^ clm (xs.getD i 0 * 2 ^ (64 * i)) (leN (ys.take j))
theorem MulTo.start (n : Nat) (xs ys : List Nat) (Y : Nat) : MulTo 0 0 xs ys Y (List.replicate n 0) := by
  unfold MulTo
  rw [leN_zero (fun i => getD_zero n i), List.take_zero, List.take_zero]
  show 0 = clm 0 Y ^^^ clm _ 0
  rw [clm_zero_left, clm_zero]; rfl
theorem MulTo.row {i : Nat} {xs ys : List Nat} {Y : Nat} {ps : List Nat} (n : Nat) (h : MulTo i n xs ys Y ps) (hx : Wds xs) (hn : leN (ys.take n) = Y) : MulTo (i + 1) 0 xs ys Y ps := by
  unfold MulTo at *
  rw [h, hn, leN_take_succ xs i hx, clm_xor_left, List.take_zero]
  show _ = _ ^^^ clm _ 0
  rw [clm_zero, Nat.xor_zero]
theorem MulTo.skip {i j : Nat} {xs ys : List Nat} {Y : Nat} {ps : List Nat} (h : MulTo i j xs ys Y ps) (hx : Wds xs) (h0 : xs.getD i 0 = 0) : MulTo (i + 1) 0 xs ys Y ps := by
  unfold MulTo at *
  rw [h, leN_take_succ xs i hx, h0, Nat.zero_mul, clm_zero_left, Nat.xor_zero, Nat.xor_zero, List.take_zero]
  show _ = _ ^^^ clm _ 0
  rw [clm_zero, Nat.xor_zero]
theorem MulTo.step {i j t u : Nat} {xs ys : List Nat} {Y : Nat} {ps : List Nat} (h : MulTo i j xs ys Y ps) (hx : Wds xs) (hy : Wds ys) (hp : Wds ps) (ht : t = i + j) (hu : u = i + j + 1) (hl : u < ps.length) (v : Nat) (hv : v = clm (xs.getD i 0) (ys.getD j 0)) (hv2 : v / 18446744073709551616 < 18446744073709551616) :
    MulTo i (j + 1) xs ys Y ((ps.set t (ps.getD t 0 ^^^ v % 18446744073709551616)).set u ((ps.set t (ps.getD t 0 ^^^ v % 18446744073709551616)).getD u 0 ^^^ v / 18446744073709551616)) := by
  have l2 : v % 18446744073709551616 < 18446744073709551616 := Nat.mod_lt _ (by decide)
  have hp1 := hp.set t _ (word_xor (hp.get t) l2)
  unfold MulTo at *
  rw [leN_set_xor _ u _ hp1 (by rw [List.length_set]; exact hl) hv2, leN_set_xor _ t _ hp (by omega) l2, h, leN_take_succ ys j hy, clm_xor, Nat.xor_assoc, Nat.xor_assoc]
  congr 2
  rw [clm_shift, clm_shift_left, ← hv, Nat.xor_comm, hu, ht, two_words, Nat.mul_assoc, ← Nat.pow_add]
  congr 2
  omega
theorem MulTo.done {m : Nat} {xs ys : List Nat} {X Y : Nat} {ps : List Nat} (h : MulTo m 0 xs ys Y ps) (hm : leN (xs.take m) = X) : leN ps = clm X Y := by
  unfold MulTo at h
  rw [h, hm, List.take_zero]
  show _ ^^^ clm _ 0 = _
  rw [clm_zero, Nat.xor_zero]

end Go.Proofs.Ytdmoedjjbhkdmaa
/-
  What the calls Words of the reference of layer 2 and Large of its statements answer; the contracts of package gfp with open lengths.
-/
namespace Go.Proofs.Ytdmoedjjbhkdmaa
open Go.RowKit G
set_option linter.unusedVariables false

set_option maxRecDepth 100000 in
set_option maxHeartbeats 1000000 in
theorem wordsLen (A B : Option Addr) (ca cb n m : Nat) (hne : n ≠ m) (w : World) :
    Calls Try.prog 13 #[.slice A n ca, .slice B m cb] w (fun e w' => e = .returned (.bool false) ∧ ∃ n, w' = w.drewN n) := by
  have h1 : (n != m) = true := by simpa using hne
  have h2 : ((n : Int) != (m : Int)) = true := by simp; omega
  have h3 : (n == m) = false := by simpa using hne
  go_enter Try.func13, Try.ntmps13
  go_wp2
  go_ret
  exact ⟨rfl, 0, rfl⟩
set_option maxRecDepth 100000 in
set_option maxHeartbeats 1000000 in
theorem wordsSame (A B : Option Addr) (ca cb n : Nat) (us vs : List Nat) (hu : us.length = n) (hv : vs.length = n) (hn : n ≤ 100000) (w : World) (P : Pol w A ca us) (Q : Pol w B cb vs) :
    Calls Try.prog 13 #[.slice A n ca, .slice B n cb] w (fun e w' => e = .returned (.bool (sameL us vs)) ∧ ∃ n, w' = w.drewN n) := by
  have HP := Lib.hid P
  have HQ := Lib.hid Q
  have HU := Lib.hid hu
  have HV := Lib.hid hv
  clear P Q hu hv
  go_enter Try.func13, Try.ntmps13
  go_wp2_with fail
  go_loopw [5] (fun i wr => ∃ k q : Nat, k ≤ n ∧ i = .int .i64 k ∧ wr = w.drewN q ∧ Hid (∀ j, j < k → us.getD j 0 = vs.getD j 0)) (fun i _ => n - (intOf i).toNat)
  case atStart => exact ⟨0, 0, by omega, rfl, rfl, Lib.hid (fun j hj => by omega)⟩
  case round =>
    obtain ⟨k, q, hk, rfl, rfl, hs⟩ := hrel
    by_cases hlt : k < n
    · have kl : (k : Int) < (n : Int) := by omega
      have k0 : (0 : Int) ≤ (k : Int) := by omega
      obtain ⟨b, o, rfl, q1⟩ := HP.out.cell k (by rw [HU.out]; exact hlt)
      obtain ⟨b', o', rfl, q2⟩ := HQ.out.cell k (by rw [HV.out]; exact hlt)
      by_cases he : us.getD k 0 = vs.getD k 0
      · rw [← he] at q2
        have HE := Lib.hid he
        clear he
        generalize us.getD k 0 = y at q1 q2
        go_wp2_with fail
        go_quiet (fail)
        go_wp2_with fail
        go_roundw
        case rel => exact ⟨k + 1, _, by omega, by go_num, rfl, Lib.hid (fun j hj => by
          by_cases e : j = k
          · rw [e]; exact HE.out
          · exact hs.out j (by omega))⟩
        case measure => simp [intOf]; omega
      · have E := Lib.hid (same_false he)
        generalize us.getD k 0 = y at q1 he
        generalize vs.getD k 0 = z at q2 he
        have t1 : (y != z) = true := by simpa using he
        have t2 : ((y : Int) != (z : Int)) = true := by simp; omega
        have t3 : (y == z) = false := by simpa using he
        clear he
        go_wp2_with fail
        go_quiet (fail)
        go_wp2_with fail
        go_ret
        exact ⟨by rw [E.out]; rfl, _, World.drewN_drewN _ _ _⟩
    · have kl : ¬ ((k : Int) < (n : Int)) := by omega
      have E := Lib.hid (same_true (us := us) (vs := vs) (HU.out.trans HV.out.symm) (fun j hj => hs.out j (by rw [HU.out] at hj; omega)))
      go_wp2
      go_ret
      exact ⟨by rw [E.out]; rfl, q, rfl⟩
theorem below_of_drawn {w w' : World} (h : ∃ n, w' = w.drewN n) : Below w.heap.size w w' := by
  obtain ⟨n, rfl⟩ := h
  exact below_drewN n
/-- An answer that is this bool. -/
def Bl (b : Bool) (w : World) (e : Ending) (w' : World) : Prop := e = .returned (.bool b) ∧ Below w.heap.size w w'

section
variable {A B : Option Addr} {L K ca cb : Nat} {xs ys : List Nat} {w : World}
theorem gWords (b : Bool) (P : Pol w A ca xs) (Q : Pol w B cb ys) (hL : xs.length = L) (hK : ys.length = K) (hb : sameL xs ys = b) (hl : L ≤ 50000) :
    Calls Try.prog 13 #[.slice A L ca, .slice B K cb] w (Bl b w) := by
  subst hL hK hb
  by_cases h : xs.length = ys.length
  · rw [← h]
    exact (wordsSame A B ca cb _ xs ys rfl h.symm (by omega) w P Q).mono fun _ _ h => ⟨h.1, below_of_drawn h.2⟩
  · have e : sameL xs ys = false := by unfold sameL; simp only [decide_eq_false_iff_not]; intro e; exact h (by rw [e])
    rw [e]
    exact (wordsLen A B ca cb _ _ h w).mono fun _ _ h => ⟨h.1, below_of_drawn h.2⟩
end
theorem pol1 (w : World) (x : Nat) (y : Int) (e : (x : Int) = y) (hx : x < 18446744073709551616) : Pol (w.alloc (.cells #[.int .u64 y] 22)) (some ⟨w.heap.size, 0, none⟩) 1 [x] := by
  subst e; exact pol_one w x hx
theorem pol2 (w : World) (x x' : Nat) (y y' : Int) (e : (x : Int) = y) (e' : (x' : Int) = y') (hx : x < 18446744073709551616) (hx' : x' < 18446744073709551616) : Pol (w.alloc (.cells #[.int .u64 y, .int .u64 y'] 22)) (some ⟨w.heap.size, 0, none⟩) 2 [x, x'] := by
  subst e e'
  refine ⟨fun z hz => ?_, Nat.le_refl _, by decide, fun i hi => ⟨w.heap.size, 0, rfl, ?_⟩⟩
  · simp at hz; rcases hz with rfl | rfl <;> assumption
  · have : i = 0 ∨ i = 1 := by simp at hi; omega
    rcases this with rfl | rfl <;> simp
theorem words1 (n : Nat) (h0 : n ≠ 0) (h : n < 18446744073709551616) : wordsOf n = [n] := by
  rw [wordsOf_pos h0, show n / 18446744073709551616 = 0 from by omega, wordsOf_zero, show n % 18446744073709551616 = n from by omega]
theorem words2 (x y : Nat) (h0 : y ≠ 0) (hx : x < 18446744073709551616) (hy : y < 18446744073709551616) : wordsOf (x + 18446744073709551616 * y) = [x, y] := by
  rw [wordsOf_pos (by omega), show (x + 18446744073709551616 * y) / 18446744073709551616 = y from by omega, show (x + 18446744073709551616 * y) % 18446744073709551616 = x from by omega, words1 y h0 hy]
/-- How long the own form of a number is. -/
theorem wl (k : Nat) {N : Nat} (h : N < 2 ^ (64 * k)) : (wordsOf N).length ≤ k := wordsOf_len k h

theorem Pol.alloc {w : World} {A : Option Addr} {cap : Nat} {xs : List Nat} (h : Pol w A cap xs) (o : Obj) : Pol (w.alloc o) A cap xs := h.below (below_alloc (Below.refl _ _) o)
/-- An answer that is 0. -/
def Ans0 (w : World) (e : Ending) (w' : World) : Prop := ∃ (A : Option Addr) (cap : Nat), e = .returned (.slice A 0 cap) ∧ Below w.heap.size w w'
theorem ans0 {w : World} {e : Ending} {w' : World} (h : Ans 0 w e w') : Ans0 w e w' := by
  obtain ⟨A, c, he, _, hb⟩ := h
  rw [wordsOf_zero] at he
  exact ⟨A, c, he, hb⟩
end Go.Proofs.Ytdmoedjjbhkdmaa
/-
  Two polynomials that are looked at by Large; bits and degrees of numbers, for the statements of layer 2.
-/
namespace Go.Proofs.Ytdmoedjjbhkdmaa
open Go.RowKit G
set_option linter.unusedVariables false

theorem pow_up {N k m : Nat} (h : N < 2 ^ k) (hm : k ≤ m) : N < 2 ^ m := Nat.lt_of_lt_of_le h (Nat.pow_le_pow_right (by decide) hm)
theorem wl' {N : Nat} (k : Nat) (h : N < 2 ^ (64 * k)) (hk : k ≤ 50000) : Hid ((wordsOf N).length ≤ 50000) := Lib.hid (Nat.le_trans (wl k h) hk)
theorem leN_lt' {xs : List Nat} {k : Nat} (h : Wds xs) (hk : xs.length ≤ k) : leN xs < 2 ^ (64 * k) := pow_up (leN_lt xs h) (by omega)
theorem clm_lt' {a b : Nat} (m n k : Nat) (hk : m + n = k) (ha : a < 2 ^ (64 * m)) (hb : b < 2 ^ (64 * n)) : clm a b < 2 ^ (64 * k) := by
  have := clm_lt ha hb
  rwa [← Nat.mul_add, hk] at this
theorem xor_lt' (m : Nat) {a b : Nat} (ha : a < 2 ^ (64 * m)) (hb : b < 2 ^ (64 * m)) : a ^^^ b < 2 ^ (64 * m) := xor_lt ha hb
theorem bit_num (N k : Nat) : N / 2 ^ k % 2 = (N.testBit k).toNat := by
  rw [bit_mod]
  by_cases h : N / 2 ^ k % 2 = 1
  · simp [h]
  · have : N / 2 ^ k % 2 = 0 := by omega
    simp [this]
theorem sq_bit (N n : Nat) : clm N N / 2 ^ (2 * n) % 2 = N / 2 ^ n % 2 ∧ clm N N / 2 ^ (2 * n + 1) % 2 = 0 := by
  obtain ⟨a, b⟩ := sq_bits N n
  rw [bit_num, bit_num, bit_num, a, b]
  exact ⟨rfl, rfl⟩
theorem top_bit {N k : Nat} (h : len N = k + 1) : N / 2 ^ k % 2 = 1 := by
  have h0 : N ≠ 0 := by intro e; subst e; rw [len_zero] at h; omega
  have := len_bit h0
  rw [bit_num, show k = len N - 1 from by omega, this]; rfl
theorem over_bit {N k : Nat} (h : len N = k) : N / 2 ^ k % 2 = 0 := by
  rw [bit_num, len_bit_out (Nat.le_of_eq h)]; rfl
end Go.Proofs.Ytdmoedjjbhkdmaa
/-
  Words for the last step of a statement's proof: a list of words among the arguments is opened, what was read is read again behind the call, and what a walk leaves alone is handed on.
-/
namespace Go.Proofs.Ytdmoedjjbhkdmaa
open Go.ChangeShapes Go.WideShapes Go.ChangeAt Go.RowKit Go.Joins G
set_option linter.unusedVariables false
set_option maxRecDepth 100000

theorem own : ownKnob Try.prog.godebug = none := by kernel_rfl
theorem laidOut : laidOutB Try.prog = true := by kernel_rfl
theorem cellsW : Try.prog.cellsOf 22 = 1 := by kernel_rfl
section
variable {H : Type} {enc : TypeId × Value → H}
/-- What was read of an argument is read again where nothing of what was there has turned. -/
theorem trod_below {t : TypeId} (hr : Try.prog.readableRec t = true) (hrow : t < Try.prog.types.size) {W W' : World} {sp : Nat → Bool} {v : Value} {d : DataW H} {ps : List MemPlace}
    (h : DataW.Trod enc Try.prog W 0 (fun _ => true) true t v d ps) (hb : Below W.heap.size W W') (hs : ∀ p ∈ ps, sp p.block = true) : DataW.Trod enc Try.prog W' 0 sp true t v d ps := by
  refine WideElems.Trod_stays laidOut hr hrow h (fun p hp => ?_) hs
  have lt : p.block < W.heap.size := by
    have := DataW.TrodAll.lt (trodAll_mk1 h) p hp
    exact this
  cases p with
  | cell b o => exact World.cell?_of_block (w := W) (hb.block b lt)
  | map b => exact hb.block b lt
theorem nat_of_wf {n : Int} (h : (Lit.int .u64 n).wf = true) : ((n.toNat : Nat) : Int) = n ∧ n.toNat < 18446744073709551616 := by
  have := bounds_u64 h
  omega
set_option maxRecDepth 100000 in
/-- An argument that is a list of words. -/
theorem openP {W : World} {base : Nat} {t : TypeId} {v : Value} {d : DataW H} {p : List MemPlace} (ht : Try.prog.underlying t = some (.slice 22)) (ok : Value.okWide Try.prog W .any base t v)
    (h : DataW.Trod enc Try.prog W 0 (fun _ => true) true t v d p) : ∃ (A : Option Addr) (L ca : Nat) (xs : List Nat), v = .slice A L ca ∧ xs.length = L ∧ Pol W A ca xs := by
  obtain ⟨a0, len, cap, rfl⟩ := okWide_slice ht ok
  obtain ⟨fuel, hf⟩ := h
  rcases open_ints ht Try.underlying22 cellsW hf with ⟨hcs, hx⟩ | ⟨a, len', cap', zs, hcs, _, hl, hm, hz, hx, hcell, hwz⟩
  · simp [Value.cells] at hcs
    obtain ⟨rfl, rfl, rfl⟩ := hcs
    exact ⟨none, 0, 0, [], rfl, rfl, Pol.nil _ _ _ (by decide)⟩
  · simp [Value.cells] at hcs
    obtain ⟨rfl, rfl, rfl⟩ := hcs
    simp only [if_true] at hz
    have hl' : ((zs.take len).map Int.toNat).length = len := by rw [List.length_map, List.length_take]; omega
    refine ⟨some a, len, cap, (zs.take len).map Int.toNat, rfl, hl', fun x hx => ?_, by rw [hl']; exact hl, hm, fun i hi => ?_⟩
    · obtain ⟨y, hy, rfl⟩ := List.mem_map.1 hx
      exact (nat_of_wf (hwz y (List.mem_of_mem_take hy))).2
    · rw [hl'] at hi
      have c := hcell i (by omega)
      obtain ⟨b, off, spot⟩ := a
      have hspot : spot = none := by
        have c0 := World.cell?_spot (hcell 0 (by omega))
        simpa [Addr.add] using c0
      subst hspot
      refine ⟨b, off, rfl, ?_⟩
      rw [Addr.add_lit] at c
      rw [c]
      have e : zs[i]? = some (zs[i]'(by omega)) := List.getElem?_eq_getElem (by omega)
      have e2 : (((zs.take len).map Int.toNat).getD i 0 : Nat) = (zs.getD i 0).toNat := by
        simp [List.getD_eq_getElem?_getD, List.getElem?_map, hi, e]
      rw [e2]
      have w := nat_of_wf (hwz (zs[i]'(by omega)) (List.getElem_mem _))
      rw [List.getD_eq_getElem?_getD, e]
      simp only [Option.getD_some]
      rw [w.1]
end
section
variable {H : Type} {enc : TypeId × Value → H} {P : Program}
/-- The last step where of the end's world it is known that nothing of what was there has turned. -/
theorem post_of_below {f : Func} {s : ChangeSpec} {apart fresh handsOn again : Bool} {W W' : World} {args : Array Value} {v : Value} {ds gs : List (DataW H)} {before pa pv : List MemPlace}
    (hW : DataW.Whole enc P f.params.toList s.vars apart W args.toList ds gs before)
    (hres : ∀ (b : Nat) (sp : Nat → Bool) (hd : Bool), DataW.TrodAll enc P W' b sp hd f.resultTypes.toList (v.resultList f.resultTypes.size) (s.fn H (ds ++ gs)).results [])
    (hargs : ∀ sp : Nat → Bool, (∀ p ∈ before, sp p.block = true) → DataW.TrodAll enc P W' 0 sp true f.params.toList args.toList (s.fn H (ds ++ gs)).args pa)
    (hvars : ∀ sp : Nat → Bool, (∀ p ∈ before, sp p.block = true) → DataW.TrodVars enc P W' sp s.vars (s.fn H (ds ++ gs)).vars pv)
    (hps : before = pa ++ pv) (hb : Below W.heap.size W W')
    (hok : ∀ (j : Nat) (t : TypeId) (r : Value), f.resultTypes[j]? = some t → (v.resultList f.resultTypes.size)[j]? = some r → Value.okWide P W' .any 0 t r) :
    s.post enc P f apart fresh handsOn again W args v W' := by
  have lt : ∀ p ∈ before, p.block < W.heap.size := fun p hp => hW.lt p hp
  have old : ∀ p ∈ before, (fun b => decide (b < W.heap.size)) p.block = true := fun p hp => by simpa using lt p hp
  refine ⟨ds, gs, before, [], pa, pv, hW, hres _ _ _, hargs _ old, hvars _ old, World.keptBut_mono (fun p hp => ⟨hp, ?_⟩) (hb.frame (· ∈ before)), fun _ => ?_⟩
  · rw [hps, List.mem_append] at hp
    exact Or.inr hp
  · obtain ⟨_, _, _, _, _, fz, nd⟩ := hW
    refine ⟨hok, _, _, ([] ++ pa) ++ pv, ⟨[] ++ pa, pv, trodAll_append (hargs _ (fun _ _ => rfl)) (hres _ _ _), hvars _ (fun _ _ => rfl), rfl, ?_, ?_⟩, ?_⟩
    · intro b off hp
      have inb : MemPlace.cell b off ∈ before := by rw [hps]; simpa using hp
      rw [hb.frozen (lt _ inb)]
      exact fz b off inb
    · intro ha
      have := nd ha
      rw [hps] at this
      simpa using this
    · intro p hp _
      rw [hps]
      simpa using hp
end
end Go.Proofs.Ytdmoedjjbhkdmaa
/-
  Lists of bits as the reference of layer 2 keeps them; what its calls At and Trim, and Bits and Word of the reference of layer 1, answer.
-/
namespace Go.Proofs.Ytdmoedjjbhkdmaa
open Go.RowKit G
set_option linter.unusedVariables false

/-- A slice of ints that holds these bits. -/
structure Lst (w : World) (A : Option Addr) (cap : Nat) (xs : List Nat) : Prop where
  bit : Bts xs
  cap1 : xs.length ≤ cap
  cap2 : cap ≤ 9223372036854775807
  cell : ∀ i, i < xs.length → ∃ b o, A = some ⟨b, o, none⟩ ∧ w.cell? ⟨b, o + i, none⟩ = some (.int .i64 ((xs.getD i 0 : Nat) : Int))
theorem Lst.below {w w' : World} {A : Option Addr} {cap : Nat} {xs : List Nat} (h : Lst w A cap xs) (hb : Below w.heap.size w w') : Lst w' A cap xs :=
  ⟨h.bit, h.cap1, h.cap2, fun i hi => by
    obtain ⟨b, o, e, hc⟩ := h.cell i hi
    exact ⟨b, o, e, (hb.cell (p := ⟨b, o + i, none⟩) (World.block_lt_of_cell? w _ hc)).trans hc⟩⟩
theorem Lst.alloc {w : World} {A : Option Addr} {cap : Nat} {xs : List Nat} (h : Lst w A cap xs) (o : Obj) : Lst (w.alloc o) A cap xs := h.below (below_alloc (Below.refl _ _) o)
theorem Lst.nil (w : World) (A : Option Addr) (cap : Nat) (h : cap ≤ 9223372036854775807) : Lst w A cap [] := ⟨fun x hx => (by cases hx), Nat.zero_le _, h, fun i hi => (by cases hi)⟩
theorem infoI : (Try.prog.info? 3).map (fun i => (i.zero, i.size, i.bytes)) = some (some (.int .i64 0), 1, 8) := by kernel_rfl
abbrev ints (xs : List Nat) : List Value := xs.map fun x : Nat => Value.int .i64 (x : Int)
theorem one_ints (xs : List Nat) : ∀ u ∈ ints xs, u.oneCell' = true := by
  intro u hu
  obtain ⟨n, _, rfl⟩ := List.mem_map.1 hu
  rfl
/-- A list that grows: a slice of the call's own. -/
structure Grow (w : World) (v : Value) (xs : List Nat) (wr : World) : Prop where
  own : wr.ownsRow w.heap.size 3 1 v xs.length (ints xs)
  bit : Bts xs
  below : Below w.heap.size w wr
theorem Grow.start (w : World) : Grow w (.slice (some ⟨w.heap.size, 0, none⟩) 0 0) [] (w.alloc (.cells #[] 3)) :=
  ⟨World.ownsRow_made w #[] 0 (Nat.le_refl _) (by decide) rfl, fun x hx => (by cases hx), below_alloc (Below.refl _ _) _⟩
theorem owns_below {w w' : World} {base : Nat} {e : TypeId} {size : Nat} {v : Value} {n : Nat} {xs : List Value} (h : w.ownsRow base e size v n xs) (hb : Below w.heap.size w w') : w'.ownsRow base e size v n xs := by
  refine ⟨h.1, ?_⟩
  rcases h.2 with hn | ⟨g, cap, cur, rfl, hg, hh, rest⟩
  · exact .inl hn
  · exact .inr ⟨g, cap, cur, rfl, hg, by rw [hb.block g (Array.getElem?_eq_some_iff.1 hh).1]; exact hh, rest⟩
theorem Grow.far {w wr w' : World} {v : Value} {xs : List Nat} (h : Grow w v xs wr) (hb : Below wr.heap.size wr w') : Grow w v xs w' := ⟨owns_below h.own hb, h.bit, below_then h.below hb⟩
theorem Grow.step {w wr w' : World} {v v' : Value} {xs ys : List Nat} (h : Grow w v xs wr) (hy : Bts ys) (hown : w'.ownsRow w.heap.size 3 1 v' (xs.length + ys.length) (ints xs ++ ints ys)) (hg : wr.grownBy w' v.ownBlock) : Grow w v' (xs ++ ys) w' :=
  ⟨by rw [List.length_append, ints, List.map_append]; exact hown, h.bit.append hy, h.below.grown hg h.below.size (fun j hj => (h.own.lt j hj).1)⟩
theorem Grow.lst {w wr : World} {v : Value} {xs : List Nat} (h : Grow w v xs wr) : ∃ A cap, v = .slice A xs.length cap ∧ Lst wr A cap xs := by
  have own := h.own
  obtain ⟨hl, h2⟩ := id own
  rcases h2 with ⟨rfl, hn⟩ | ⟨g, cap, cur, rfl, hg, hh, hc, hm, rest⟩
  · have e : xs = [] := List.eq_nil_of_length_eq_zero hn
    subst e
    exact ⟨none, 0, rfl, Lst.nil _ _ _ (by omega)⟩
  · refine ⟨some ⟨g, 0, none⟩, cap, rfl, h.bit, hc, hm, fun i hi => ⟨g, 0, rfl, ?_⟩⟩
    have := own.cells (g := g) rfl i (.int .i64 ((xs.getD i 0 : Nat) : Int)) (by simp [List.getElem?_eq_getElem hi])
    rw [Addr.add_lit] at this
    exact this
theorem Lst.news {w : World} {a : Addr} {cap : Nat} {xs : List Nat} (h : Lst w (some a) cap xs) (n : Nat) : ∀ (j : Nat) (u : Value), (ints (xs.take n))[j]? = some u → w.cell? (a.add j) = some u := by
  intro j u hu
  rw [List.getElem?_map] at hu
  cases hy : (xs.take n)[j]? with
  | none => rw [hy] at hu; cases hu
  | some y =>
    rw [hy] at hu
    obtain rfl : Value.int .i64 (y : Int) = u := by simpa using hu
    obtain ⟨hj, hyy⟩ := List.getElem?_eq_some_iff.1 hy
    rw [List.length_take] at hj
    obtain ⟨b, o, ea, hc⟩ := h.cell j (by omega)
    obtain rfl : a = ⟨b, o, none⟩ := by simpa using ea
    rw [Addr.add_lit, hc]
    have : (xs.take n)[j]? = xs[j]? := by rw [List.getElem?_take]; split; rfl; omega
    rw [hy] at this
    rw [List.getD_eq_getElem?_getD, ← this]; rfl
theorem new1 (wr : World) (x : Value) (t : TypeId) : ∀ (j : Nat) (u : Value), [x][j]? = some u → (wr.alloc (.cells #[x] t)).cell? ((⟨wr.heap.size, 0, none⟩ : Addr).add j) = some u := by
  intro j u h
  cases j with
  | zero => simp at h; subst h; simp [Addr.add]
  | succ j => simp at h
/-- An answer that is the bits of a number, in a list of its own. -/
def AnsB (xs : List Nat) (w : World) (e : Ending) (w' : World) : Prop :=
  ∃ (A : Option Addr) (cap : Nat), e = .returned (.slice A xs.length cap) ∧ Lst w' A cap xs ∧ Below w.heap.size w w'
theorem Grow.ans {w wr : World} {v : Value} {xs : List Nat} (h : Grow w v xs wr) : AnsB xs w (.returned v) wr := by
  obtain ⟨A, c, rfl, l⟩ := h.lst
  exact ⟨A, c, rfl, l, h.below⟩

set_option maxHeartbeats 1000000 in
theorem rBitsG (n : Nat) (hn : n < 18446744073709551616) (w : World) :
    Calls Try.prog 42 #[.int .u64 (n : Int)] w (fun e w' => ∃ v, e = .returned v ∧ Grow w v (bitsK 64 n) w') := by
  obtain ⟨i0, hi, hz0, hz1, hz2⟩ := info_parts infoI
  have HI := Lib.hid hi
  have HZ0 := Lib.hid hz0
  have HZ1 := Lib.hid hz1
  have HZ2 := Lib.hid hz2
  clear hi hz0 hz1 hz2
  go_enter Try.func42, Try.ntmps42
  go_wp2
  go_loopg [3, 0, 4] 64 (fun g v u i wr => ∃ k m : Nat, k + g = 64 ∧ i = .int .i64 k ∧ u = .int .u64 (m : Int) ∧ Hid (m = n / 2 ^ k) ∧ m < 18446744073709551616 ∧ Hid (Grow w v (bitsK k n) wr))
  case atStart => exact ⟨0, n, by omega, rfl, rfl, Lib.hid (by simp), hn, Lib.hid (Grow.start w)⟩
  case round =>
    obtain ⟨k, m, hk, rfl, rfl, HM, m1, G⟩ := hrel
    by_cases hlt : k < 64
    · have hlt' : (k : Int) < 64 := by omega
      have sz := G.out.below.size
      go_wp2_with (at_builtin; refine wpList_append_own _ rfl _ _ 68 rfl w.heap.size 3 i0 (.int .i64 0) 1 8 Try.underlying68 HI.out HZ0.out HZ1.out HZ2.out rfl (by decide) _ _ _ rfl (G.out.own.alloc _) ⟨wr.heap.size, 0, none⟩ 1 1 [.int .i64 ((m % 2 : Nat) : Int)] rfl rfl ?c1 ?c2 ?c3 ?c4 ?c5 ?_)
      case c1 => exact new1 wr _ _
      case c2 => simp [Value.oneCell']
      case c3 => rw [bitsK_length]; unfold maxLen; omega
      case c4 => rw [bitsK_length]; omega
      case c5 => simp; omega
      intro v' w1 hown hgrow _
      have G1 := Lib.hid ((G.out.far (w' := wr.alloc _) (below_alloc (Below.refl _ _) (.cells #[.int .i64 ((m % 2 : Nat) : Int)] 3))).step (ys := [m % 2]) (fun x hx => by rw [List.mem_singleton.1 hx]; omega) (by simpa using hown) hgrow)
      rw [HM.out, ← bitsK_succ] at G1
      clear hown hgrow
      go_wp2
      go_roundg (gk - 1)
      case measure => omega
      case rel => exact ⟨k + 1, m / 2, by omega, by go_num, by simp, Lib.hid (by rw [HM.out, Nat.pow_succ, Nat.div_div_eq_div_mul]), by omega, G1⟩
    · obtain rfl : k = 64 := by omega
      go_wp2
      go_ret
      exact ⟨_, rfl, G.out⟩
theorem rBits (n : Nat) (hn : n < 18446744073709551616) (w : World) :
    Calls Try.prog 42 #[.int .u64 (n : Int)] w (AnsB (bitsK 64 n) w) :=
  (rBitsG n hn w).mono fun _ _ ⟨_, e, G⟩ => by rw [e]; exact G.ans
end Go.Proofs.Ytdmoedjjbhkdmaa
/-
  What the calls Trim, Parts and Of of the reference of layer 2, and Word of the reference of layer 1, answer.
-/
namespace Go.Proofs.Ytdmoedjjbhkdmaa
open Go.RowKit G
set_option linter.unusedVariables false
set_option maxRecDepth 100000

theorem nil_appendI (g c : Nat) (w : World) (hg : w.heap[g]? = some (.cells #[] 3 (0, 0))) : (Builtin.append_ #[68, 68] 68 #[.slice (some ⟨g, 0, none⟩) 0 0, .slice none 0 c]).run Try.prog w = .ok (.slice (some ⟨g, 0, none⟩) 0 0) w := by
  obtain ⟨i0, hi, hz0, hz1, hz2⟩ := info_parts infoI
  simp [Builtin.append_, run_underlying Try.underlying68, sizeOf, typeInfo, hi, Builtin.lenOf, Builtin.firstCells, storeCells]

set_option maxHeartbeats 1000000 in
theorem wordWalk (A : Option Addr) (cap L f N : Nat) (xs : List Nat) (hL : Hid (xs.length = L)) (hN : Hid (leB xs = N)) (hl : L ≤ 1000000) (hf : f ≤ 1000000) (w : World) (H : Hid (Lst w A cap xs)) :
    Calls Try.prog 43 #[.slice A L cap, .int .i64 (f : Int)] w (fun e w' => e = .returned (.int .u64 ((N / 2 ^ f % 18446744073709551616 : Nat) : Int)) ∧ w = w') := by
  go_enter Try.func43, Try.ntmps43
  go_wp2
  go_loopg [5, 6] 64 (fun g v i wr => ∃ (m : Nat) (z : Int), z + 1 = (g : Int) ∧ g ≤ 64 ∧ i = .int .i64 z ∧ v = .int .u64 (m : Int) ∧ Hid (m = N / 2 ^ (f + g) % 2 ^ (64 - g)) ∧ wr = w)
  case atStart => exact ⟨0, 63, by omega, by omega, rfl, rfl, Lib.hid (by simp [Nat.mod_one]), rfl⟩
  case round =>
    obtain ⟨m, z, hz, hg, rfl, rfl, HM, rfl⟩ := hrel
    cases gk with
    | zero =>
      obtain rfl : z = -1 := by omega
      go_wp2
      go_ret
      exact ⟨by rw [HM.out]; rfl, rfl⟩
    | succ t =>
      obtain rfl : z = (t : Int) := by omega
      have bm : m < 9223372036854775808 := by
        rw [HM.out]
        exact Nat.lt_of_lt_of_le (Nat.mod_lt _ (Nat.two_pow_pos _)) (Nat.pow_le_pow_right (n := 2) (by decide) (show 64 - (t + 1) ≤ 63 by omega))
      obtain ⟨s, hs⟩ : ∃ s, s = f + t := ⟨_, rfl⟩
      have e1 : (f : Int) + (t : Int) = (s : Int) := by omega
      have s0 : (0 : Int) ≤ (s : Int) := by omega
      have ms : 2 * m + xs.getD s 0 = N / 2 ^ (f + t) % 2 ^ (64 - t) := by
        have h := half_step N (f + t) (64 - (t + 1))
        rw [show 64 - (t + 1) + 1 = 64 - t from by omega] at h
        rw [h, HM.out, hs, ← leB_get xs (f + t) H.out.bit, hN.out, Nat.add_assoc f t 1]
        omega
      have hb := H.out.bit.get s
      have MS := Lib.hid ms
      clear ms
      by_cases hlt : s < L
      · have sl : (s : Int) < (L : Int) := by omega
        obtain ⟨b, o, rfl, hc⟩ := H.out.cell s (by rw [hL.out]; exact hlt)
        generalize xs.getD s 0 = x at hc MS hb
        have HS := Lib.hid hs
        clear hs hz
        go_wp2
        go_roundg t
        case measure => omega
        case rel => exact ⟨m * 2 + x, (t : Int) - 1, by omega, by omega, rfl, by go_num, Lib.hid (by rw [← MS.out]; omega), rfl⟩
      · have sl : ¬ ((s : Int) < (L : Int)) := by omega
        have hx : xs.getD s 0 = 0 := by rw [List.getD_eq_getElem?_getD, List.getElem?_eq_none (by rw [hL.out]; omega)]; rfl
        rw [hx] at MS
        have HS := Lib.hid hs
        clear hs hz hx hb
        go_wp2
        go_roundg t
        case measure => omega
        case rel => exact ⟨m * 2, (t : Int) - 1, by omega, by omega, rfl, by go_num, Lib.hid (by rw [← MS.out]; omega), rfl⟩
theorem rBitsAt (n : Nat) (hn : n < 18446744073709551616) (w : World) : Calls Try.prog 42 #[.int .u64 (n : Int)] w (fun e w' => ∃ b o cap, e = .returned (.slice (some ⟨b, o, none⟩) 64 cap) ∧ Lst w' (some ⟨b, o, none⟩) cap (bitsK 64 n) ∧ Below w.heap.size w w') := by
  refine (rBits n hn w).mono ?_
  rintro e w' ⟨A, cap, rfl, l, hb⟩
  obtain ⟨b, o, rfl, _⟩ := l.cell 0 (by rw [bitsK_length]; decide)
  exact ⟨b, o, cap, by rw [bitsK_length], l, hb⟩
end Go.Proofs.Ytdmoedjjbhkdmaa
/-
  What the calls Of, Add, Up and Mul of the reference of layer 2 answer.
-/
namespace Go.Proofs.Ytdmoedjjbhkdmaa
open Go.RowKit G
set_option linter.unusedVariables false

abbrev u64s (xs : List Nat) : List Value := xs.map fun x : Nat => Value.int .u64 (x : Int)
/-- A list of words that grows: a slice of the call's own. -/
structure GrowW (w : World) (v : Value) (xs : List Nat) (wr : World) : Prop where
  own : wr.ownsRow w.heap.size 22 1 v xs.length (u64s xs)
  wds : Wds xs
  below : Below w.heap.size w wr
theorem GrowW.start (w : World) : GrowW w (.slice (some ⟨w.heap.size, 0, none⟩) 0 0) [] (w.alloc (.cells #[] 22)) :=
  ⟨World.ownsRow_made w #[] 0 (Nat.le_refl _) (by decide) rfl, fun x hx => (by cases hx), below_alloc (Below.refl _ _) _⟩
theorem GrowW.far {w wr w' : World} {v : Value} {xs : List Nat} (h : GrowW w v xs wr) (hb : Below wr.heap.size wr w') : GrowW w v xs w' := ⟨owns_below h.own hb, h.wds, below_then h.below hb⟩
theorem GrowW.step {w wr w' : World} {v v' : Value} {xs ys : List Nat} (h : GrowW w v xs wr) (hy : Wds ys) (hown : w'.ownsRow w.heap.size 22 1 v' (xs.length + ys.length) (u64s xs ++ u64s ys)) (hg : wr.grownBy w' v.ownBlock) : GrowW w v' (xs ++ ys) w' :=
  ⟨by rw [List.length_append, u64s, List.map_append]; exact hown, fun x hx => by
    rcases List.mem_append.1 hx with hx | hx
    · exact h.wds x hx
    · exact hy x hx, h.below.grown hg h.below.size (fun j hj => (h.own.lt j hj).1)⟩
theorem sz_len (N k : Nat) : 64 * k < len N ↔ k < (wordsOf N).length := by
  show _ ↔ k < sz N
  by_cases h0 : N = 0
  · subst h0; rw [sz_zero, len_zero]; omega
  · obtain ⟨m, hm⟩ : ∃ m, sz N = m + 1 := ⟨sz N - 1, by have : 0 < sz N := by unfold sz; rw [wordsOf_pos h0]; simp
                                                        omega⟩
    obtain ⟨d1, d2, d3⟩ := deg_top (wordsOf N) N m (wds_wordsOf N) (leN_wordsOf N) hm
    have a := len_pos d1
    have b := len_word ((wds_wordsOf N).get m)
    rw [hm, d2]
    omega
theorem take_next (xs : List Nat) (k x : Nat) (hk : k < xs.length) (hx : xs.getD k 0 = x) : xs.take (k + 1) = xs.take k ++ [x] := by
  rw [List.take_succ_eq_append_getElem hk, ← hx]
  simp [List.getD_eq_getElem?_getD, List.getElem?_eq_getElem hk]
end Go.Proofs.Ytdmoedjjbhkdmaa
/-
  What the call addUp of package gfdiv does: a times a power of x is added to a list, on the spot.
-/
namespace Go.Proofs.Ytdmoedjjbhkdmaa
open Go.RowKit G
set_option linter.unusedVariables false

/-- The cells of a list of words. -/
def words (ps : List Nat) : List Value := ps.map fun x : Nat => Value.int .u64 (x : Int)
theorem words_length (ps : List Nat) : (words ps).length = ps.length := List.length_map _
/-- A list of the call's own that holds these words. -/
structure Row (base g cap : Nat) (ps : List Nat) (w : World) : Prop where
  own : w.ownsRow base 22 1 (.slice (some ⟨g, 0, none⟩) ps.length cap) ps.length (words ps)
  wds : Wds ps
theorem Row.set {base g cap : Nat} {ps : List Nat} {w : World} (h : Row base g cap ps w) (k v : Nat) (hv : v < 18446744073709551616) : Row base g cap (ps.set k v) (w.setCell ⟨g, k, none⟩ (.int .u64 (v : Int))) := by
  obtain ⟨a, b⟩ := h.own.stored k (.int .u64 (v : Int))
  refine ⟨?_, h.wds.set k v hv⟩
  rw [words, List.map_set, List.length_set]; exact a
theorem Row.cell {base g cap : Nat} {ps : List Nat} {w : World} (h : Row base g cap ps w) (k : Nat) (hk : k < ps.length) : w.cell? ⟨g, k, none⟩ = some (.int .u64 ((ps.getD k 0 : Nat) : Int)) ∧ w.frozen? ⟨g, k, none⟩ = false := by
  refine ⟨?_, h.own.frozenAt k⟩
  rw [h.own.cellAt k (by omega)]
  simp [words, List.getElem?_eq_getElem hk]
theorem Row.drew {base g cap : Nat} {ps : List Nat} {w : World} (h : Row base g cap ps w) : Row base g cap ps w.drew := ⟨h.own, h.wds⟩
theorem Row.pol {base g cap : Nat} {ps : List Nat} {w : World} (h : Row base g cap ps w) : Pol w (some ⟨g, 0, none⟩) cap ps := by
  obtain ⟨A, c, e, P⟩ := Pol.of_owns h.wds h.own
  simp only [Value.slice.injEq, true_and] at e
  obtain ⟨rfl, rfl⟩ := e
  exact P
theorem Row.lt {base g cap : Nat} {ps : List Nat} {w : World} (h : Row base g cap ps w) : base ≤ g ∧ g < w.heap.size := h.own.lt g rfl
theorem Row.below {base g cap : Nat} {ps : List Nat} {w w' : World} (h : Row base g cap ps w) (hb : Below w.heap.size w w') : Row base g cap ps w' := by
  refine ⟨⟨h.own.1, ?_⟩, h.wds⟩
  rcases h.own.2 with h2 | ⟨g', cap', cur, hv, hg, hh, r⟩
  · exact .inl h2
  · exact .inr ⟨g', cap', cur, hv, hg, (hb.block g' (Array.getElem?_eq_some_iff.1 hh).1).trans hh, r⟩
theorem Row.kept {base g cap g' : Nat} {ps : List Nat} {w w' : World} (h : Row base g cap ps w) (hg : w.grownBy w' (some g')) (hne : g ≠ g') : Row base g cap ps w' :=
  ⟨h.own.kept hg (.inr (by simpa [Value.ownBlock] using hne)), h.wds⟩
theorem grown_refl (w : World) (r : Option Nat) : w.grownBy w r := ⟨rfl, rfl, rfl, Nat.le_refl _, fun _ _ _ => rfl⟩
theorem grown_trans {a b c : World} {r : Option Nat} (h : a.grownBy b r) (k : b.grownBy c r) : a.grownBy c r :=
  ⟨k.os.trans h.os, k.tape.trans h.tape, k.output.trans h.output, Nat.le_trans h.size k.size, fun i hi hn => (k.block i (Nat.lt_of_lt_of_le hi h.size) hn).trans (h.block i hi hn)⟩
theorem grown_set {a w : World} {g : Nat} (h : a.grownBy w (some g)) (k : Nat) (u : Value) : a.grownBy (w.setCell ⟨g, k, none⟩ u) (some g) :=
  ⟨h.os, h.tape, h.output, by simpa [World.setCell] using h.size, fun i hi hn => (Below.heap_setCell w ⟨g, k, none⟩ u i (fun e => hn (by rw [e]))).trans (h.block i hi hn)⟩
theorem grown_drew {a w : World} {r : Option Nat} (h : a.grownBy w r) : a.grownBy w.drew r := ⟨h.os, h.tape, h.output, h.size, h.block⟩
theorem Pol.grown {w w' : World} {A : Option Addr} {cap g : Nat} {xs : List Nat} (h : Pol w A cap xs) (hg : w.grownBy w' (some g)) (hne : ∀ ad, A = some ad → ad.block ≠ g) : Pol w' A cap xs :=
  ⟨h.word, h.cap1, h.cap2, fun i hi => by
    obtain ⟨b, o, e, hc⟩ := h.cell i hi
    refine ⟨b, o, e, hg.cell hc ?_⟩
    intro q
    exact hne _ e (by simpa using q)⟩
theorem xor_turn (a b c : Nat) : a ^^^ b ^^^ c = a ^^^ (c ^^^ b) := by rw [Nat.xor_assoc, Nat.xor_comm b c]
/-- What of a word goes up by s bits, and what goes over. -/
theorem up_two (ps ys : List Nat) (n q s k : Nat) (hn : n = 64 * q + s) (hs : s < 64) (hp : Wds ps) (hy : Wds ys) (h1 : q + k < ps.length) (h2 : ys.getD k 0 / 2 ^ (64 - s) ≠ 0 → q + k + 1 < ps.length) (Z : Nat) (hz : leN ps = Z ^^^ leN (ys.take k) * 2 ^ n) :
    (ys.getD k 0 / 2 ^ (64 - s) = 0 → leN (ps.set (q + k) (ps.getD (q + k) 0 ^^^ ys.getD k 0 * 2 ^ s % 18446744073709551616)) = Z ^^^ leN (ys.take (k + 1)) * 2 ^ n) ∧
    (ys.getD k 0 / 2 ^ (64 - s) ≠ 0 → leN ((ps.set (q + k) (ps.getD (q + k) 0 ^^^ ys.getD k 0 * 2 ^ s % 18446744073709551616)).set (q + k + 1) ((ps.set (q + k) (ps.getD (q + k) 0 ^^^ ys.getD k 0 * 2 ^ s % 18446744073709551616)).getD (q + k + 1) 0 ^^^ ys.getD k 0 / 2 ^ (64 - s))) = Z ^^^ leN (ys.take (k + 1)) * 2 ^ n) := by
  have l1 : ys.getD k 0 * 2 ^ s % 18446744073709551616 < 18446744073709551616 := Nat.mod_lt _ (by decide)
  have l2 : ys.getD k 0 / 2 ^ (64 - s) < 18446744073709551616 := Nat.lt_of_le_of_lt (Nat.div_le_self _ _) (hy.get k)
  have e1 := leN_set_xor ps (q + k) _ hp h1 l1
  have dv : ys.getD k 0 * 2 ^ s / 18446744073709551616 = ys.getD k 0 / 2 ^ (64 - s) := div_shift _ s 64 (by omega)
  have two := two_words (ys.getD k 0 * 2 ^ s) (q + k)
  rw [dv] at two
  have goal : Z ^^^ leN (ys.take (k + 1)) * 2 ^ n = leN ps ^^^ (ys.getD k 0 * 2 ^ s) * 2 ^ (64 * (q + k)) := by
    rw [hz, leN_take_succ ys k hy, xor_shift, ← Nat.xor_assoc]
    congr 1
    rw [Nat.mul_assoc, Nat.mul_assoc, ← Nat.pow_add, ← Nat.pow_add]
    congr 2
    omega
  constructor
  · intro z
    rw [z, Nat.zero_mul, Nat.zero_xor] at two
    rw [e1, goal, two]
  · intro nz
    rw [leN_set_xor _ (q + k + 1) _ (hp.set _ _ (word_xor (hp.get _) l1)) (by rw [List.length_set]; exact h2 nz) l2, e1, goal, ← two]
    exact xor_turn _ _ _

end Go.Proofs.Ytdmoedjjbhkdmaa
/-
  A region whose own operations read, and whose callees make memory, walked once in the text's order, whatever its order is.
-/
namespace Go.Proofs.Ytdmoedjjbhkdmaa
open Go.RowKit G
set_option linter.unusedVariables false

/-- The walk of a quiet region, shut: left open, the type of what is still to be shown is laid out through all operations that do not run. -/
structure WQ (P : Program) (ops : Array Oper) (C : World → Prop) (Q : Act → Prop) (l : List Oper) (a : Act) : Prop where
  out : wpQuiet P ops C Q l a
theorem wp_region_class {P : Program} {id : Nat} {Q : Exit → Act → World → Prop} {a : Act} {w : World} {l : List Oper} (C : World → Prop) (hm : P.follows .mixedOrders = true) (hB : Region.lexB .any l.toArray = true) (hC : C w.drew)
    (h : WQ P l.toArray C (fun a' => ∀ w', C w' → Q .normal a' w') l a) : (Code.region id l.toArray true).wp P Q a w :=
  wp_region_quiet (C := C) hm hB hC (by simpa using h.out)
section
variable {P : Program} {ops : Array Oper} {C : World → Prop} {Q : Act → Prop} {a : Act} {o : Oper} {rest : List Oper}
theorem WQ.yes (v : Value) (hw : Region.wanted o (yielded ops a.tmps) = true) (h1 : ∀ w, C w → o.quietAt P a C w v) (h2 : WQ P ops C Q rest (a.put o.dst v)) : WQ P ops C Q (o :: rest) a :=
  ⟨wpQuiet_step fun K hK => by rw [if_pos hw]; exact ⟨v, h1, hK _ h2.out⟩⟩
theorem WQ.no (hw : Region.wanted o (yielded ops a.tmps) = false) (h2 : WQ P ops C Q rest (a.put o.dst undef)) : WQ P ops C Q (o :: rest) a :=
  ⟨wpQuiet_step fun K hK => by rw [if_neg (by rw [hw]; simp)]; exact hK _ h2.out⟩
theorem WQ.nil (h : Q a) : WQ P ops C Q [] a := ⟨wpQuiet_nil h⟩
end
theorem quietOf {P : Program} {f : FuncId} {args : Array Value} {W0 w : World} {v : Value} (h : Calls P f args w (fun e w' => e = .returned v ∧ Below w.heap.size w w')) (hC : Below W0.heap.size W0 w) :
    Calls P f args w (fun e w'' => e = .returned v ∧ Below W0.heap.size W0 w'') := h.mono fun _ _ ⟨a, b⟩ => ⟨a, below_then hC b⟩
theorem quietSame {P : Program} {f : FuncId} {args : Array Value} {W0 w : World} {v : Value} (h : Calls P f args w (fun e w' => e = .returned v ∧ w' = w)) (hC : Below W0.heap.size W0 w) :
    Calls P f args w (fun e w'' => e = .returned v ∧ Below W0.heap.size W0 w'') := h.mono fun _ _ ⟨a, b⟩ => ⟨a, by rw [b]; exact hC⟩
/-- The same for one kind of value: a bare value would not be found where the goal's own value is open. -/
theorem quietU {P : Program} {f : FuncId} {args : Array Value} {W0 w : World} {n : Int} (h : Calls P f args w (fun e w' => e = .returned (.int .u64 n) ∧ Below w.heap.size w w')) (hC : Below W0.heap.size W0 w) :
    Calls P f args w (fun e w'' => e = .returned (.int .u64 n) ∧ Below W0.heap.size W0 w'') := quietOf h hC
theorem quietUS {P : Program} {f : FuncId} {args : Array Value} {W0 w : World} {n : Int} (h : Calls P f args w (fun e w' => e = .returned (.int .u64 n) ∧ w' = w)) (hC : Below W0.heap.size W0 w) :
    Calls P f args w (fun e w'' => e = .returned (.int .u64 n) ∧ Below W0.heap.size W0 w'') := quietSame h hC
theorem quietA {P : Program} {f : FuncId} {args : Array Value} {W0 w : World} {a b : Int} (h : Calls P f args w (fun e w' => e = .returned (.agg #[.int .u64 a, .int .u64 b]) ∧ Below w.heap.size w w')) (hC : Below W0.heap.size W0 w) :
    Calls P f args w (fun e w'' => e = .returned (.agg #[.int .u64 a, .int .u64 b]) ∧ Below W0.heap.size W0 w'') := quietOf h hC
theorem quietA4 {P : Program} {f : FuncId} {args : Array Value} {W0 w : World} {a b c d : Int} (h : Calls P f args w (fun e w' => e = .returned (.agg #[.int .u64 a, .int .u64 b, .int .u64 c, .int .u64 d]) ∧ Below w.heap.size w w')) (hC : Below W0.heap.size W0 w) :
    Calls P f args w (fun e w'' => e = .returned (.agg #[.int .u64 a, .int .u64 b, .int .u64 c, .int .u64 d]) ∧ Below W0.heap.size W0 w'') := quietOf h hC
theorem quietB {P : Program} {f : FuncId} {args : Array Value} {W0 w : World} {b : Bool} (h : Calls P f args w (fun e w' => e = .returned (.bool b) ∧ Below w.heap.size w w')) (hC : Below W0.heap.size W0 w) :
    Calls P f args w (fun e w'' => e = .returned (.bool b) ∧ Below W0.heap.size W0 w'') := quietOf h hC
end Go.Proofs.Ytdmoedjjbhkdmaa
