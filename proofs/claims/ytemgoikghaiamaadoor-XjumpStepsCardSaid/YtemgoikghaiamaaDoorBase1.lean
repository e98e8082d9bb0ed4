/-
  Part 1 of what the statements of this seat stand on: GfpM GfpA GfpB GfpC GfpS GfpD GfpE GfpF GfpH GfpI GfpN GfpTa GfpTb GfpK GfpTc GfdM GfwM XshM.
-/
import Derived.Test.YtemgoikghaiamaaDoorRows
import Derived.WalkKit
import Derived.ProofKit
import Derived.OpenShut
import Derived.Handy
import Derived.Lib.Hide
import Derived.Deep.QuietTactic
import Derived.BigQuiet
import Derived.Deep.OwnRows
import Derived.Laws.BitsAllLaws
import Derived.Outline
import Derived.WalkMore
import Derived.Deep.LoopGhost
import Derived.Shelf.Small.Bits
import Derived.Shelf.Strconv.Itoa0
import Derived.Test.YtemgoikghaiamaaDoorProg
import Derived.Deep.RegionHeld3
import Derived.Laws.OwnMore
import Derived.RegionTactic
/-
  Polynomials over the field of two as numbers of bits: products without carries, lists of words. Plain mathematics; nothing of the program.
-/
namespace Go.Proofs.YtemgoikghaiamaaDoor.G
/-- The product of two polynomials over the field of two, each as the number of its bits. -/
def clm (a : Nat) (b : Nat) : Nat :=
  if b = 0 then 0 else (if b % 2 = 1 then a else 0) ^^^ (2 * clm a (b / 2))
  termination_by b
  decreasing_by omega

theorem clm_zero (a : Nat) : clm a 0 = 0 := by unfold clm; simp
theorem clm_step (a b : Nat) : clm a b = (if b % 2 = 1 then a else 0) ^^^ (2 * clm a (b / 2)) := by
  by_cases h : b = 0
  · subst h; simp [clm_zero]
  · rw [clm, if_neg h]
theorem two_xor (a b : Nat) : 2 * (a ^^^ b) = 2 * a ^^^ 2 * b := by
  have := Nat.shiftLeft_xor_distrib (a := a) (b := b) (i := 1)
  simp only [Nat.shiftLeft_eq, Nat.pow_one] at this
  rw [Nat.mul_comm 2, Nat.mul_comm 2, Nat.mul_comm 2]; exact this
theorem clm_even (a b : Nat) : clm a (2 * b) = 2 * clm a b := by
  rw [clm_step a (2 * b), if_neg (by omega), Nat.zero_xor, show 2 * b / 2 = b from by omega]
theorem clm_odd (a b : Nat) : clm a (2 * b + 1) = a ^^^ 2 * clm a b := by
  rw [clm_step, if_pos (by omega), show (2 * b + 1) / 2 = b from by omega]
theorem bin (P : Nat → Prop) (h0 : P 0) (he : ∀ b, P b → P (2 * b)) (ho : ∀ b, P b → P (2 * b + 1)) : ∀ b, P b := by
  intro b
  induction b using Nat.strongRecOn with
  | _ b ih =>
    by_cases h : b = 0
    · subst h; exact h0
    · have := ih (b / 2) (by omega)
      rcases Nat.mod_two_eq_zero_or_one b with e | e
      · have := he _ this; rwa [show 2 * (b / 2) = b from by omega] at this
      · have := ho _ this; rwa [show 2 * (b / 2) + 1 = b from by omega] at this
theorem xor4 (a b c d : Nat) : (a ^^^ b) ^^^ (c ^^^ d) = (a ^^^ c) ^^^ (b ^^^ d) := by
  rw [Nat.xor_assoc, ← Nat.xor_assoc b, Nat.xor_comm b c, Nat.xor_assoc c, ← Nat.xor_assoc a]
theorem clm_xor_left (a a' b : Nat) : clm (a ^^^ a') b = clm a b ^^^ clm a' b := by
  refine bin (fun b => clm (a ^^^ a') b = clm a b ^^^ clm a' b) (by simp [clm_zero]) (fun b ih => ?_) (fun b ih => ?_) b
  · simp only [clm_even, ih, two_xor]
  · simp only [clm_odd, ih, two_xor]; exact xor4 _ _ _ _
theorem clm_two_left (a b : Nat) : clm (2 * a) b = 2 * clm a b := by
  refine bin (fun b => clm (2 * a) b = 2 * clm a b) (by simp [clm_zero]) (fun b ih => ?_) (fun b ih => ?_) b
  · simp only [clm_even, ih]
  · simp only [clm_odd, ih, two_xor]
theorem clm_zero_left (b : Nat) : clm 0 b = 0 := by
  refine bin (fun b => clm 0 b = 0) (clm_zero 0) (fun b ih => ?_) (fun b ih => ?_) b
  · simp only [clm_even, ih]
  · simp only [clm_odd, ih]; rfl
theorem odd_xor (b : Nat) : 2 * b + 1 = 2 * b ^^^ 1 := by
  refine Nat.eq_of_testBit_eq (fun i => ?_)
  cases i with
  | zero => simp [Nat.testBit_zero]
  | succ i => simp only [Nat.testBit_succ, Nat.xor_div_two]; rw [show (2 * b + 1) / 2 = b from by omega, show 2 * b / 2 = b from by omega]; simp
theorem clm_one (a : Nat) : clm a 1 = a := by
  have := clm_odd a 0; simpa [clm_zero] using this
theorem clm_one_left (b : Nat) : clm 1 b = b := by
  refine bin (fun b => clm 1 b = b) (clm_zero 1) (fun b ih => ?_) (fun b ih => ?_) b
  · simp only [clm_even, ih]
  · simp only [clm_odd, ih]; rw [odd_xor, Nat.xor_comm]
theorem clm_comm (a b : Nat) : clm a b = clm b a := by
  refine bin (fun b => clm a b = clm b a) (by rw [clm_zero, clm_zero_left]) (fun b ih => ?_) (fun b ih => ?_) b
  · rw [clm_even, clm_two_left, ih]
  · rw [clm_odd, odd_xor, clm_xor_left, clm_two_left, clm_one_left, ih, Nat.xor_comm]
theorem clm_xor (a b b' : Nat) : clm a (b ^^^ b') = clm a b ^^^ clm a b' := by
  rw [clm_comm, clm_xor_left, clm_comm b, clm_comm b']
theorem clm_assoc (a b c : Nat) : clm (clm a b) c = clm a (clm b c) := by
  refine bin (fun c => clm (clm a b) c = clm a (clm b c)) (by simp [clm_zero]) (fun c ih => ?_) (fun c ih => ?_) c
  · simp only [clm_even, ih]
  · simp only [clm_odd, ih, clm_xor, clm_even]
theorem clm_pow (a n : Nat) : clm a (2 ^ n) = a * 2 ^ n := by
  induction n with
  | zero => simp [clm_one]
  | succ n ih => rw [Nat.pow_succ, Nat.mul_comm (2 ^ n), clm_even, ih, ← Nat.mul_assoc, Nat.mul_comm 2 a, Nat.mul_assoc]
theorem clm_shift (a b n : Nat) : clm a (b * 2 ^ n) = clm a b * 2 ^ n := by
  rw [← clm_pow, ← clm_assoc, clm_pow]
theorem clm_shift_left (a b n : Nat) : clm (a * 2 ^ n) b = clm a b * 2 ^ n := by
  rw [clm_comm, clm_shift, clm_comm]
theorem xor_cancel (a b : Nat) : a ^^^ b ^^^ b = a := by rw [Nat.xor_assoc, Nat.xor_self, Nat.xor_zero]
theorem xor_shift (a b n : Nat) : (a ^^^ b) * 2 ^ n = a * 2 ^ n ^^^ b * 2 ^ n := by
  have := Nat.shiftLeft_xor_distrib (a := a) (b := b) (i := n)
  simpa only [Nat.shiftLeft_eq] using this

theorem sq_even (a : Nat) : clm (2 * a) (2 * a) = 2 * (2 * clm a a) := by rw [clm_even, clm_two_left]
theorem sq_xor (a b : Nat) : clm (a ^^^ b) (a ^^^ b) = clm a a ^^^ clm b b := by
  rw [clm_xor, clm_xor_left, clm_xor_left, clm_comm b a]
  rw [Nat.xor_assoc, ← Nat.xor_assoc (clm a b), Nat.xor_self, Nat.zero_xor]
theorem sq_odd (a : Nat) : clm (2 * a + 1) (2 * a + 1) = 2 * (2 * clm a a) + 1 := by
  rw [odd_xor, sq_xor, sq_even, clm_one, odd_xor]
theorem bit_even (a i : Nat) : (2 * a).testBit (i + 1) = a.testBit i := by rw [Nat.testBit_succ, show 2 * a / 2 = a from by omega]
theorem bit_odd (a i : Nat) : (2 * a + 1).testBit (i + 1) = a.testBit i := by rw [Nat.testBit_succ, show (2 * a + 1) / 2 = a from by omega]
theorem bit_even0 (a : Nat) : (2 * a).testBit 0 = false := by simp [Nat.testBit_zero]
theorem bit_odd0 (a : Nat) : (2 * a + 1).testBit 0 = true := by simp [Nat.testBit_zero]
theorem sq_bits (a : Nat) : ∀ n, (clm a a).testBit (2 * n) = a.testBit n ∧ (clm a a).testBit (2 * n + 1) = false := by
  refine bin (fun a => ∀ n, (clm a a).testBit (2 * n) = a.testBit n ∧ (clm a a).testBit (2 * n + 1) = false) (by simp [clm_zero]) (fun b ih n => ?_) (fun b ih n => ?_) a
  · rw [sq_even]
    cases n with
    | zero => exact ⟨by rw [Nat.mul_zero, bit_even0, bit_even0], by rw [bit_even, Nat.mul_zero, bit_even0]⟩
    | succ n =>
      rw [show 2 * (n + 1) = (2 * n) + 1 + 1 from by omega, bit_even, bit_even, bit_even, bit_even, bit_even]
      exact ih n
  · rw [sq_odd]
    cases n with
    | zero => exact ⟨by rw [Nat.mul_zero, bit_odd0, bit_odd0], by rw [bit_odd, Nat.mul_zero, bit_even0]⟩
    | succ n =>
      rw [show 2 * (n + 1) = (2 * n) + 1 + 1 from by omega, bit_odd, bit_even, bit_odd, bit_odd, bit_even]
      exact ih n
/-- Degrees: how many bits a number has. -/
def len : Nat → Nat := fun n => if n = 0 then 0 else Nat.log2 n + 1
theorem len_zero : len 0 = 0 := rfl
theorem len_lt (n : Nat) : n < 2 ^ len n := by
  unfold len; split
  · subst_vars; decide
  · exact Nat.lt_log2_self
theorem len_le {n k : Nat} (h : n < 2 ^ k) : len n ≤ k := by
  unfold len; split
  · omega
  · exact (Nat.log2_lt (by assumption)).2 h
theorem len_ge {n : Nat} (h : n ≠ 0) : 2 ^ (len n - 1) ≤ n := by
  unfold len; rw [if_neg h]; exact Nat.log2_self_le h
theorem len_pos {n : Nat} (h : n ≠ 0) : 0 < len n := by unfold len; rw [if_neg h]; omega
theorem len_of {n k : Nat} (h1 : 2 ^ k ≤ n) (h2 : n < 2 ^ (k + 1)) : len n = k + 1 := by
  have a := len_le h2
  have h0 : n ≠ 0 := by have := Nat.two_pow_pos k; omega
  have b := len_lt n
  have c : 2 ^ k < 2 ^ len n := by omega
  have := (Nat.pow_lt_pow_iff_right (by decide : 1 < 2)).1 c
  omega
theorem len_two {n : Nat} (h : n ≠ 0) : len (2 * n) = len n + 1 := by
  have a := len_ge h; have b := len_lt n; have c := len_pos h
  refine len_of ?_ ?_
  · have : 2 ^ len n = 2 * 2 ^ (len n - 1) := by rw [← Nat.pow_succ']; congr 1; omega
    omega
  · rw [Nat.pow_succ]; omega
theorem xor_lt {a b k : Nat} (ha : a < 2 ^ k) (hb : b < 2 ^ k) : a ^^^ b < 2 ^ k := Nat.xor_lt_two_pow ha hb
theorem len_xor_le (a b k : Nat) (ha : len a ≤ k) (hb : len b ≤ k) : len (a ^^^ b) ≤ k :=
  len_le (xor_lt (Nat.lt_of_lt_of_le (len_lt a) (Nat.pow_le_pow_right (by decide) ha)) (Nat.lt_of_lt_of_le (len_lt b) (Nat.pow_le_pow_right (by decide) hb)))
theorem len_bit {a : Nat} (h : a ≠ 0) : a.testBit (len a - 1) = true := by
  have a1 := len_ge h; have b := len_lt a; have c := len_pos h
  rw [Nat.testBit_eq_decide_div_mod_eq]
  have e : 2 ^ len a = 2 * 2 ^ (len a - 1) := by rw [← Nat.pow_succ']; congr 1; omega
  have : a / 2 ^ (len a - 1) = 1 := by
    apply Nat.div_eq_of_lt_le <;> omega
  simp [this]
theorem len_bit_out {a i : Nat} (h : len a ≤ i) : a.testBit i = false :=
  Nat.testBit_lt_two_pow (Nat.lt_of_lt_of_le (len_lt a) (Nat.pow_le_pow_right (by decide) h))
theorem len_xor_lt {a b : Nat} (h : len b < len a) : len (a ^^^ b) = len a := by
  have ha : a ≠ 0 := by intro e; subst e; simp [len_zero] at h
  have up := len_xor_le a b (len a) (Nat.le_refl _) (Nat.le_of_lt h)
  have hb := len_bit ha
  have ho := len_bit_out (a := b) (i := len a - 1) (by omega)
  have : (a ^^^ b).testBit (len a - 1) = true := by rw [Nat.testBit_xor, hb, ho]; rfl
  have p := len_pos ha
  by_cases q : len (a ^^^ b) ≤ len a - 1
  · rw [len_bit_out q] at this; cases this
  · omega
theorem len_clm {a b : Nat} (ha : a ≠ 0) : b ≠ 0 → clm a b ≠ 0 ∧ len (clm a b) + 1 = len a + len b := by
  refine bin (fun b => b ≠ 0 → clm a b ≠ 0 ∧ len (clm a b) + 1 = len a + len b) (fun h => (h rfl).elim) (fun b ih h => ?_) (fun b ih h => ?_) b
  · have hb : b ≠ 0 := by omega
    obtain ⟨i1, i2⟩ := ih hb
    rw [clm_even, len_two i1, len_two hb]
    exact ⟨by omega, by omega⟩
  · by_cases hb : b = 0
    · subst hb; rw [Nat.mul_zero, Nat.zero_add, clm_one]; exact ⟨ha, rfl⟩
    · obtain ⟨i1, i2⟩ := ih hb
      have e := len_two i1
      have pb := len_pos hb
      have e2 : len (2 * b + 1) = len b + 1 := by
        rw [odd_xor, len_xor_lt, len_two hb]
        rw [len_two hb]; show len 1 < _; have : len 1 = 1 := rfl; omega
      have e3 : len (clm a (2 * b + 1)) = len (clm a b) + 1 := by
        rw [clm_odd, Nat.xor_comm, len_xor_lt, e]
        omega
      refine ⟨fun z => ?_, by omega⟩
      rw [z, len_zero] at e3; omega
theorem len_mul_pow {a : Nat} (ha : a ≠ 0) (n : Nat) : len (a * 2 ^ n) = len a + n := by
  have h := (len_clm ha (b := 2 ^ n) (by have := Nat.two_pow_pos n; omega)).2
  rw [clm_pow] at h
  have : len (2 ^ n) = n + 1 := len_of (Nat.le_refl _) (by rw [Nat.pow_succ]; have := Nat.two_pow_pos n; omega)
  omega
theorem clm_lt {a b m n : Nat} (ha : a < 2 ^ m) (hb : b < 2 ^ n) : clm a b < 2 ^ (m + n) := by
  by_cases h1 : a = 0
  · subst h1; rw [clm_zero_left]; exact Nat.two_pow_pos _
  by_cases h2 : b = 0
  · subst h2; rw [clm_zero]; exact Nat.two_pow_pos _
  have h := (len_clm h1 h2).2
  have := len_le ha; have := len_le hb
  exact Nat.lt_of_lt_of_le (len_lt _) (Nat.pow_le_pow_right (by decide) (by omega))

/-- The number of a list of words, the lowest one first. -/
def leN : List Nat → Nat
  | [] => 0
  | x :: r => x + 18446744073709551616 * leN r
/-- All are words of 64 bits. -/
def Wds (xs : List Nat) : Prop := ∀ x ∈ xs, x < 18446744073709551616
theorem Wds.head {x : Nat} {r : List Nat} (h : Wds (x :: r)) : x < 18446744073709551616 := h x (by simp)
theorem Wds.tail {x : Nat} {r : List Nat} (h : Wds (x :: r)) : Wds r := fun y hy => h y (by simp [hy])
theorem Wds.get {xs : List Nat} (h : Wds xs) (i : Nat) : xs.getD i 0 < 18446744073709551616 := by
  rw [List.getD_eq_getElem?_getD]
  by_cases hi : i < xs.length
  · rw [List.getElem?_eq_getElem hi]; exact h _ (List.getElem_mem hi)
  · rw [List.getElem?_eq_none (by omega)]; decide
/-- The words of a number: its own form. -/
def wordsOf (n : Nat) : List Nat := if n = 0 then [] else n % 18446744073709551616 :: wordsOf (n / 18446744073709551616)
  termination_by n
  decreasing_by omega
theorem wordsOf_zero : wordsOf 0 = [] := by unfold wordsOf; simp
theorem wordsOf_pos {n : Nat} (h : n ≠ 0) : wordsOf n = n % 18446744073709551616 :: wordsOf (n / 18446744073709551616) := by rw [wordsOf, if_neg h]
theorem wordsOf_facts (n : Nat) : leN (wordsOf n) = n ∧ Wds (wordsOf n) := by
  induction n using Nat.strongRecOn with
  | _ n ih =>
    by_cases h : n = 0
    · subst h; rw [wordsOf_zero]; exact ⟨rfl, fun x hx => by cases hx⟩
    · rw [wordsOf_pos h]
      obtain ⟨a, b⟩ := ih (n / 18446744073709551616) (by omega)
      refine ⟨by simp only [leN, a]; omega, fun x hx => ?_⟩
      rcases List.mem_cons.1 hx with rfl | hx
      · omega
      · exact b x hx
theorem leN_wordsOf (n : Nat) : leN (wordsOf n) = n := (wordsOf_facts n).1
theorem wds_wordsOf (n : Nat) : Wds (wordsOf n) := (wordsOf_facts n).2
theorem wordsOf_len (k : Nat) : ∀ {n : Nat}, n < 2 ^ (64 * k) → (wordsOf n).length ≤ k := by
  induction k with
  | zero => intro n h; have : n = 0 := by simpa using h
            subst this; rw [wordsOf_zero]; simp
  | succ k ih =>
    intro n h
    by_cases hn : n = 0
    · subst hn; rw [wordsOf_zero]; simp
    · rw [wordsOf_pos hn, List.length_cons]
      have : n / 18446744073709551616 < 2 ^ (64 * k) := by
        rw [Nat.div_lt_iff_lt_mul (by decide), show (18446744073709551616 : Nat) = 2 ^ 64 from rfl, ← Nat.pow_add, show 64 * k + 64 = 64 * (k + 1) from by omega]; exact h
      have := ih this
      omega
theorem leN_cons (x : Nat) (r : List Nat) : leN (x :: r) = x + 18446744073709551616 * leN r := rfl
theorem leN_zero {xs : List Nat} (h : ∀ i, xs.getD i 0 = 0) : leN xs = 0 := by
  induction xs with
  | nil => rfl
  | cons x r ih =>
    have h0 := h 0
    have := ih (fun i => by have := h (i + 1); simpa using this)
    simp at h0
    rw [leN_cons, this, h0]
/-- The first n words of a list, where all behind are 0 and the last of them isn't, are the own form. -/
theorem take_own : ∀ (xs : List Nat) (n : Nat), Wds xs → n ≤ xs.length → (∀ i, n ≤ i → xs.getD i 0 = 0) → (n = 0 ∨ xs.getD (n - 1) 0 ≠ 0) → xs.take n = wordsOf (leN xs)
  | xs, 0, _, _, hz, _ => by rw [leN_zero (fun i => hz i (Nat.zero_le _)), wordsOf_zero, List.take_zero]
  | [], n + 1, _, hl, _, _ => by simp at hl
  | x :: r, n + 1, hw, hl, hz, hn => by
    have hx := hw.head
    have hne : (x :: r).getD n 0 ≠ 0 := by
      rcases hn with h | h
      · omega
      · simpa using h
    have ih := take_own r n hw.tail (by simpa using hl) (fun i hi => by have := hz (i + 1) (by omega); simpa using this) (by
      cases n with
      | zero => exact .inl rfl
      | succ n => right; simpa using hne)
    have nz : x + 18446744073709551616 * leN r ≠ 0 := by
      intro e
      have e1 : x = 0 := by omega
      have e2 : leN r = 0 := by omega
      rw [e2, wordsOf_zero] at ih
      cases n with
      | zero => exact hne (by simp [e1])
      | succ n =>
        have := congrArg List.length ih
        simp only [List.length_take, List.length_nil, List.length_cons] at this hl
        omega
    rw [leN_cons, wordsOf_pos nz, List.take_succ_cons, show (x + 18446744073709551616 * leN r) % 18446744073709551616 = x from by omega, show (x + 18446744073709551616 * leN r) / 18446744073709551616 = leN r from by omega, ih]
theorem bit_leN : ∀ (xs : List Nat) (k : Nat), Wds xs → (leN xs).testBit k = (xs.getD (k / 64) 0).testBit (k % 64)
  | [], k, _ => by simp [leN]
  | x :: r, k, hw => by
    have h := Nat.testBit_two_pow_mul_add (leN r) (b := x) (i := 64) hw.head k
    rw [leN_cons, Nat.add_comm, show (18446744073709551616 : Nat) = 2 ^ 64 from rfl, h]
    by_cases hk : k < 64
    · rw [if_pos hk, show k / 64 = 0 from by omega, show k % 64 = k from by omega]; rfl
    · rw [if_neg hk, bit_leN r (k - 64) hw.tail, show k / 64 = (k - 64) / 64 + 1 from by omega, show (k - 64) % 64 = k % 64 from by omega]; simp
theorem leN_lt : ∀ (xs : List Nat), Wds xs → leN xs < 2 ^ (64 * xs.length)
  | [], _ => by simp [leN]
  | x :: r, hw => by
    have := leN_lt r hw.tail
    have hx := hw.head
    rw [leN_cons, List.length_cons, show 64 * (r.length + 1) = 64 * r.length + 64 from by omega, Nat.pow_add, show (2 : Nat) ^ 64 = 18446744073709551616 from rfl]
    omega
theorem bit_word {x : Nat} (hx : x < 18446744073709551616) {i : Nat} (hi : 64 ≤ i) : x.testBit i = false :=
  Nat.testBit_lt_two_pow (Nat.lt_of_lt_of_le hx (by rw [show (18446744073709551616 : Nat) = 2 ^ 64 from rfl]; exact Nat.pow_le_pow_right (by decide) hi))
theorem bit_shift (v n i : Nat) : (v * 2 ^ n).testBit i = (decide (n ≤ i) && v.testBit (i - n)) := by
  rw [Nat.mul_comm, Nat.testBit_two_pow_mul]
theorem getD_set (ps : List Nat) (k v i : Nat) (hk : k < ps.length) : (ps.set k v).getD i 0 = if i = k then v else ps.getD i 0 := by
  simp only [List.getD_eq_getElem?_getD, List.getElem?_set]
  by_cases h : i = k
  · subst h; simp [hk]
  · rw [if_neg (fun e => h e.symm), if_neg h]
theorem Wds.set {ps : List Nat} (h : Wds ps) (k v : Nat) (hv : v < 18446744073709551616) : Wds (ps.set k v) := by
  intro x hx
  rcases List.mem_or_eq_of_mem_set hx with h1 | h1
  · exact h x h1
  · rw [h1]; exact hv
theorem word_xor {a b : Nat} (ha : a < 18446744073709551616) (hb : b < 18446744073709551616) : a ^^^ b < 18446744073709551616 := Nat.xor_lt_two_pow (n := 64) ha hb
/-- A word that is added to one of a list. -/
theorem leN_set_xor (ps : List Nat) (k v : Nat) (hw : Wds ps) (hk : k < ps.length) (hv : v < 18446744073709551616) : leN (ps.set k (ps.getD k 0 ^^^ v)) = leN ps ^^^ v * 2 ^ (64 * k) := by
  refine Nat.eq_of_testBit_eq (fun i => ?_)
  rw [bit_leN _ _ (hw.set k _ (word_xor (hw.get k) hv)), Nat.testBit_xor, bit_leN _ _ hw, bit_shift, getD_set _ _ _ _ hk]
  by_cases h : i / 64 = k
  · rw [if_pos h, Nat.testBit_xor, ← h, show i - 64 * (i / 64) = i % 64 from by omega, show decide (64 * (i / 64) ≤ i) = true from by simp; omega]; simp
  · rw [if_neg h]
    by_cases h2 : 64 * k ≤ i
    · rw [bit_word hv (by omega)]; simp
    · simp [h2]
theorem leN_take_succ (xs : List Nat) (k : Nat) (hw : Wds xs) : leN (xs.take (k + 1)) = leN (xs.take k) ^^^ xs.getD k 0 * 2 ^ (64 * k) := by
  have ht : ∀ n, Wds (xs.take n) := fun n x hx => hw x (List.mem_of_mem_take hx)
  refine Nat.eq_of_testBit_eq (fun i => ?_)
  rw [Nat.testBit_xor, bit_leN _ _ (ht _), bit_leN _ _ (ht _), bit_shift]
  simp only [List.getD_eq_getElem?_getD, List.getElem?_take]
  by_cases h : i / 64 = k
  · rw [if_pos (by omega), if_neg (by omega), ← h, show i - 64 * (i / 64) = i % 64 from by omega, show decide (64 * (i / 64) ≤ i) = true from by simp; omega]; simp
  · have e : (decide (64 * k ≤ i) && ((xs[k]?.getD 0).testBit (i - 64 * k))) = false := by
      by_cases h2 : 64 * k ≤ i
      · have := bit_word (hw.get k) (i := i - 64 * k) (by omega)
        rw [List.getD_eq_getElem?_getD] at this
        rw [this]; simp
      · simp [h2]
    rw [e]
    by_cases h3 : i / 64 < k
    · rw [if_pos (by omega), if_pos h3]; simp
    · rw [if_neg (by omega), if_neg h3]; simp
theorem leN_take_all (xs : List Nat) (n : Nat) (h : ∀ i, n ≤ i → xs.getD i 0 = 0) (hw : Wds xs) : leN (xs.take n) = leN xs := by
  have ht : ∀ n, Wds (xs.take n) := fun n x hx => hw x (List.mem_of_mem_take hx)
  refine Nat.eq_of_testBit_eq (fun i => ?_)
  rw [bit_leN _ _ (ht _), bit_leN _ _ hw]
  by_cases h3 : i / 64 < n
  · simp only [List.getD_eq_getElem?_getD, List.getElem?_take]; rw [if_pos h3]
  · rw [h _ (by omega)]; simp only [List.getD_eq_getElem?_getD, List.getElem?_take]; rw [if_neg h3]; simp
/-- A list that holds the sums of the words of two. -/
theorem leN_sum (ps xs ys : List Nat) (hp : Wds ps) (hx : Wds xs) (hy : Wds ys) (h : ∀ i, ps.getD i 0 = xs.getD i 0 ^^^ ys.getD i 0) : leN ps = leN xs ^^^ leN ys := by
  refine Nat.eq_of_testBit_eq (fun i => ?_)
  rw [Nat.testBit_xor, bit_leN _ _ hp, bit_leN _ _ hx, bit_leN _ _ hy, h, Nat.testBit_xor]
/-- A word of what goes up: s bits. -/
def upW (s x y : Nat) : Nat := x * 2 ^ s % 18446744073709551616 ||| y / 2 ^ (64 - s)
theorem upW_lt (s x y : Nat) (hy : y < 18446744073709551616) : upW s x y < 18446744073709551616 := by
  unfold upW
  exact Nat.or_lt_two_pow (n := 64) (Nat.mod_lt _ (by decide)) (Nat.lt_of_le_of_lt (Nat.div_le_self _ _) hy)
theorem leN_up (ps xs : List Nat) (q s : Nat) (hs : s < 64) (hp : Wds ps) (hx : Wds xs)
    (h : ∀ i, ps.getD i 0 = if i < q then 0 else upW s (xs.getD (i - q) 0) (if i = q then 0 else xs.getD (i - q - 1) 0)) : leN ps = leN xs * 2 ^ (64 * q + s) := by
  refine Nat.eq_of_testBit_eq (fun i => ?_)
  rw [bit_shift, bit_leN _ _ hp, bit_leN _ _ hx, h]
  by_cases h1 : i / 64 < q
  · rw [if_pos h1, show decide (64 * q + s ≤ i) = false from by simp; omega]; simp
  · rw [if_neg h1]
    unfold upW
    have e64 : (18446744073709551616 : Nat) = 2 ^ 64 := rfl
    rw [Nat.testBit_or, Nat.testBit_div_two_pow, e64, Nat.testBit_mod_two_pow, bit_shift]
    have d1 : decide (i % 64 < 64) = true := by simp; omega
    rw [d1, Bool.true_and]
    by_cases h2 : s ≤ i % 64
    · have b2 : ∀ y, y < 18446744073709551616 → y.testBit (i % 64 + (64 - s)) = false := fun y hy => bit_word hy (by omega)
      rw [b2 _ (by split; decide; exact hx.get _), Bool.or_false, show decide (s ≤ i % 64) = true from by simpa using h2, Bool.true_and, show decide (64 * q + s ≤ i) = true from by simp; omega, Bool.true_and, show (i - (64 * q + s)) / 64 = i / 64 - q from by omega, show (i - (64 * q + s)) % 64 = i % 64 - s from by omega]
    · rw [show decide (s ≤ i % 64) = false from by simpa using h2, Bool.false_and, Bool.false_or]
      by_cases h3 : i / 64 = q
      · rw [if_pos h3, show decide (64 * q + s ≤ i) = false from by simp; omega]; simp
      · rw [if_neg h3, show decide (64 * q + s ≤ i) = true from by simp; omega, Bool.true_and, show (i - (64 * q + s)) / 64 = i / 64 - q - 1 from by omega, show (i - (64 * q + s)) % 64 = i % 64 + (64 - s) from by omega]
theorem leN_inj {xs ys : List Nat} (hx : Wds xs) (hy : Wds ys) (h : leN xs = leN ys) (i : Nat) : xs.getD i 0 = ys.getD i 0 := by
  refine Nat.eq_of_testBit_eq (fun t => ?_)
  by_cases ht : t < 64
  · have a := bit_leN xs (64 * i + t) hx
    have b := bit_leN ys (64 * i + t) hy
    rw [h, b, show (64 * i + t) / 64 = i from by omega, show (64 * i + t) % 64 = t from by omega] at a
    exact a.symm
  · rw [bit_word (hx.get i) (by omega), bit_word (hy.get i) (by omega)]
/-- The product of two words, part by part: after i parts. -/
theorem parts_step (a b i : Nat) : clm a (b % 2 ^ (i + 1)) = if b.testBit i then clm a (b % 2 ^ i) ^^^ a * 2 ^ i else clm a (b % 2 ^ i) := by
  have e : b % 2 ^ (i + 1) = b % 2 ^ i ^^^ (if b.testBit i then 2 ^ i else 0) := by
    refine Nat.eq_of_testBit_eq (fun j => ?_)
    rw [Nat.testBit_xor, Nat.testBit_mod_two_pow, Nat.testBit_mod_two_pow]
    by_cases hj : j = i
    · subst hj
      by_cases hb : b.testBit j <;> simp [hb, Nat.testBit_two_pow_self]
    · have : (if b.testBit i then 2 ^ i else 0 : Nat).testBit j = false := by
        split
        · exact Nat.testBit_two_pow_of_ne (fun e => hj e.symm)
        · simp
      rw [this]
      by_cases h2 : j < i
      · simp [h2, show j < i + 1 from by omega]
      · simp [h2, show ¬ j < i + 1 from by omega]
  rw [e]
  split
  · rw [clm_xor, clm_pow]
  · rw [Nat.xor_zero]
theorem div_shift (a n m : Nat) (h : n ≤ m) : a * 2 ^ n / 2 ^ m = a / 2 ^ (m - n) := by
  have : (2 : Nat) ^ m = 2 ^ n * 2 ^ (m - n) := by rw [← Nat.pow_add]; congr 1; omega
  rw [this, ← Nat.div_div_eq_div_mul, Nat.mul_div_cancel _ (Nat.two_pow_pos n)]
theorem xor_div (a b n : Nat) : (a ^^^ b) / 2 ^ n = a / 2 ^ n ^^^ b / 2 ^ n := by
  have := Nat.shiftRight_xor_distrib (a := a) (b := b) (i := n)
  simpa only [Nat.shiftRight_eq_div_pow] using this
theorem xor_mod (a b n : Nat) : (a ^^^ b) % 2 ^ n = a % 2 ^ n ^^^ b % 2 ^ n := by
  refine Nat.eq_of_testBit_eq (fun j => ?_)
  simp only [Nat.testBit_xor, Nat.testBit_mod_two_pow]
  by_cases h : j < n <;> simp [h]
end Go.Proofs.YtemgoikghaiamaaDoor.G
/-
  What the calls word, size and Words of package gfp answer: a word of a list, how many words the own form has, and the product of two words, for all lists of words.
-/
namespace Go.Proofs.YtemgoikghaiamaaDoor
open Go.RowKit G
set_option linter.unusedVariables false

/-- A slice (its address, its capacity) that holds these words. -/
structure Pol (w : World) (A : Option Addr) (cap : Nat) (xs : List Nat) : Prop where
  word : Wds xs
  cap1 : xs.length ≤ cap
  cap2 : cap ≤ 9223372036854775807
  cell : ∀ i, i < xs.length → ∃ b o, A = some ⟨b, o, none⟩ ∧ w.cell? ⟨b, o + i, none⟩ = some (.int .u64 ((xs.getD i 0 : Nat) : Int))
theorem Pol.below {w w' : World} {A : Option Addr} {cap : Nat} {xs : List Nat} (h : Pol w A cap xs) (hb : Below w.heap.size w w') : Pol w' A cap xs :=
  ⟨h.word, h.cap1, h.cap2, fun i hi => by
    obtain ⟨b, o, e, hc⟩ := h.cell i hi
    exact ⟨b, o, e, (hb.cell (p := ⟨b, o + i, none⟩) (World.block_lt_of_cell? w _ hc)).trans hc⟩⟩
theorem Pol.nil (w : World) (A : Option Addr) (cap : Nat) (h : cap ≤ 9223372036854775807) : Pol w A cap [] := ⟨fun x hx => (by cases hx), Nat.zero_le _, h, fun i hi => (by cases hi)⟩
theorem below_then {w W w' : World} (h : Below w.heap.size w W) (hb : Below W.heap.size W w') : Below w.heap.size w w' := h.trans (hb.mono h.size)
theorem below_drewN {w : World} (n : Nat) : Below w.heap.size w (w.drewN n) := ⟨rfl, rfl, rfl, Nat.le_refl _, fun _ _ => rfl⟩
theorem below_drewN' {B : Nat} {a w : World} (h : Below B a w) (n : Nat) : Below B a (w.drewN n) := ⟨h.os, h.tape, h.output, h.size, h.block⟩
theorem below_alloc {w W : World} (h : Below w.heap.size w W) (o : Obj) : Below w.heap.size w (W.alloc o) := h.alloc h.size o

set_option maxHeartbeats 400000 in
theorem wordIn (b o n cap k x : Nat) (hk : k < n) (hn : n ≤ 9223372036854775807) (w : World) (hc : w.cell? ⟨b, o + k, none⟩ = some (.int .u64 (x : Int))) :
    Calls Tryd.prog 49 #[.slice (some ⟨b, o, none⟩) n cap, .int .i64 k] w (fun e w' => e = .returned (.int .u64 (x : Int)) ∧ w = w') := by
  have k0 : (0 : Int) ≤ (k : Int) := by omega
  have k1 : (k : Int) < (n : Int) := by omega
  go_enter Tryd.func49, Tryd.ntmps49
  go_wp2
  go_ret
  exact ⟨rfl, rfl⟩
set_option maxHeartbeats 400000 in
theorem wordOut (A : Option Addr) (n cap k : Nat) (hk : n ≤ k) (w : World) :
    Calls Tryd.prog 49 #[.slice A n cap, .int .i64 k] w (fun e w' => e = .returned (.int .u64 0) ∧ w = w') := by
  have k0 : ¬ ((k : Int) < 0) := by omega
  have k1 : decide (n ≤ k) = true := by simpa using hk
  go_enter Tryd.func49, Tryd.ntmps49
  go_wp2
  go_ret
  exact ⟨rfl, rfl⟩
set_option maxHeartbeats 400000 in
theorem wordNeg (A : Option Addr) (n cap : Nat) (i : Int) (hk : i < 0) (w : World) :
    Calls Tryd.prog 49 #[.slice A n cap, .int .i64 i] w (fun e w' => e = .returned (.int .u64 0) ∧ w = w') := by
  go_enter Tryd.func49, Tryd.ntmps49
  go_wp2
  go_ret
  exact ⟨rfl, rfl⟩
theorem cWord (A : Option Addr) (cap : Nat) (xs : List Nat) (k : Nat) (x : Nat) (hx : xs.getD k 0 = x) (w : World) (h : Pol w A cap xs) :
    Calls Tryd.prog 49 #[.slice A xs.length cap, .int .i64 k] w (fun e w' => e = .returned (.int .u64 (x : Int)) ∧ w = w') := by
  subst hx
  by_cases hk : k < xs.length
  · obtain ⟨b, o, rfl, hc⟩ := h.cell k hk
    exact wordIn b o _ cap k _ hk (Nat.le_trans h.cap1 h.cap2) w hc
  · rw [List.getD_eq_getElem?_getD, List.getElem?_eq_none (by omega)]
    exact wordOut A _ cap k (by omega) w

/-- How many words the own form has. -/
def sz (n : Nat) : Nat := (wordsOf n).length
set_option maxHeartbeats 1000000 in
theorem cSize (A : Option Addr) (cap : Nat) (xs : List Nat) (N : Nat) (hN : leN xs = N) (w : World) (h : Pol w A cap xs) :
    Calls Tryd.prog 51 #[.slice A xs.length cap] w (fun e w' => e = .returned (.int .i64 ((sz N : Nat) : Int)) ∧ w = w') := by
  have hl : xs.length ≤ 9223372036854775807 := Nat.le_trans h.cap1 h.cap2
  have H := Lib.hid h
  clear h
  have HN := Lib.hid hN
  clear hN
  go_enter Tryd.func51, Tryd.ntmps51
  go_wp2
  go_loop [3] (fun i => ∃ k : Nat, k ≤ xs.length ∧ i = .int .i64 k ∧ Hid (∀ j, k ≤ j → xs.getD j 0 = 0)) (fun i => (intOf i).toNat)
  case atStart => exact ⟨xs.length, Nat.le_refl _, rfl, Lib.hid (fun j hj => by rw [List.getD_eq_getElem?_getD, List.getElem?_eq_none hj]; rfl)⟩
  case round =>
    obtain ⟨k, hk, rfl, hz⟩ := hrel
    by_cases h0 : k = 0
    · subst h0
      have e : sz N = 0 := by
        have := take_own xs 0 H.out.word (Nat.zero_le _) hz.out (.inl rfl)
        rw [HN.out] at this
        simp only [sz, ← this, List.take_zero, List.length_nil]
      have E := Lib.hid e
      clear e
      go_wp2
      go_ret
      exact ⟨by rw [E.out]; rfl, rfl⟩
    · obtain ⟨j, rfl⟩ : ∃ j, k = j + 1 := ⟨k - 1, by omega⟩
      obtain ⟨b, o, rfl, hc⟩ := H.out.cell j (by omega)
      have j1 : (0 : Int) < ((j + 1 : Nat) : Int) := by omega
      have j2 : (((j + 1 : Nat) : Int) - 1) = (j : Int) := by omega
      have j3 : (j : Int) < (xs.length : Int) := by omega
      have j4 : (0 : Int) ≤ (j : Int) := by omega
      by_cases hx : xs.getD j 0 = 0
      · rw [hx] at hc
        have HX := Lib.hid hx
        clear hx
        go_wp2
        go_round
        case rel => exact ⟨j, by omega, rfl, Lib.hid (fun i hi => by
          by_cases e : i = j
          · rw [e]; exact HX.out
          · exact hz.out i (by omega))⟩
        case measure => simp [intOf]
      · have e : sz N = j + 1 := by
          have := take_own xs (j + 1) H.out.word hk hz.out (.inr (by simpa using hx))
          rw [HN.out] at this
          simp only [sz, ← this, List.length_take]
          omega
        generalize xs.getD j 0 = x at hc hx
        have hx' : (x == 0) = false := by simpa using hx
        have hx2 : ((x : Int) == 0) = false := by
          have : (x : Int) ≠ 0 := by omega
          simpa using this
        have E := Lib.hid e
        clear e
        go_wp2
        go_ret
        exact ⟨by rw [E.out]; rfl, rfl⟩
end Go.Proofs.YtemgoikghaiamaaDoor
/-
  What the call Words of package gfp answers: the product of two words, its high word and its low one, for all words.
-/
namespace Go.Proofs.YtemgoikghaiamaaDoor
open Go.RowKit G
set_option linter.unusedVariables false

theorem and1 (r : Nat) (h : r < 18446744073709551616) : bits .and .u64 (r : Int) 1 = ((r % 2 : Nat) : Int) := by
  have := u64_and_nat r 1 h (by decide)
  rw [Nat.and_one_is_mod] at this
  exact this
theorem div_int (b k : Nat) : (b : Int) / 2 ^ k = ((b / 2 ^ k : Nat) : Int) := by rw [Int.natCast_ediv, Int.natCast_pow]; rfl
theorem mul_int (b k : Nat) : (b : Int) * 2 ^ k = ((b * 2 ^ k : Nat) : Int) := by rw [Int.natCast_mul, Int.natCast_pow]; rfl
theorem xor_int (x y : Nat) (hx : x < 18446744073709551616) (hy : y < 18446744073709551616) : bits .xor .u64 (x : Int) (y : Int) = ((x ^^^ y : Nat) : Int) := u64_xor_nat x y hx hy
theorem wrap_nat (n : Nat) : IntKind.u64.wrap (n : Int) = ((n % 18446744073709551616 : Nat) : Int) := by simp [IntKind.wrap, IntKind.bits, IntKind.signed]
theorem bit_mod (b k : Nat) : b.testBit k = decide (b / 2 ^ k % 2 = 1) := Nat.testBit_eq_decide_div_mod_eq

theorem words_same (a b k : Nat) (h : b / 2 ^ k % 2 = 0) : clm a (b % 2 ^ (k + 1)) = clm a (b % 2 ^ k) := by
  rw [parts_step, bit_mod, h]; simp
theorem words_more (a b k : Nat) (h : ¬ b / 2 ^ k % 2 = 0) (hk : k < 64) : clm a (b % 2 ^ (k + 1)) / 18446744073709551616 = clm a (b % 2 ^ k) / 18446744073709551616 ^^^ a / 2 ^ (64 - k) ∧
    clm a (b % 2 ^ (k + 1)) % 18446744073709551616 = clm a (b % 2 ^ k) % 18446744073709551616 ^^^ a * 2 ^ k % 18446744073709551616 := by
  have e : b.testBit k = true := by rw [bit_mod]; simp; omega
  rw [parts_step, if_pos e, show (18446744073709551616 : Nat) = 2 ^ 64 from rfl]
  exact ⟨by rw [xor_div, div_shift _ _ _ (by omega)], xor_mod _ _ _⟩

set_option maxHeartbeats 1000000 in
theorem cWords (a b : Nat) (ha : a < 18446744073709551616) (hb : b < 18446744073709551616) (w : World) :
    Calls Tryd.prog 68 #[.int .u64 a, .int .u64 b] w (fun e w' => e = .returned (.tuple #[.int .u64 ((clm a b / 18446744073709551616 : Nat) : Int), .int .u64 ((clm a b % 18446744073709551616 : Nat) : Int)]) ∧ w = w') := by
  go_enter Tryd.func68, Tryd.ntmps68
  go_wp2
  go_step3
  go_wp2
  go_step3
  go_wp2
  go_loopg [6, 7, 8] 64 (fun g h l i wr => ∃ k x y : Nat, k + g = 64 ∧ i = .int .i64 k ∧ h = .int .u64 (x : Int) ∧ l = .int .u64 (y : Int) ∧ x < 18446744073709551616 ∧ y < 18446744073709551616 ∧ Hid (x = clm a (b % 2 ^ k) / 18446744073709551616 ∧ y = clm a (b % 2 ^ k) % 18446744073709551616) ∧ wr = w)
  case atStart => exact ⟨0, 0, 0, by omega, rfl, rfl, rfl, by decide, by decide, Lib.hid (by simp [Nat.mod_one, clm_zero]), rfl⟩
  case round =>
    obtain ⟨k, x, y, hk, rfl, rfl, rfl, hx, hy, HV, rfl⟩ := hrel
    have hr : b / 2 ^ k < 18446744073709551616 := Nat.lt_of_le_of_lt (Nat.div_le_self _ _) hb
    by_cases h0 : b / 2 ^ k = 0
    · have t0 : ((b : Int) / 2 ^ k == 0) = true := by rw [div_int, h0]; rfl
      have e : b % 2 ^ k = b := Nat.mod_eq_of_lt (by
        rcases Nat.lt_or_ge b (2 ^ k) with h | h
        · exact h
        · have := Nat.div_pos h (Nat.two_pow_pos k); omega)
      have E := Lib.hid e
      clear e h0 hr
      go_wp2
      rw [Exit.noGoto_ret]
      go_ret2
      obtain ⟨e1, e2⟩ := HV.out
      rw [E.out] at e1 e2
      exact ⟨by rw [← e1, ← e2]; rfl, rfl⟩
    · have hk64 : k < 64 := by
        rcases Nat.lt_or_ge k 64 with h | h
        · exact h
        · exfalso
          obtain rfl : k = 64 := by omega
          exact h0 (Nat.div_eq_of_lt hb)
      have t0 : ((b : Int) / 2 ^ k == 0) = false := by
        have : ((b / 2 ^ k : Nat) : Int) ≠ 0 := by omega
        rw [div_int]; simpa using this
      by_cases h1 : b / 2 ^ k % 2 = 0
      · have t1 : (bits .and .u64 ((b : Int) / 2 ^ k) 1 == 0) = true := by rw [div_int, and1 _ hr, h1]; rfl
        have H1 := Lib.hid h1
        clear h1 h0 hr
        go_wp2
        go_roundg (gk - 1)
        case measure => omega
        case rel => exact ⟨k + 1, x, y, by omega, by go_num, rfl, rfl, hx, hy, Lib.hid (by rw [words_same a b k H1.out]; exact HV.out), rfl⟩
      · have t1 : (bits .and .u64 ((b : Int) / 2 ^ k) 1 == 0) = false := by
          have : ((b / 2 ^ k % 2 : Nat) : Int) ≠ 0 := by omega
          rw [div_int, and1 _ hr]; simpa using this
        have H1 := Lib.hid h1
        clear h1 h0 hr
        have g1 : a / 2 ^ (64 - k) < 18446744073709551616 := Nat.lt_of_le_of_lt (Nat.div_le_self _ _) ha
        have g2 : a * 2 ^ k % 18446744073709551616 < 18446744073709551616 := Nat.mod_lt _ (by decide)
        go_wp2
        go_roundg (gk - 1)
        case measure => omega
        case rel =>
          obtain ⟨e1, e2⟩ := HV.out
          obtain ⟨m1, m2⟩ := words_more a b k H1.out hk64
          refine ⟨k + 1, x ^^^ a / 2 ^ (64 - k), y ^^^ a * 2 ^ k % 18446744073709551616, by omega, by go_num, ?_, ?_, word_xor hx g1, word_xor hy g2, Lib.hid ⟨?_, ?_⟩, rfl⟩
          · rw [div_int, xor_int _ _ hx g1]
          · show Value.int .u64 _ = _
            rw [mul_int, wrap_nat, xor_int _ _ hy g2]
          · rw [m1, e1]
          · rw [m2, e2]
end Go.Proofs.YtemgoikghaiamaaDoor
/-
  What the calls Own, Deg, Bit and Same of package gfp answer, for all lists of words (of up to 100000).
-/
namespace Go.Proofs.YtemgoikghaiamaaDoor
open Go.RowKit G
set_option linter.unusedVariables false

/-- An answer that is a polynomial in its own form, in a list of its own. -/
def Ans (N : Nat) (w : World) (e : Ending) (w' : World) : Prop :=
  ∃ (A : Option Addr) (cap : Nat), e = .returned (.slice A (wordsOf N).length cap) ∧ Pol w' A cap (wordsOf N) ∧ Below w.heap.size w w'
theorem infoW : (Tryd.prog.info? 22).map (fun i => (i.zero, i.size, i.bytes)) = some (some (.int .u64 0), 1, 8) := by kernel_rfl
theorem own_take (xs : List Nat) (N : Nat) (hw : Wds xs) (h : leN xs = N) : xs.take (sz N) = wordsOf N ∧ sz N ≤ xs.length := by
  have hl : sz N ≤ xs.length := wordsOf_len _ (by rw [← h]; exact leN_lt xs hw)
  refine ⟨List.ext_getElem (by rw [List.length_take]; unfold sz at *; omega) (fun i h1 h2 => ?_), hl⟩
  have e := leN_inj hw (wds_wordsOf N) (by rw [leN_wordsOf]; exact h) i
  rw [List.getElem_take]
  rw [List.length_take] at h1
  simpa [List.getD_eq_getElem?_getD, List.getElem?_eq_getElem (show i < xs.length by omega), List.getElem?_eq_getElem h2] using e
theorem Pol.of_owns {w : World} {base : Nat} {v : Value} {xs : List Nat} (hw : Wds xs) (h : w.ownsRow base 22 1 v xs.length (xs.map fun x : Nat => Value.int .u64 (x : Int))) :
    ∃ A cap, v = .slice A xs.length cap ∧ Pol w A cap xs := by
  obtain ⟨hl, h2⟩ := id h
  rcases h2 with ⟨rfl, hn⟩ | ⟨g, cap, cur, rfl, hg, hh, hc, hm, rest⟩
  · have e : xs = [] := List.eq_nil_of_length_eq_zero hn
    subst e
    exact ⟨none, 0, rfl, Pol.nil _ _ _ (by omega)⟩
  · refine ⟨some ⟨g, 0, none⟩, cap, rfl, hw, hc, hm, fun i hi => ⟨g, 0, rfl, ?_⟩⟩
    have := h.cells (g := g) rfl i (.int .u64 ((xs.getD i 0 : Nat) : Int)) (by simp [List.getElem?_eq_getElem hi])
    rw [Addr.add_lit] at this
    exact this
theorem Pol.news {w : World} {a : Addr} {cap : Nat} {xs : List Nat} (h : Pol w (some a) cap xs) (ys : List Nat) (n : Nat) (e : xs.take n = ys) : ∀ (j : Nat) (u : Value), (ys.map fun x : Nat => Value.int .u64 (x : Int))[j]? = some u → w.cell? (a.add j) = some u := by
  intro j u hu
  rw [List.getElem?_map] at hu
  cases hy : ys[j]? with
  | none => rw [hy] at hu; cases hu
  | some y =>
    rw [hy] at hu
    obtain rfl : Value.int .u64 (y : Int) = u := by simpa using hu
    obtain ⟨hj, hyy⟩ := List.getElem?_eq_some_iff.1 hy
    have hj' : j < xs.length := by rw [← e, List.length_take] at hj; omega
    obtain ⟨b, o, ea, hc⟩ := h.cell j hj'
    obtain rfl : a = ⟨b, o, none⟩ := by simpa using ea
    rw [Addr.add_lit, hc]
    have : ys[j]? = xs[j]? := by rw [← e, List.getElem?_take]; split; rfl; rw [← e, List.length_take] at hj; omega
    rw [hy] at this
    rw [List.getD_eq_getElem?_getD, ← this]; rfl
theorem one_cells (xs : List Nat) : ∀ u ∈ xs.map (fun x : Nat => Value.int .u64 (x : Int)), u.oneCell' = true := by
  intro u hu
  obtain ⟨n, _, rfl⟩ := List.mem_map.1 hu
  rfl
theorem nil_append (c : Nat) (w : World) : (Builtin.append_ #[28, 28] 28 #[.slice none 0 0, .slice none 0 c]).run Tryd.prog w = .ok (.slice none 0 0) w := by
  obtain ⟨i0, hi, hz0, hz1, hz2⟩ := info_parts infoW
  simp [Builtin.append_, run_underlying Tryd.underlying28, sizeOf, typeInfo, hi, Builtin.lenOf, Builtin.firstCells]

set_option maxHeartbeats 1000000 in
theorem ownSome (a : Addr) (cap : Nat) (xs ys : List Nat) (n : Nat) (L : Nat) (hL : xs.length = L) (hn : n ≤ L) (hl : L ≤ 100000) (hy : Hid (xs.take n = ys)) (hyn : Hid (ys.length = n)) (w : World) (h : Pol w (some a) cap xs)
    (size : Calls Tryd.prog 51 #[.slice (some a) L cap] w (fun e w' => e = .returned (.int .i64 (n : Int)) ∧ w = w')) :
    Calls Tryd.prog 44 #[.slice (some a) L cap] w (fun e w' => ∃ v, e = .returned v ∧ w'.ownsRow w.heap.size 22 1 v n (ys.map fun x : Nat => Value.int .u64 (x : Int)) ∧ Below w.heap.size w w') := by
  obtain ⟨i0, hi, hz0, hz1, hz2⟩ := info_parts infoW
  have HI := Lib.hid hi
  have HZ0 := Lib.hid hz0
  have HZ1 := Lib.hid hz1
  have HZ2 := Lib.hid hz2
  clear hi hz0 hz1 hz2
  have hc1 : L ≤ cap := by rw [← hL]; exact h.cap1
  have hc2 := h.cap2
  have H := Lib.hid h
  clear h hL
  have n0 : (0 : Int) ≤ (n : Int) := by omega
  have n1 : (n : Int) ≤ (cap : Int) := by omega
  have SIZE := Lib.hid size
  clear size
  go_enter Tryd.func44, Tryd.ntmps44
  go_wp2_with (first
    | (go_at_call 51; ((with_reducible refine (SIZE.out).mono ?_); rintro e w' ⟨rfl, rfl⟩))
    | (at_builtin; refine wpList_append_own _ rfl _ _ 28 rfl w.heap.size 22 i0 (.int .u64 0) 1 8 Tryd.underlying28 HI.out HZ0.out HZ1.out HZ2.out rfl (by decide) (.slice none 0 0) 0 [] rfl (World.ownsRow_nil _ _ _ _) a n cap (ys.map fun x : Nat => Value.int .u64 (x : Int)) rfl (by rw [List.length_map, hyn.out, Nat.mul_one]) (H.out.news ys n hy.out) (one_cells ys) (by unfold maxLen; omega) (by omega) (Nat.le_refl _) ?_; intro v w1 hown hgrow _; have OWN := Lib.hid hown; have GROW := Lib.hid hgrow; clear hown hgrow))
  go_ret
  refine ⟨v, rfl, by simpa using OWN.out, (Below.refl _ _).grown GROW.out (Nat.le_refl _) (by simp [Value.ownBlock])⟩

set_option maxHeartbeats 1000000 in
theorem ownNone (cap : Nat) (hc : cap ≤ 9223372036854775807) (w : World)
    (size : Calls Tryd.prog 51 #[.slice none 0 cap] w (fun e w' => e = .returned (.int .i64 0) ∧ w = w')) :
    Calls Tryd.prog 44 #[.slice none 0 cap] w (fun e w' => e = .returned (.slice none 0 0) ∧ w = w') := by
  have hap := nil_append cap
  have n1 : (0 : Int) ≤ (cap : Int) := by omega
  have SIZE := Lib.hid size
  clear size
  go_enter Tryd.func44, Tryd.ntmps44
  go_wp2_with (first
    | (go_at_call 51; ((with_reducible refine (SIZE.out).mono ?_); rintro e w' ⟨rfl, rfl⟩)))
  go_ret
  exact ⟨rfl, rfl⟩

theorem cOwn (A : Option Addr) (cap : Nat) (xs : List Nat) (N : Nat) (hN : leN xs = N) (hl : xs.length ≤ 100000) (w : World) (h : Pol w A cap xs) :
    Calls Tryd.prog 44 #[.slice A xs.length cap] w (Ans N w) := by
  obtain ⟨e1, e2⟩ := own_take xs N h.word hN
  have hs := cSize A cap xs N hN w h
  cases A with
  | some a =>
    refine (ownSome a cap xs (wordsOf N) (sz N) xs.length rfl e2 hl (Lib.hid e1) (Lib.hid rfl) w h hs).mono ?_
    rintro e w' ⟨v, rfl, own, hb⟩
    obtain ⟨A, c, rfl, P⟩ := Pol.of_owns (wds_wordsOf N) own
    exact ⟨A, c, rfl, P, hb⟩
  | none =>
    have e0 : xs = [] := by
      cases xs with
      | nil => rfl
      | cons x r => obtain ⟨b, o, e, _⟩ := h.cell 0 (by simp); cases e
    subst e0
    obtain rfl : 0 = N := hN
    have z : sz 0 = 0 := by unfold sz; rw [wordsOf_zero]; rfl
    rw [z] at hs
    refine (ownNone cap h.cap2 w hs).mono ?_
    rintro e w' ⟨rfl, rfl⟩
    refine ⟨none, 0, by rw [wordsOf_zero]; rfl, ?_, Below.refl _ _⟩
    rw [wordsOf_zero]
    exact Pol.nil _ _ _ (by omega)
end Go.Proofs.YtemgoikghaiamaaDoor
/-
  What math/bits.Len64 answers in this program: the library's contract at this program's numbers.
-/
namespace Go.Proofs.YtemgoikghaiamaaDoor
open Go.Shelf G

def ren : Ren := ⟨fun | 129 => 52 | n => n, fun | 53 => 22 | 3 => 3 | 4 => 4 | 46 => 87 | 5 => 5 | 9 => 9 | n => n, fun n => n⟩
theorem lays : Lays.n129 Tryd.prog ren := {
  mixed := by kernel_rfl
  f129 := Tryd.func52.trans (congrArg some (by kernel_rfl))
  t3 := Tryd.underlying3
  a3 := Tryd.isAgg3
  z3 := Tryd.sizeOf3
  v3 := Tryd.zeroValue3
  t4 := Tryd.underlying4
  a4 := Tryd.isAgg4
  z4 := Tryd.sizeOf4
  v4 := Tryd.zeroValue4
  t5 := Tryd.underlying5
  a5 := Tryd.isAgg5
  z5 := Tryd.sizeOf5
  v5 := Tryd.zeroValue5
  t9 := Tryd.underlying9
  a9 := Tryd.isAgg9
  z9 := Tryd.sizeOf9
  v9 := Tryd.zeroValue9
  t46 := Tryd.underlying87
  a46 := Tryd.isAgg87
  z46 := Tryd.sizeOf87
  v46 := Tryd.zeroValue87
  t53 := Tryd.underlying22
  a53 := Tryd.isAgg22
  z53 := Tryd.sizeOf22
  v53 := Tryd.zeroValue22 }
theorem len_half {n : Nat} (h : n ≠ 0) : len n = 1 + len (n / 2) := by
  by_cases h2 : n / 2 = 0
  · obtain rfl : n = 1 := by omega
    rfl
  · have e := len_two h2
    rcases Nat.mod_two_eq_zero_or_one n with m | m
    · rw [show 2 * (n / 2) = n from by omega] at e; omega
    · have : len (2 * (n / 2) + 1) = len (2 * (n / 2)) := by
        rw [odd_xor, len_xor_lt]
        rw [e]
        have := len_pos h2
        show len 1 < _
        have : len 1 = 1 := rfl
        omega
      rw [show 2 * (n / 2) + 1 = n from by omega] at this
      omega
theorem bitLen_len (x : Nat) : x < 2 ^ 64 → Lib.bitLen x = len x := by
  induction x using Nat.strongRecOn with
  | _ x ih =>
    intro hx
    by_cases h : x = 0
    · subst h; rfl
    · rw [Lib.bitLen_half x h hx, len_half h, ih (x / 2) (by omega) (by omega)]
theorem cLen64 (x : Nat) (hx : x < 18446744073709551616) (w : World) :
    Calls Tryd.prog 52 #[.int .u64 (x : Int)] w fun e w' => e = .returned (.int .i64 ((len x : Nat) : Int)) ∧ w = w' :=
  (Any.bits_Len64 { lays with } (x : Int) w (by omega) (by omega)).mono fun _ _ ⟨a, b⟩ => ⟨by rw [a, Int.toNat_natCast, bitLen_len x hx], b.symm⟩
end Go.Proofs.YtemgoikghaiamaaDoor
/-
  What the calls Deg, Bit and Same of package gfp answer, for all lists of words.
-/
namespace Go.Proofs.YtemgoikghaiamaaDoor
open Go.RowKit G
set_option linter.unusedVariables false

theorem ret_int {k : IntKind} {a b : Int} (h : a = b) : Ending.returned (.int k a) = .returned (.int k b) := by rw [h]
theorem wordsOf_last (N : Nat) : N ≠ 0 → (wordsOf N).getD (sz N - 1) 0 ≠ 0 := by
  induction N using Nat.strongRecOn with
  | _ N ih =>
    intro h
    have e : sz N = sz (N / 18446744073709551616) + 1 := by unfold sz; rw [wordsOf_pos h]; rfl
    rw [wordsOf_pos h, e]
    by_cases h2 : N / 18446744073709551616 = 0
    · rw [h2, show sz 0 = 0 from by unfold sz; rw [wordsOf_zero]; rfl]
      simp; omega
    · have := ih _ (by omega) h2
      have p : 0 < sz (N / 18446744073709551616) := by unfold sz; rw [wordsOf_pos h2]; simp
      rw [show sz (N / 18446744073709551616) + 1 - 1 = (sz (N / 18446744073709551616) - 1) + 1 from by omega]
      simpa using this
theorem sz_zero : sz 0 = 0 := by unfold sz; rw [wordsOf_zero]; rfl
theorem deg_top (xs : List Nat) (N m : Nat) (hw : Wds xs) (h : leN xs = N) (hm : sz N = m + 1) : xs.getD m 0 ≠ 0 ∧ len N = 64 * m + len (xs.getD m 0) ∧ m < xs.length := by
  have hN : N ≠ 0 := by intro e; rw [e, sz_zero] at hm; omega
  obtain ⟨e1, e2⟩ := own_take xs N hw h
  have e := leN_inj hw (wds_wordsOf N) (by rw [leN_wordsOf]; exact h)
  have l := wordsOf_last N hN
  rw [hm, Nat.add_sub_cancel, ← e m] at l
  refine ⟨l, ?_, by omega⟩
  have s := leN_take_succ xs m hw
  rw [← hm, e1, leN_wordsOf] at s
  have t : leN (xs.take m) < 2 ^ (64 * m) := by
    have := leN_lt (xs.take m) (fun x hx => hw x (List.mem_of_mem_take hx))
    rwa [List.length_take, Nat.min_eq_left (by omega)] at this
  have t2 := len_le t
  have t3 := len_mul_pow l (64 * m)
  have t4 := len_pos l
  rw [s, Nat.xor_comm, len_xor_lt (by omega), t3]
  omega

set_option maxHeartbeats 1000000 in
theorem degZero (A : Option Addr) (L cap : Nat) (w : World)
    (size : Calls Tryd.prog 51 #[.slice A L cap] w (fun e w' => e = .returned (.int .i64 0) ∧ w = w')) :
    Calls Tryd.prog 29 #[.slice A L cap] w (fun e w' => e = .returned (.int .i64 (-1)) ∧ w = w') := by
  have SIZE := Lib.hid size
  clear size
  go_enter Tryd.func29, Tryd.ntmps29
  go_wp2_with (go_at_call 51; ((with_reducible refine (SIZE.out).mono ?_); rintro e w' ⟨rfl, rfl⟩))
  go_ret
  exact ⟨rfl, rfl⟩
set_option maxHeartbeats 1000000 in
theorem degSome (b o L cap m x : Nat) (hm : m < L) (hL : L ≤ 100000) (hx : x < 18446744073709551616) (lx : len x ≤ 64) (w : World) (hc : w.cell? ⟨b, o + m, none⟩ = some (.int .u64 (x : Int)))
    (size : Calls Tryd.prog 51 #[.slice (some ⟨b, o, none⟩) L cap] w (fun e w' => e = .returned (.int .i64 ((m + 1 : Nat) : Int)) ∧ w = w')) :
    Calls Tryd.prog 29 #[.slice (some ⟨b, o, none⟩) L cap] w (fun e w' => e = .returned (.int .i64 ((64 * m + len x : Nat) - 1 : Int)) ∧ w = w') := by
  have SIZE := Lib.hid size
  clear size
  have j2 : (((m + 1 : Nat) : Int) - 1) = (m : Int) := by omega
  have j3 : (m : Int) < (L : Int) := by omega
  have j4 : (0 : Int) ≤ (m : Int) := by omega
  go_enter Tryd.func29, Tryd.ntmps29
  go_wp2_with (first
    | (go_at_call 51; ((with_reducible refine (SIZE.out).mono ?_); rintro e w' ⟨rfl, rfl⟩))
    | (go_at_call 52; ((with_reducible refine (cLen64 x hx _).mono ?_); rintro e w' ⟨rfl, rfl⟩)))
  go_ret
  refine ⟨?_, rfl⟩
  refine ret_int ?_
  omega
theorem len_word {x : Nat} (h : x < 18446744073709551616) : len x ≤ 64 := len_le (k := 64) h
theorem cDeg (A : Option Addr) (cap : Nat) (xs : List Nat) (N : Nat) (hN : leN xs = N) (hl : xs.length ≤ 100000) (w : World) (h : Pol w A cap xs) :
    Calls Tryd.prog 29 #[.slice A xs.length cap] w (fun e w' => e = .returned (.int .i64 ((len N : Int) - 1)) ∧ w = w') := by
  have hs := cSize A cap xs N hN w h
  by_cases h0 : N = 0
  · subst h0
    rw [sz_zero] at hs
    exact degZero A _ cap w hs
  · obtain ⟨m, hm⟩ : ∃ m, sz N = m + 1 := ⟨sz N - 1, by have : 0 < sz N := by unfold sz; rw [wordsOf_pos h0]; simp
                                                        omega⟩
    obtain ⟨d1, d2, d3⟩ := deg_top xs N m h.word hN hm
    rw [hm] at hs
    obtain ⟨b, o, rfl, hc⟩ := h.cell m d3
    rw [d2]
    exact degSome b o _ cap m _ d3 hl (h.word.get m) (len_word (h.word.get m)) w hc hs

set_option maxHeartbeats 1000000 in
theorem bitNeg (A : Option Addr) (L cap : Nat) (i : Int) (hi : i < 0) (w : World) :
    Calls Tryd.prog 32 #[.slice A L cap, .int .i64 i] w (fun e w' => e = .returned (.int .i64 0) ∧ w = w') := by
  go_enter Tryd.func32, Tryd.ntmps32
  go_wp2
  go_ret
  exact ⟨rfl, rfl⟩
set_option maxHeartbeats 1000000 in
theorem bitIn (A : Option Addr) (L cap k q t x : Nat) (hq : k = 64 * q + t) (ht : t < 64) (hk : k ≤ 9223372036854775807) (hx : x < 18446744073709551616) (w : World)
    (word : Calls Tryd.prog 49 #[.slice A L cap, .int .i64 (q : Int)] w (fun e w' => e = .returned (.int .u64 (x : Int)) ∧ w = w')) :
    Calls Tryd.prog 32 #[.slice A L cap, .int .i64 (k : Int)] w (fun e w' => e = .returned (.int .i64 ((x / 2 ^ t % 2 : Nat) : Int)) ∧ w = w') := by
  have WORD := Lib.hid word
  clear word
  have e1 : (k : Int) / 64 = (q : Int) := by omega
  have e2 : (k : Int) % 64 = (t : Int) := by omega
  have k0 : ¬ ((k : Int) < 0) := by omega
  have g : x / 2 ^ t < 18446744073709551616 := Nat.lt_of_le_of_lt (Nat.div_le_self _ _) hx
  have HQ := Lib.hid hq
  clear hq
  have a1 : bits .and .u64 ((x : Int) / 2 ^ t) 1 = ((x / 2 ^ t % 2 : Nat) : Int) := by rw [div_int]; exact and1 _ g
  generalize hy : x / 2 ^ t % 2 = y at a1
  have hy2 : y < 2 := by omega
  clear hy
  go_enter Tryd.func32, Tryd.ntmps32
  go_wp2_with (go_at_call 49; ((with_reducible refine (WORD.out).mono ?_); rintro e w' ⟨rfl, rfl⟩))
  go_ret
  exact ⟨rfl, rfl⟩
theorem bit_split (xs : List Nat) (N k : Nat) (hw : Wds xs) (h : leN xs = N) : xs.getD (k / 64) 0 / 2 ^ (k % 64) % 2 = N / 2 ^ k % 2 := by
  have := bit_leN xs k hw
  rw [h, bit_mod, bit_mod] at this
  have := decide_eq_decide.1 this
  omega
theorem cBit (A : Option Addr) (cap : Nat) (xs : List Nat) (N k : Nat) (y : Nat) (hN : leN xs = N) (hy : N / 2 ^ k % 2 = y) (hk : k ≤ 9223372036854775807) (w : World) (h : Pol w A cap xs) :
    Calls Tryd.prog 32 #[.slice A xs.length cap, .int .i64 (k : Int)] w (fun e w' => e = .returned (.int .i64 (y : Int)) ∧ w = w') := by
  rw [← hy, ← bit_split xs N k h.word hN]
  exact bitIn A _ cap k (k / 64) (k % 64) _ (by omega) (by omega) hk (h.word.get _) w (cWord A cap xs (k / 64) _ rfl w h)

theorem Pol.take {w : World} {A : Option Addr} {cap : Nat} {xs : List Nat} (h : Pol w A cap xs) (n : Nat) : Pol w A cap (xs.take n) :=
  ⟨fun x hx => h.word x (List.mem_of_mem_take hx), by rw [List.length_take]; have := h.cap1; omega, h.cap2, fun i hi => by
    rw [List.length_take] at hi
    obtain ⟨b, o, e, hc⟩ := h.cell i (by omega)
    refine ⟨b, o, e, hc.trans ?_⟩
    simp only [List.getD_eq_getElem?_getD, List.getElem?_take]; rw [if_pos (by omega)]⟩
theorem Pol.drewN {w : World} {A : Option Addr} {cap : Nat} {xs : List Nat} (h : Pol w A cap xs) (n : Nat) : Pol (w.drewN n) A cap xs := ⟨h.word, h.cap1, h.cap2, h.cell⟩
/-- Are two lists the same? -/
def sameL (us vs : List Nat) : Bool := decide (us = vs)
theorem same_false {us vs : List Nat} {k : Nat} (h : us.getD k 0 ≠ vs.getD k 0) : sameL us vs = false := by
  unfold sameL
  simp only [decide_eq_false_iff_not]
  intro e; exact h (by rw [e])
theorem same_true {us vs : List Nat} (hl : us.length = vs.length) (h : ∀ j, j < us.length → us.getD j 0 = vs.getD j 0) : sameL us vs = true := by
  unfold sameL
  simp only [decide_eq_true_eq]
  refine List.ext_getElem hl (fun i h1 h2 => ?_)
  have := h i h1
  simpa [List.getD_eq_getElem?_getD, List.getElem?_eq_getElem h1, List.getElem?_eq_getElem h2] using this
set_option maxRecDepth 100000 in
set_option maxHeartbeats 1000000 in
theorem equalLen (A B : Option Addr) (ca cb n m : Nat) (hne : n ≠ m) (w : World) :
    Calls Tryd.prog 50 #[.slice A n ca, .slice B m cb] w (fun e w' => e = .returned (.bool false) ∧ ∃ n, w' = w.drewN n) := by
  have h1 : (n != m) = true := by simpa using hne
  have h2 : ((n : Int) != (m : Int)) = true := by simp; omega
  have h3 : (n == m) = false := by simpa using hne
  go_enter Tryd.func50, Tryd.ntmps50
  go_wp2
  go_ret
  exact ⟨rfl, 0, rfl⟩
set_option maxRecDepth 100000 in
set_option maxHeartbeats 1000000 in
theorem equalSame (A B : Option Addr) (ca cb n : Nat) (us vs : List Nat) (hu : us.length = n) (hv : vs.length = n) (hn : n ≤ 100000) (w : World) (P : Pol w A ca us) (Q : Pol w B cb vs) :
    Calls Tryd.prog 50 #[.slice A n ca, .slice B n cb] w (fun e w' => e = .returned (.bool (sameL us vs)) ∧ ∃ n, w' = w.drewN n) := by
  have HP := Lib.hid P
  have HQ := Lib.hid Q
  have HU := Lib.hid hu
  have HV := Lib.hid hv
  clear P Q hu hv
  go_enter Tryd.func50, Tryd.ntmps50
  go_wp2_with fail
  go_loopw [13] (fun i wr => ∃ k q : Nat, k ≤ n ∧ i = .int .i64 k ∧ wr = w.drewN q ∧ Hid (∀ j, j < k → us.getD j 0 = vs.getD j 0)) (fun i _ => n - (intOf i).toNat)
  case atStart => exact ⟨0, 0, by omega, rfl, rfl, Lib.hid (fun j hj => by omega)⟩
  case round =>
    obtain ⟨k, q, hk, rfl, rfl, hs⟩ := hrel
    by_cases hlt : k < n
    · have kl : (k : Int) < (n : Int) := by omega
      have k0 : (0 : Int) ≤ (k : Int) := by omega
      obtain ⟨b, o, rfl, q1⟩ := HP.out.cell k (by rw [HU.out]; exact hlt)
      obtain ⟨b', o', rfl, q2⟩ := HQ.out.cell k (by rw [HV.out]; exact hlt)
      by_cases he : us.getD k 0 = vs.getD k 0
      · rw [← he] at q2
        have HE := Lib.hid he
        clear he
        generalize us.getD k 0 = y at q1 q2
        go_wp2_with fail
        go_quiet (fail)
        go_wp2_with fail
        go_roundw
        case rel => exact ⟨k + 1, _, by omega, by go_num, rfl, Lib.hid (fun j hj => by
          by_cases e : j = k
          · rw [e]; exact HE.out
          · exact hs.out j (by omega))⟩
        case measure => simp [intOf]; omega
      · have E := Lib.hid (same_false he)
        generalize us.getD k 0 = y at q1 he
        generalize vs.getD k 0 = z at q2 he
        have t1 : (y != z) = true := by simpa using he
        have t2 : ((y : Int) != (z : Int)) = true := by simp; omega
        have t3 : (y == z) = false := by simpa using he
        clear he
        go_wp2_with fail
        go_quiet (fail)
        go_wp2_with fail
        go_ret
        exact ⟨by rw [E.out]; rfl, _, World.drewN_drewN _ _ _⟩
    · have kl : ¬ ((k : Int) < (n : Int)) := by omega
      have E := Lib.hid (same_true (us := us) (vs := vs) (HU.out.trans HV.out.symm) (fun j hj => hs.out j (by rw [HU.out] at hj; omega)))
      go_wp2
      go_ret
      exact ⟨by rw [E.out]; rfl, q, rfl⟩
theorem cEqual (A B : Option Addr) (ca cb : Nat) (us vs : List Nat) (hn : us.length ≤ 100000) (w : World) (P : Pol w A ca us) (Q : Pol w B cb vs) :
    Calls Tryd.prog 50 #[.slice A us.length ca, .slice B vs.length cb] w (fun e w' => e = .returned (.bool (sameL us vs)) ∧ ∃ n, w' = w.drewN n) := by
  by_cases h : us.length = vs.length
  · rw [← h]
    exact equalSame A B ca cb _ us vs rfl h.symm hn w P Q
  · have e : sameL us vs = false := by unfold sameL; simp only [decide_eq_false_iff_not]; intro e; exact h (by rw [e])
    rw [e]
    exact equalLen A B ca cb _ _ h w
end Go.Proofs.YtemgoikghaiamaaDoor
/-
  What the calls Same and Add of package gfp answer, for all lists of words (of up to 50000).
-/
namespace Go.Proofs.YtemgoikghaiamaaDoor
open Go.RowKit G
set_option linter.unusedVariables false

/-- Are two numbers the same? -/
def sameN (M N : Nat) : Bool := decide (M = N)
theorem sameN_self (N : Nat) : sameN N N = true := by unfold sameN; simp
theorem sameL_words (M N : Nat) : sameL (wordsOf M) (wordsOf N) = sameN M N := by
  unfold sameL sameN
  refine decide_eq_decide.2 ⟨fun h => ?_, fun h => by rw [h]⟩
  rw [← leN_wordsOf M, ← leN_wordsOf N, h]
set_option maxHeartbeats 1000000 in
theorem sameWalk (A B : Option Addr) (L K n m ca cb : Nat) (r : Bool) (hn : n ≤ L) (hm : m ≤ K) (ha : L ≤ ca) (hb : K ≤ cb) (ha2 : ca ≤ 9223372036854775807) (hb2 : cb ≤ 9223372036854775807) (w : World)
    (s1 : Hid (∀ q, Calls Tryd.prog 51 #[.slice A L ca] (w.drewN q) (fun e w' => e = .returned (.int .i64 (n : Int)) ∧ w' = w.drewN q)))
    (s2 : Hid (∀ q, Calls Tryd.prog 51 #[.slice B K cb] (w.drewN q) (fun e w' => e = .returned (.int .i64 (m : Int)) ∧ w' = w.drewN q)))
    (eq : Hid (∀ q, Calls Tryd.prog 50 #[.slice A n ca, .slice B m cb] (w.drewN q) (fun e w' => e = .returned (.bool r) ∧ ∃ n, w' = (w.drewN q).drewN n))) :
    Calls Tryd.prog 28 #[.slice A L ca, .slice B K cb] w (fun e w' => e = .returned (.bool r) ∧ ∃ n, w' = w.drewN n) := by
  have n0 : (0 : Int) ≤ (n : Int) := by omega
  have n1 : (n : Int) ≤ (ca : Int) := by omega
  have m0 : (0 : Int) ≤ (m : Int) := by omega
  have m1 : (m : Int) ≤ (cb : Int) := by omega
  go_enter Tryd.func28, Tryd.ntmps28
  go_wp2_with fail
  go_quiet (first
    | (go_at_call 51; (with_reducible exact Calls.quiet_of_same (s1.out _)))
    | (go_at_call 51; (with_reducible exact Calls.quiet_of_same (s2.out _)))
    | (go_at_call 50; (with_reducible exact Calls.quiet_of (eq.out _))))
  go_wp2_with fail
  go_ret
  exact ⟨rfl, _, rfl⟩
theorem cSame (A B : Option Addr) (ca cb : Nat) (xs ys : List Nat) (M N : Nat) (hM : leN xs = M) (hN : leN ys = N) (hl : xs.length ≤ 100000) (w : World) (P : Pol w A ca xs) (Q : Pol w B cb ys) :
    Calls Tryd.prog 28 #[.slice A xs.length ca, .slice B ys.length cb] w (fun e w' => e = .returned (.bool (sameN M N)) ∧ ∃ n, w' = w.drewN n) := by
  obtain ⟨e1, e2⟩ := own_take xs M P.word hM
  obtain ⟨f1, f2⟩ := own_take ys N Q.word hN
  refine sameWalk A B _ _ (sz M) (sz N) ca cb _ e2 f2 P.cap1 Q.cap1 P.cap2 Q.cap2 w (Lib.hid fun q => ?_) (Lib.hid fun q => ?_) (Lib.hid fun q => ?_)
  · exact (cSize A ca xs M hM _ (P.drewN q)).mono fun _ _ ⟨a, b⟩ => ⟨a, b.symm⟩
  · exact (cSize B cb ys N hN _ (Q.drewN q)).mono fun _ _ ⟨a, b⟩ => ⟨a, b.symm⟩
  · have p := (P.drewN q).take (sz M)
    have r := (Q.drewN q).take (sz N)
    rw [e1] at p
    rw [f1] at r
    rw [← sameL_words]
    exact cEqual A B ca cb _ _ (by show sz M ≤ _; omega) _ p r

/-- A new row that holds these words. -/
def RowL (w : World) (g : Nat) (ps : List Nat) : Prop := w.rowIs g 22 ps.length (fun i => .int .u64 ((ps.getD i 0 : Nat) : Int))
theorem RowL.set {w : World} {g : Nat} {ps : List Nat} (h : RowL w g ps) (k v : Nat) (hk : k < ps.length) : RowL (w.setCell ⟨g, k, none⟩ (.int .u64 (v : Int))) g (ps.set k v) := by
  unfold RowL at *
  rw [List.length_set]
  refine (World.rowIs.set h k (.int .u64 (v : Int))).congr (fun i hi => ?_)
  show (if i = k then Value.int .u64 (v : Int) else .int .u64 ((ps.getD i 0 : Nat) : Int)) = _
  rw [getD_set _ _ _ _ hk]
  split <;> rfl
theorem RowL.made (w : World) (n : Nat) : RowL (w.alloc (.cells (madeCells #[.int .u64 0] n) 22)) w.heap.size (List.replicate n 0) := by
  unfold RowL
  rw [List.length_replicate]
  refine (World.rowIs_made w (.int .u64 0) n 22).congr (fun i hi => ?_)
  simp [hi]
theorem RowL.pol {w : World} {g : Nat} {ps : List Nat} (h : RowL w g ps) (hw : Wds ps) (hl : ps.length ≤ 9223372036854775807) : Pol w (some ⟨g, 0, none⟩) ps.length ps :=
  ⟨hw, Nat.le_refl _, hl, fun i hi => ⟨g, 0, rfl, by rw [Nat.zero_add]; exact World.rowIs.cell h hi⟩⟩
theorem wds_zero (n : Nat) : Wds (List.replicate n 0) := fun x hx => by rw [(List.mem_replicate.1 hx).2]; decide
theorem getD_zero (n i : Nat) : (List.replicate n 0).getD i 0 = 0 := by
  rw [List.getD_eq_getElem?_getD, List.getElem?_replicate]; split <;> rfl
/-- What a loop that fills a new row keeps. -/
structure Fill (w : World) (g n : Nat) (ps : List Nat) (wr : World) : Prop where
  row : RowL wr g ps
  wds : Wds ps
  len : ps.length = n
  new : w.heap.size ≤ g
  below : Below w.heap.size w wr
theorem Fill.start (w : World) (n : Nat) : Fill w w.heap.size n (List.replicate n 0) (w.alloc (.cells (madeCells #[.int .u64 0] n) 22)) :=
  ⟨RowL.made w n, wds_zero n, List.length_replicate, Nat.le_refl _, below_alloc (Below.refl _ _) _⟩
theorem Fill.set {w : World} {g n : Nat} {ps : List Nat} {wr : World} (h : Fill w g n ps wr) (k v : Nat) (hk : k < n) (hv : v < 18446744073709551616) : Fill w g n (ps.set k v) (wr.setCell ⟨g, k, none⟩ (.int .u64 (v : Int))) :=
  ⟨h.row.set k v (by rw [h.len]; exact hk), h.wds.set k v hv, by rw [List.length_set]; exact h.len, h.new, h.below.setCell h.new _⟩
theorem Fill.cell {w : World} {g n : Nat} {ps : List Nat} {wr : World} (h : Fill w g n ps wr) (k : Nat) (hk : k < n) : wr.cell? ⟨g, k, none⟩ = some (.int .u64 ((ps.getD k 0 : Nat) : Int)) ∧ wr.frozen? ⟨g, k, none⟩ = false :=
  ⟨World.rowIs.cell h.row (by rw [h.len]; exact hk), World.rowIs.frozen h.row k⟩
theorem Fill.pol {w : World} {g n : Nat} {ps : List Nat} {wr : World} (h : Fill w g n ps wr) (hn : n ≤ 9223372036854775807) : Pol wr (some ⟨g, 0, none⟩) n ps := by
  have := h.row.pol h.wds (by rw [h.len]; exact hn)
  rwa [h.len] at this
theorem Pol.far {w wr : World} {A : Option Addr} {cap : Nat} {xs : List Nat} (P : Pol w A cap xs) (hb : Below w.heap.size w wr) : Pol wr A cap xs := P.below hb

set_option maxHeartbeats 1000000 in
theorem addWalk (A B : Option Addr) (ca cb L K n : Nat) (xs ys : List Nat) (hL : Hid (xs.length = L)) (hK : Hid (ys.length = K)) (hn : max L K = n) (bn : n ≤ 100000) (w : World) (P : Hid (Pol w A ca xs)) (Q : Hid (Pol w B cb ys)) (Z : Nat) (hZ : Hid (leN xs ^^^ leN ys = Z)) :
    Calls Tryd.prog 27 #[.slice A L ca, .slice B K cb] w (Ans Z w) := by
  have hmk := run_make_row' (P := Tryd.prog) 28 22 (.int .u64 0) 8 Tryd.underlying28 infoW rfl .i64 .i64 n (by omega) (by omega)
  have em : max (L : Int) (K : Int) = (n : Int) := by omega
  go_enter Tryd.func27, Tryd.ntmps27
  go_wp2
  clear hmk em
  have F0 := Fill.start w n
  have Z0 : Hid (∀ i, (List.replicate n 0).getD i 0 = if i < 0 then xs.getD i 0 ^^^ ys.getD i 0 else 0) := Lib.hid (fun i => by rw [getD_zero]; simp)
  generalize hps : List.replicate n 0 = ps0 at F0 Z0
  clear hps
  go_loopg [21] n (fun g i wr => ∃ (k : Nat) (ps : List Nat), k + g = n ∧ i = .int .i64 k ∧ Hid (∀ i, ps.getD i 0 = if i < k then xs.getD i 0 ^^^ ys.getD i 0 else 0) ∧ Hid (Fill w w.heap.size n ps wr))
  case atStart => exact ⟨0, ps0, by omega, rfl, Z0, Lib.hid F0⟩
  case round =>
    obtain ⟨k, ps, hk, rfl, hp, F⟩ := hrel
    clear F0 Z0
    by_cases hlt : k < n
    · have kl : (k : Int) < (n : Int) := by omega
      have k0 : (0 : Int) ≤ (k : Int) := by omega
      obtain ⟨c1, c2⟩ := F.out.cell k hlt
      have P' := Lib.hid (P.out.far F.out.below)
      have Q' := Lib.hid (Q.out.far F.out.below)
      have hx := P.out.word.get k
      have hy := Q.out.word.get k
      have W1 := cWord A ca xs k _ rfl wr P'.out
      have W2 := cWord B cb ys k _ rfl wr Q'.out
      rw [hL.out] at W1
      rw [hK.out] at W2
      have F1 := Lib.hid (F.out.set k (xs.getD k 0 ^^^ ys.getD k 0) hlt (word_xor hx hy))
      have X1 := xor_int _ _ hx hy
      have H1 := Lib.hid (show ∀ i, (ps.set k (xs.getD k 0 ^^^ ys.getD k 0)).getD i 0 = if i < k + 1 then xs.getD i 0 ^^^ ys.getD i 0 else 0 from fun i => by
        rw [getD_set _ _ _ _ (by rw [F.out.len]; exact hlt), hp.out]
        by_cases e : i = k
        · subst e; rw [if_pos rfl, if_pos (by omega)]
        · rw [if_neg e]
          by_cases e2 : i < k
          · rw [if_pos e2, if_pos (by omega)]
          · rw [if_neg e2, if_neg (by omega)])
      generalize ps.set k (xs.getD k 0 ^^^ ys.getD k 0) = ps' at F1 H1
      generalize xs.getD k 0 = x at W1 hx F1 X1
      generalize ys.getD k 0 = y at W2 hy F1 X1
      generalize x ^^^ y = z at F1 X1
      generalize ps.getD k 0 = p at c1
      have HW1 := Lib.hid W1
      have HW2 := Lib.hid W2
      clear W1 W2
      go_wp2_with (first
        | (go_at_call 49; ((with_reducible refine (HW1.out).mono ?_); rintro e w' ⟨rfl, rfl⟩))
        | (go_at_call 49; ((with_reducible refine (HW2.out).mono ?_); rintro e w' ⟨rfl, rfl⟩)))
      go_roundg (gk - 1)
      case measure => omega
      case rel => exact ⟨k + 1, ps', by omega, by go_num, H1, F1⟩
    · obtain rfl : k = n := by omega
      have hs : leN ps = Z := by
        rw [← hZ.out]
        refine leN_sum ps xs ys F.out.wds P.out.word Q.out.word (fun i => ?_)
        rw [hp.out]
        split
        · rfl
        · rw [List.getD_eq_getElem?_getD, List.getD_eq_getElem?_getD, List.getElem?_eq_none (by rw [hL.out]; omega), List.getElem?_eq_none (by rw [hK.out]; omega)]; rfl
      have O := cOwn (some ⟨w.heap.size, 0, none⟩) k ps Z hs (by rw [F.out.len]; exact bn) wr (F.out.pol (by omega))
      rw [F.out.len] at O
      have HO := Lib.hid O
      clear O hs
      go_wp2_with (go_at_call 44; ((with_reducible refine (HO.out).mono ?_); rintro e w' ⟨A', c', rfl, PA, hb⟩))
      go_ret
      exact ⟨A', c', rfl, PA, below_then F.out.below hb⟩
theorem cAdd (A B : Option Addr) (ca cb : Nat) (xs ys : List Nat) (Z : Nat) (hZ : leN xs ^^^ leN ys = Z) (hl : xs.length ≤ 100000) (hk : ys.length ≤ 100000) (w : World) (P : Pol w A ca xs) (Q : Pol w B cb ys) :
    Calls Tryd.prog 27 #[.slice A xs.length ca, .slice B ys.length cb] w (Ans Z w) :=
  addWalk A B ca cb _ _ _ xs ys (Lib.hid rfl) (Lib.hid rfl) rfl (by omega) w (Lib.hid P) (Lib.hid Q) Z (Lib.hid hZ)
end Go.Proofs.YtemgoikghaiamaaDoor
/-
  What the calls Up and X of package gfp answer, for all lists of words (of up to 50000) and all places.
-/
namespace Go.Proofs.YtemgoikghaiamaaDoor
open Go.RowKit G
set_option linter.unusedVariables false

theorem or_int (x y s : Nat) (hy : y < 18446744073709551616) : bits .or .u64 (IntKind.u64.wrap ((x : Int) * 2 ^ s)) ((y : Int) / 2 ^ (64 - s)) = ((upW s x y : Nat) : Int) := by
  rw [mul_int, wrap_nat, div_int]
  exact u64_or_nat _ _ (Nat.mod_lt _ (by decide)) (Nat.lt_of_le_of_lt (Nat.div_le_self _ _) hy)
theorem upW_zero (s : Nat) : upW s 0 0 = 0 := by unfold upW; simp
/-- The word behind, none behind the first one. -/
def behind (xs : List Nat) (k : Nat) : Nat := if k = 0 then 0 else xs.getD (k - 1) 0
theorem behind_lt {xs : List Nat} (h : Wds xs) (k : Nat) : behind xs k < 18446744073709551616 := by unfold behind; split; decide; exact h.get _
theorem cBehind (A : Option Addr) (cap : Nat) (xs : List Nat) (k : Nat) (w : World) (h : Pol w A cap xs) :
    Calls Tryd.prog 49 #[.slice A xs.length cap, .int .i64 ((k : Int) - 1)] w (fun e w' => e = .returned (.int .u64 ((behind xs k : Nat) : Int)) ∧ w = w') := by
  unfold behind
  cases k with
  | zero => exact wordNeg A _ cap _ (by omega) w
  | succ k =>
    rw [if_neg (by omega), show ((k + 1 : Nat) : Int) - 1 = (k : Int) from by omega]
    exact cWord A cap xs k _ rfl w h
theorem Pol.drew {w : World} {A : Option Addr} {cap : Nat} {xs : List Nat} (h : Pol w A cap xs) : Pol w.drew A cap xs := ⟨h.word, h.cap1, h.cap2, h.cell⟩
theorem Fill.drew {w : World} {g n : Nat} {ps : List Nat} {wr : World} (h : Fill w g n ps wr) : Fill w g n ps wr.drew := ⟨h.row, h.wds, h.len, h.new, h.below.drew⟩

set_option maxHeartbeats 1000000 in
theorem upNone (A : Option Addr) (L ca : Nat) (n : Int) (hn : n < 0 ∨ 2048 < n) (w : World) :
    Calls Tryd.prog 46 #[.slice A L ca, .int .i64 n] w (Ans 0 w) := by
  rcases hn with h | h
  · go_enter Tryd.func46, Tryd.ntmps46
    go_wp2
    go_ret
    exact ⟨none, 0, by rw [wordsOf_zero]; rfl, by rw [wordsOf_zero]; exact Pol.nil _ _ _ (by omega), Below.refl _ _⟩
  · have h' : ¬ n < 0 := by omega
    go_enter Tryd.func46, Tryd.ntmps46
    go_wp2
    go_ret
    exact ⟨none, 0, by rw [wordsOf_zero]; rfl, by rw [wordsOf_zero]; exact Pol.nil _ _ _ (by omega), Below.refl _ _⟩

/-- What the row of Up holds after k rounds. -/
def UpTo (q s k : Nat) (xs ps : List Nat) : Prop := ∀ i, ps.getD i 0 = if q ≤ i ∧ i < q + k then upW s (xs.getD (i - q) 0) (behind xs (i - q)) else 0
theorem UpTo.start (q s n : Nat) (xs : List Nat) : UpTo q s 0 xs (List.replicate n 0) := fun i => by rw [getD_zero, if_neg (by omega)]
theorem UpTo.step {q s k : Nat} {xs ps : List Nat} (h : UpTo q s k xs ps) (hk : q + k < ps.length) : UpTo q s (k + 1) xs (ps.set (q + k) (upW s (xs.getD k 0) (behind xs k))) := fun i => by
  rw [getD_set _ _ _ _ hk, h i]
  by_cases e : i = q + k
  · subst e; rw [if_pos rfl, if_pos (by omega), show q + k - q = k from by omega]
  · rw [if_neg e]
    by_cases e2 : q ≤ i ∧ i < q + k
    · rw [if_pos e2, if_pos (by omega)]
    · rw [if_neg e2, if_neg (by omega)]
theorem UpTo.done {q s : Nat} {xs ps : List Nat} (h : UpTo q s (xs.length + 1) xs ps) (hs : s < 64) (hp : Wds ps) (hx : Wds xs) : leN ps = leN xs * 2 ^ (64 * q + s) := by
  refine leN_up ps xs q s hs hp hx (fun i => ?_)
  rw [h i]
  by_cases e : i < q
  · rw [if_neg (by omega), if_pos e]
  · rw [if_neg e]
    have eb : (if i = q then 0 else xs.getD (i - q - 1) 0) = behind xs (i - q) := by
      unfold behind
      by_cases e2 : i = q
      · rw [if_pos e2, if_pos (by omega)]
      · rw [if_neg e2, if_neg (by omega)]
    rw [eb]
    by_cases e2 : i < q + (xs.length + 1)
    · rw [if_pos (by omega)]
    · rw [if_neg (by omega), List.getD_eq_getElem?_getD, List.getElem?_eq_none (by omega)]
      unfold behind
      rw [if_neg (by omega), List.getD_eq_getElem?_getD, List.getElem?_eq_none (by omega)]
      exact (upW_zero s).symm

set_option maxRecDepth 100000 in
set_option maxHeartbeats 2000000 in
theorem upWalk (A : Option Addr) (ca L n q s M R : Nat) (xs : List Nat) (hL : Hid (xs.length = L)) (bl : L ≤ 50000) (hn : n ≤ 2048) (hq : Hid (n = 64 * q + s)) (hs : s < 64) (hM : Hid (q + L + 1 = M)) (hR : Hid (L + 1 = R)) (w : World) (P : Hid (Pol w A ca xs)) (Z : Nat) (hZ : Hid (leN xs * 2 ^ n = Z)) :
    Calls Tryd.prog 46 #[.slice A L ca, .int .i64 (n : Int)] w (Ans Z w) := by
  have bq : q ≤ 32 := by have := hq.out; omega
  have bM : M ≤ 60000 := by have := hM.out; omega
  have bR : R ≤ 60000 := by have := hR.out; omega
  have hmk := run_make_row' (P := Tryd.prog) 28 22 (.int .u64 0) 8 Tryd.underlying28 infoW rfl .i64 .i64 M (by omega) (by omega)
  have e1 : (n : Int) / 64 = (q : Int) := by have := hq.out; omega
  have e2 : (n : Int) % 64 = (s : Int) := by have := hq.out; omega
  have e3 : (q : Int) + (L : Int) + 1 = (M : Int) := by have := hM.out; omega
  have e4 : (L : Int) + 1 = (R : Int) := by have := hR.out; omega
  go_enter Tryd.func46, Tryd.ntmps46
  go_wp2
  rw [e2]
  clear hmk e1 e2 e3 e4
  have F0 := Fill.start w M
  have Z0 := Lib.hid (UpTo.start q s M xs)
  generalize hps : List.replicate M 0 = ps0 at F0 Z0
  clear hps
  go_loopg [31] R (fun g i wr => ∃ (k : Nat) (ps : List Nat), k + g = R ∧ i = .int .i64 k ∧ Hid (UpTo q s k xs ps) ∧ Hid (Fill w w.heap.size M ps wr))
  case atStart => exact ⟨0, ps0, by omega, rfl, Z0, Lib.hid F0⟩
  case round =>
    obtain ⟨k, ps, hk, rfl, hp, F⟩ := hrel
    clear F0 Z0
    by_cases hlt : k < R
    · have kl : (k : Int) < (R : Int) := by omega
      have k0 : (0 : Int) ≤ (k : Int) := by omega
      obtain ⟨t, ht⟩ : ∃ t, q + k = t := ⟨_, rfl⟩
      have tM : t < M := by have := hM.out; have := hR.out; omega
      obtain ⟨c1, c2⟩ := F.out.cell t tM
      have P' := Lib.hid (P.out.far F.out.below)
      have hx := P.out.word.get k
      have hy := behind_lt P.out.word k
      have W1 := cWord A ca xs k _ rfl wr.drew P'.out.drew
      have W2 := cBehind A ca xs k wr.drew P'.out.drew
      rw [hL.out] at W1 W2
      have F1 := Lib.hid (F.out.drew.set t (upW s (xs.getD k 0) (behind xs k)) tM (upW_lt s _ _ hy))
      have X1 := or_int (xs.getD k 0) (behind xs k) s hy
      have H1 := Lib.hid (hp.out.step (by rw [F.out.len, ht]; exact tM))
      rw [ht] at H1
      generalize ps.set t (upW s (xs.getD k 0) (behind xs k)) = ps' at F1 H1
      generalize upW s (xs.getD k 0) (behind xs k) = z at F1 X1
      generalize xs.getD k 0 = x at W1 hx X1
      generalize behind xs k = y at W2 hy X1
      generalize ps.getD t 0 = p at c1
      have HW1 := Lib.hid W1
      have HW2 := Lib.hid W2
      clear W1 W2
      have r1 : IntKind.i64.wrap ((q : Int) + (k : Int)) = (t : Int) := by rw [IntKind.wrap_i64]; omega
      have r2 : IntKind.i64.wrap ((k : Int) - 1) = (k : Int) - 1 := by rw [IntKind.wrap_i64]; omega
      have r3 : IntKind.i64.wrap (64 - (s : Int)) = ((64 - s : Nat) : Int) := by rw [IntKind.wrap_i64]; omega
      have r4 : (t : Int) < (M : Int) := by omega
      have r5 : (0 : Int) ≤ (t : Int) := by omega
      clear ht
      go_wp2_with fail
      go_region_held3 (fun _ => True) (trivial) (first
        | (go_at_call 49; ((with_reducible refine (HW1.out).mono ?_); rintro e w' ⟨rfl, rfl⟩))
        | (go_at_call 49; ((with_reducible refine (HW2.out).mono ?_); rintro e w' ⟨rfl, rfl⟩)))
      clear r1 r2 r3 r4 r5
      go_wp2_with fail
      go_roundg (gk - 1)
      case measure => omega
      case rel => exact ⟨k + 1, ps', by omega, by go_num, H1, F1⟩
    · obtain rfl : k = R := by omega
      have hs' : leN ps = Z := by
        have h1 := hp.out
        rw [← hR.out, ← hL.out] at h1
        rw [h1.done hs F.out.wds P.out.word, ← hq.out]; exact hZ.out
      have O := cOwn (some ⟨w.heap.size, 0, none⟩) M ps Z hs' (by rw [F.out.len]; omega) wr (F.out.pol (by omega))
      rw [F.out.len] at O
      have HO := Lib.hid O
      clear O hs'
      go_wp2_with (go_at_call 44; ((with_reducible refine (HO.out).mono ?_); rintro e w' ⟨A', c', rfl, PA, hb⟩))
      go_ret
      exact ⟨A', c', rfl, PA, below_then F.out.below hb⟩
theorem cUp (A : Option Addr) (ca : Nat) (xs : List Nat) (n Z : Nat) (hZ : leN xs * 2 ^ n = Z) (hl : xs.length ≤ 50000) (hn : n ≤ 2048) (w : World) (P : Pol w A ca xs) :
    Calls Tryd.prog 46 #[.slice A xs.length ca, .int .i64 (n : Int)] w (Ans Z w) :=
  upWalk A ca _ n (n / 64) (n % 64) _ _ xs (Lib.hid rfl) hl hn (Lib.hid (by omega)) (by omega) (Lib.hid rfl) (Lib.hid rfl) w (Lib.hid P) Z (Lib.hid hZ)
theorem pol_one (w : World) (x : Nat) (hx : x < 18446744073709551616) : Pol (w.alloc (.cells #[.int .u64 (x : Int)] 22)) (some ⟨w.heap.size, 0, none⟩) 1 [x] :=
  ⟨fun y hy => (by rw [List.mem_singleton.1 hy]; exact hx), Nat.le_refl _, by decide, fun i hi => ⟨w.heap.size, 0, rfl, by
    obtain rfl : i = 0 := by simpa using hi
    simp⟩⟩
set_option maxHeartbeats 1000000 in
theorem xWalk (n : Int) (Z : Nat) (w : World)
    (up : Hid (Calls Tryd.prog 46 #[.slice (some ⟨w.heap.size, 0, none⟩) 1 1, .int .i64 n] (w.alloc (.cells #[.int .u64 1] 22)) (Ans Z (w.alloc (.cells #[.int .u64 1] 22))))) :
    Calls Tryd.prog 25 #[.int .i64 n] w (Ans Z w) := by
  go_enter Tryd.func25, Tryd.ntmps25
  go_wp2_with (go_at_call 46; ((with_reducible refine (up.out).mono ?_); rintro e w' ⟨A', c', rfl, PA, hb⟩))
  go_ret
  exact ⟨A', c', rfl, PA, below_then (below_alloc (Below.refl _ _) _) hb⟩
theorem cX (n : Nat) (hn : n ≤ 2048) (w : World) : Calls Tryd.prog 25 #[.int .i64 (n : Int)] w (Ans (2 ^ n) w) :=
  xWalk n _ w (Lib.hid (cUp _ 1 [1] n (2 ^ n) (by simp [leN]) (by simp) hn _ (pol_one w 1 (by decide))))
theorem cXout (n : Int) (hn : n < 0 ∨ 2048 < n) (w : World) : Calls Tryd.prog 25 #[.int .i64 n] w (Ans 0 w) :=
  xWalk n _ w (Lib.hid (upNone _ 1 1 n hn _))
theorem join_xor (n : Nat) : n / 18446744073709551616 * 18446744073709551616 ^^^ n % 18446744073709551616 = n := by
  refine Nat.eq_of_testBit_eq (fun i => ?_)
  rw [Nat.testBit_xor, show (18446744073709551616 : Nat) = 2 ^ 64 from rfl, bit_shift, Nat.testBit_div_two_pow, Nat.testBit_mod_two_pow]
  by_cases h : 64 ≤ i
  · rw [show i - 64 + 64 = i from by omega, show decide (i < 64) = false from by simp; omega, show decide (64 ≤ i) = true from by simpa using h]; simp
  · rw [show decide (i < 64) = true from by simp; omega, show decide (64 ≤ i) = false from by simpa using h]; simp
theorem two_words (v n : Nat) : v / 18446744073709551616 * 2 ^ (64 * (n + 1)) ^^^ v % 18446744073709551616 * 2 ^ (64 * n) = v * 2 ^ (64 * n) := by
  rw [show 64 * (n + 1) = 64 + 64 * n from by omega, Nat.pow_add, ← Nat.mul_assoc, ← xor_shift]
  congr 1
  exact join_xor v
theorem high_lt {a b : Nat} (ha : a < 18446744073709551616) (hb : b < 18446744073709551616) : clm a b / 18446744073709551616 < 18446744073709551616 := by
  have := clm_lt (m := 64) (n := 64) ha hb
  omega
end Go.Proofs.YtemgoikghaiamaaDoor
/-
  What the call Mul of package gfp answers, for all lists of words (of up to 50000).
-/
namespace Go.Proofs.YtemgoikghaiamaaDoor
open Go.RowKit G
set_option linter.unusedVariables false

/-- What the row of Mul holds after i rows, and j words of the next one. -/
def MulTo (i j : Nat) (xs ys : List Nat) (Y : Nat) (ps : List Nat) : Prop := leN ps = clm (leN (xs.take i)) Y ^^^ clm (xs.getD i 0 * 2 ^ (64 * i)) (leN (ys.take j))
theorem MulTo.start (n : Nat) (xs ys : List Nat) (Y : Nat) : MulTo 0 0 xs ys Y (List.replicate n 0) := by
  unfold MulTo
  rw [leN_zero (fun i => getD_zero n i), List.take_zero, List.take_zero]
  show 0 = clm 0 Y ^^^ clm _ 0
  rw [clm_zero_left, clm_zero]; rfl
theorem MulTo.row {i : Nat} {xs ys : List Nat} {Y : Nat} {ps : List Nat} (n : Nat) (h : MulTo i n xs ys Y ps) (hx : Wds xs) (hn : leN (ys.take n) = Y) : MulTo (i + 1) 0 xs ys Y ps := by
  unfold MulTo at *
  rw [h, hn, leN_take_succ xs i hx, clm_xor_left, List.take_zero]
  show _ = _ ^^^ clm _ 0
  rw [clm_zero, Nat.xor_zero]
theorem MulTo.skip {i j : Nat} {xs ys : List Nat} {Y : Nat} {ps : List Nat} (h : MulTo i j xs ys Y ps) (hx : Wds xs) (h0 : xs.getD i 0 = 0) : MulTo (i + 1) 0 xs ys Y ps := by
  unfold MulTo at *
  rw [h, leN_take_succ xs i hx, h0, Nat.zero_mul, clm_zero_left, Nat.xor_zero, Nat.xor_zero, List.take_zero]
  show _ = _ ^^^ clm _ 0
  rw [clm_zero, Nat.xor_zero]
theorem MulTo.step {i j t u : Nat} {xs ys : List Nat} {Y : Nat} {ps : List Nat} (h : MulTo i j xs ys Y ps) (hx : Wds xs) (hy : Wds ys) (hp : Wds ps) (ht : t = i + j) (hu : u = i + j + 1) (hl : u < ps.length) (v : Nat) (hv : v = clm (xs.getD i 0) (ys.getD j 0)) (hv2 : v / 18446744073709551616 < 18446744073709551616) :
    MulTo i (j + 1) xs ys Y ((ps.set t (ps.getD t 0 ^^^ v % 18446744073709551616)).set u ((ps.set t (ps.getD t 0 ^^^ v % 18446744073709551616)).getD u 0 ^^^ v / 18446744073709551616)) := by
  have l2 : v % 18446744073709551616 < 18446744073709551616 := Nat.mod_lt _ (by decide)
  have hp1 := hp.set t _ (word_xor (hp.get t) l2)
  unfold MulTo at *
  rw [leN_set_xor _ u _ hp1 (by rw [List.length_set]; exact hl) hv2, leN_set_xor _ t _ hp (by omega) l2, h, leN_take_succ ys j hy, clm_xor, Nat.xor_assoc, Nat.xor_assoc]
  congr 2
  rw [clm_shift, clm_shift_left, ← hv, Nat.xor_comm, hu, ht, two_words, Nat.mul_assoc, ← Nat.pow_add]
  congr 2
  omega
theorem MulTo.done {m : Nat} {xs ys : List Nat} {X Y : Nat} {ps : List Nat} (h : MulTo m 0 xs ys Y ps) (hm : leN (xs.take m) = X) : leN ps = clm X Y := by
  unfold MulTo at h
  rw [h, hm, List.take_zero]
  show _ ^^^ clm _ 0 = _
  rw [clm_zero, Nat.xor_zero]

set_option maxRecDepth 100000 in
set_option maxHeartbeats 4000000 in
theorem mulWalk (A B : Option Addr) (ca cb L K m n M X Y : Nat) (xs ys : List Nat) (hL : Hid (xs.length = L)) (hK : Hid (ys.length = K)) (bl : L ≤ 50000) (bk : K ≤ 50000) (hm : m ≤ L) (hn : n ≤ K) (hM : Hid (m + n = M)) (hX : Hid (leN (xs.take m) = X)) (hY : Hid (leN (ys.take n) = Y)) (w : World) (P : Hid (Pol w A ca xs)) (Q : Hid (Pol w B cb ys)) (Z : Nat) (hZ : Hid (clm X Y = Z))
    (s1 : Hid (Calls Tryd.prog 51 #[.slice A L ca] w (fun e w' => e = .returned (.int .i64 (m : Int)) ∧ w = w')))
    (s2 : Hid (Calls Tryd.prog 51 #[.slice B K cb] w (fun e w' => e = .returned (.int .i64 (n : Int)) ∧ w = w'))) :
    Calls Tryd.prog 70 #[.slice A L ca, .slice B K cb] w (Ans Z w) := by
  have bM : M ≤ 100000 := by have := hM.out; omega
  have hmk := run_make_row' (P := Tryd.prog) 28 22 (.int .u64 0) 8 Tryd.underlying28 infoW rfl .i64 .i64 M (by omega) (by omega)
  have e3 : (m : Int) + (n : Int) = (M : Int) := by have := hM.out; omega
  go_enter Tryd.func70, Tryd.ntmps70
  go_wp2
  go_step3
  go_wp2_with (first
        | (go_at_call 51; ((with_reducible refine (s1.out).mono ?_); rintro e w' ⟨rfl, rfl⟩))
        | (go_at_call 51; ((with_reducible refine (s2.out).mono ?_); rintro e w' ⟨rfl, rfl⟩)))
  go_step3
  go_wp2
  clear hmk e3
  have F0 := Fill.start w M
  have Z0 := Lib.hid (MulTo.start M xs ys Y)
  generalize hps : List.replicate M 0 = ps0 at F0 Z0
  clear hps
  go_loopg [29] m (fun g i wr => ∃ (k : Nat) (ps : List Nat), k + g = m ∧ i = .int .i64 k ∧ Hid (MulTo k 0 xs ys Y ps) ∧ Hid (Fill w w.heap.size M ps wr))
  case atStart => exact ⟨0, ps0, by omega, rfl, Z0, Lib.hid F0⟩
  case round =>
    obtain ⟨i, ps, hi, rfl, hp, F⟩ := hrel
    clear F0 Z0
    by_cases hlt : i < m
    · have il : (i : Int) < (m : Int) := by omega
      have i0 : (0 : Int) ≤ (i : Int) := by omega
      have hx := P.out.word.get i
      obtain ⟨go, rfl⟩ : ∃ go, go = gk := ⟨_, rfl⟩
      go_wp2
      go_loopg [33] n (fun g s wr => ∃ (j : Nat) (ps : List Nat), j + g = n ∧ s = .int .i64 j ∧ Hid (MulTo i j xs ys Y ps) ∧ Hid (Fill w w.heap.size M ps wr))
      case atStart => exact ⟨0, ps, by omega, rfl, hp, F⟩
      case round =>
        clear hp F ps
        obtain ⟨j, ps, hj, rfl, hp, F⟩ := hrel
        by_cases hlt2 : j < n
        · have jl : (j : Int) < (n : Int) := by omega
          have j0 : (0 : Int) ≤ (j : Int) := by omega
          have hy := Q.out.word.get j
          have P' := Lib.hid (P.out.far F.out.below)
          have Q' := Lib.hid (Q.out.far F.out.below)
          have W1 := cWord A ca xs i _ rfl wr P'.out
          have W2 := cWord B cb ys j _ rfl wr Q'.out
          rw [hL.out] at W1
          rw [hK.out] at W2
          by_cases hz : xs.getD i 0 = 0
          · have H1 := Lib.hid (hp.out.skip P.out.word hz)
            rw [hz] at W1
            generalize ys.getD j 0 = y at W2 hy
            have HW1 := Lib.hid W1
            have HW2 := Lib.hid W2
            clear W1 W2 hz hx
            go_wp2_with (first
              | (go_at_call 49; ((with_reducible refine (HW1.out).mono ?_); rintro e w' ⟨rfl, rfl⟩))
              | (go_at_call 49; ((with_reducible refine (HW2.out).mono ?_); rintro e w' ⟨rfl, rfl⟩)))
            go_roundg (go - 1)
            case measure => omega
            case rel => exact ⟨i + 1, ps, by omega, by go_num, H1, F⟩
          · obtain ⟨t, ht⟩ : ∃ t, t = i + j := ⟨_, rfl⟩
            obtain ⟨u, hu⟩ : ∃ u, u = i + j + 1 := ⟨_, rfl⟩
            have uM : u < M := by have := hM.out; omega
            have tM : t < M := by have := hM.out; omega
            obtain ⟨c1, c2⟩ := F.out.cell t tM
            have hl := high_lt hx hy
            have l2 : clm (xs.getD i 0) (ys.getD j 0) % 18446744073709551616 < 18446744073709551616 := Nat.mod_lt _ (by decide)
            have pt := F.out.wds.get t
            have F1 := F.out.set t (ps.getD t 0 ^^^ clm (xs.getD i 0) (ys.getD j 0) % 18446744073709551616) tM (word_xor pt l2)
            obtain ⟨c3, c4⟩ := F1.cell u uM
            have pu := F1.wds.get u
            have F2 := Lib.hid (F1.set u ((ps.set t (ps.getD t 0 ^^^ clm (xs.getD i 0) (ys.getD j 0) % 18446744073709551616)).getD u 0 ^^^ clm (xs.getD i 0) (ys.getD j 0) / 18446744073709551616) uM (word_xor pu hl))
            have H1 := Lib.hid (hp.out.step P.out.word Q.out.word F.out.wds ht hu (by rw [F.out.len]; exact uM) _ rfl hl)
            have W3 := cWords _ _ hx hy wr
            clear F1
            generalize (ps.set t (ps.getD t 0 ^^^ clm (xs.getD i 0) (ys.getD j 0) % 18446744073709551616)).set u ((ps.set t (ps.getD t 0 ^^^ clm (xs.getD i 0) (ys.getD j 0) % 18446744073709551616)).getD u 0 ^^^ clm (xs.getD i 0) (ys.getD j 0) / 18446744073709551616) = ps' at F2 H1
            generalize (ps.set t (ps.getD t 0 ^^^ clm (xs.getD i 0) (ys.getD j 0) % 18446744073709551616)).getD u 0 = pv at F2 c3 pu
            generalize clm (xs.getD i 0) (ys.getD j 0) / 18446744073709551616 = h at F2 W3 hl
            generalize clm (xs.getD i 0) (ys.getD j 0) % 18446744073709551616 = l at F2 W3 c3 c4 l2
            generalize ys.getD j 0 = y at W2 hy W3
            generalize ps.getD t 0 = p at c1 c3 c4 F2 pt
            have X1 := xor_int p l pt l2
            have X2 := xor_int pv h pu hl
            generalize p ^^^ l = pl at F2 c3 c4 X1
            generalize pv ^^^ h = pvh at F2 X2
            generalize xs.getD i 0 = x at W1 hx W3 hz
            have hz1 : (x == 0) = false := by simpa using hz
            have hz2 : ((x : Int) == 0) = false := by
              have : (x : Int) ≠ 0 := by omega
              simpa using this
            have HW1 := Lib.hid W1
            have HW2 := Lib.hid W2
            have HW3 := Lib.hid W3
            clear W1 W2 W3 hz
            have r1 : (i : Int) + (j : Int) = (t : Int) := by omega
            have r2 : (t : Int) + 1 = (u : Int) := by omega
            have r4 : (t : Int) < (M : Int) := by omega
            have r5 : (0 : Int) ≤ (t : Int) := by omega
            have r6 : (u : Int) < (M : Int) := by omega
            have r7 : (0 : Int) ≤ (u : Int) := by omega
            clear ht hu
            go_wp2_with (first
              | (go_at_call 49; ((with_reducible refine (HW1.out).mono ?_); rintro e w' ⟨rfl, rfl⟩))
              | (go_at_call 49; ((with_reducible refine (HW2.out).mono ?_); rintro e w' ⟨rfl, rfl⟩))
              | (go_at_call 68; ((with_reducible refine (HW3.out).mono ?_); rintro e w' ⟨rfl, rfl⟩)))
            go_roundg (gk - 1)
            case measure => omega
            case rel => exact ⟨j + 1, ps', by omega, by go_num, H1, F2⟩
        · obtain rfl : j = n := by omega
          have H1 := Lib.hid (hp.out.row j P.out.word hY.out)
          have jl : ¬ ((j : Int) < (j : Int)) := by omega
          go_wp2
          go_roundg (go - 1)
          case measure => omega
          case rel => exact ⟨i + 1, ps, by omega, by go_num, H1, F⟩
    · obtain rfl : i = m := by omega
      have hs' : leN ps = Z := by rw [hp.out.done hX.out]; exact hZ.out
      have O := cOwn (some ⟨w.heap.size, 0, none⟩) M ps Z hs' (by rw [F.out.len]; omega) wr (F.out.pol (by omega))
      rw [F.out.len] at O
      have HO := Lib.hid O
      clear O hs'
      go_wp2_with (go_at_call 44; ((with_reducible refine (HO.out).mono ?_); rintro e w' ⟨A', c', rfl, PA, hb⟩))
      try rw [Exit.noGoto_ret]
      go_ret
      exact ⟨A', c', rfl, PA, below_then F.out.below hb⟩
theorem cMul (A B : Option Addr) (ca cb : Nat) (xs ys : List Nat) (Z : Nat) (hZ : clm (leN xs) (leN ys) = Z) (hl : xs.length ≤ 50000) (hk : ys.length ≤ 50000) (w : World) (P : Pol w A ca xs) (Q : Pol w B cb ys) :
    Calls Tryd.prog 70 #[.slice A xs.length ca, .slice B ys.length cb] w (Ans Z w) := by
  obtain ⟨e1, e2⟩ := own_take xs _ P.word rfl
  obtain ⟨f1, f2⟩ := own_take ys _ Q.word rfl
  exact mulWalk A B ca cb _ _ _ _ _ _ _ xs ys (Lib.hid rfl) (Lib.hid rfl) hl hk e2 f2 (Lib.hid rfl) (Lib.hid (by rw [e1, leN_wordsOf])) (Lib.hid (by rw [f1, leN_wordsOf])) w (Lib.hid P) (Lib.hid Q) Z (Lib.hid hZ) (Lib.hid (cSize A ca xs _ rfl w P)) (Lib.hid (cSize B cb ys _ rfl w Q))
end Go.Proofs.YtemgoikghaiamaaDoor
/-
  What the calls Words of the reference of layer 2 and Large of its statements answer; the contracts of package gfp with open lengths.
-/
namespace Go.Proofs.YtemgoikghaiamaaDoor
open Go.RowKit G
set_option linter.unusedVariables false

theorem below_of_drawn {w w' : World} (h : ∃ n, w' = w.drewN n) : Below w.heap.size w w' := by
  obtain ⟨n, rfl⟩ := h
  exact below_drewN n
/-- An answer that is this bool. -/
def Bl (b : Bool) (w : World) (e : Ending) (w' : World) : Prop := e = .returned (.bool b) ∧ Below w.heap.size w w'

section
variable {A B : Option Addr} {L K ca cb : Nat} {xs ys : List Nat} {w : World}
theorem gSame (b : Bool) (P : Pol w A ca xs) (Q : Pol w B cb ys) (hL : xs.length = L) (hK : ys.length = K) (hb : sameN (leN xs) (leN ys) = b) (hl : L ≤ 50000) :
    Calls Tryd.prog 28 #[.slice A L ca, .slice B K cb] w (Bl b w) := by
  subst hL hK hb
  exact (cSame A B ca cb xs ys _ _ rfl rfl (by omega) w P Q).mono fun _ _ h => ⟨h.1, below_of_drawn h.2⟩
theorem gOwn (N : Nat) (P : Pol w A ca xs) (hL : xs.length = L) (hN : leN xs = N) (hl : L ≤ 50000) : Calls Tryd.prog 44 #[.slice A L ca] w (Ans N w) := by
  subst hL; exact cOwn A ca xs N hN (by omega) w P
theorem gDeg (n : Int) (P : Pol w A ca xs) (hL : xs.length = L) (hN : (len (leN xs) : Int) - 1 = n) (hl : L ≤ 50000) : Calls Tryd.prog 29 #[.slice A L ca] w (fun e w' => e = .returned (.int .i64 n) ∧ w = w') := by
  subst hL hN; exact cDeg A ca xs _ rfl (by omega) w P
theorem gBit (k : Nat) (y : Int) (P : Pol w A ca xs) (hL : xs.length = L) (hy : ((leN xs / 2 ^ k % 2 : Nat) : Int) = y) (hk : k ≤ 9223372036854775807) : Calls Tryd.prog 32 #[.slice A L ca, .int .i64 (k : Int)] w (fun e w' => e = .returned (.int .i64 y) ∧ w = w') := by
  subst hL hy; exact cBit A ca xs _ k _ rfl rfl hk w P
theorem gAdd (Z : Nat) (P : Pol w A ca xs) (Q : Pol w B cb ys) (hL : xs.length = L) (hK : ys.length = K) (hZ : leN xs ^^^ leN ys = Z) (hl : L ≤ 50000) (hk : K ≤ 50000) :
    Calls Tryd.prog 27 #[.slice A L ca, .slice B K cb] w (Ans Z w) := by
  subst hL hK; exact cAdd A B ca cb xs ys Z hZ (by omega) (by omega) w P Q
theorem gMul (Z : Nat) (P : Pol w A ca xs) (Q : Pol w B cb ys) (hL : xs.length = L) (hK : ys.length = K) (hZ : clm (leN xs) (leN ys) = Z) (hl : L ≤ 50000) (hk : K ≤ 50000) :
    Calls Tryd.prog 70 #[.slice A L ca, .slice B K cb] w (Ans Z w) := by
  subst hL hK; exact cMul A B ca cb xs ys Z hZ (by omega) (by omega) w P Q
theorem gUp (n Z : Nat) (P : Pol w A ca xs) (hL : xs.length = L) (hZ : leN xs * 2 ^ n = Z) (hl : L ≤ 50000) (hn : n ≤ 2048) :
    Calls Tryd.prog 46 #[.slice A L ca, .int .i64 (n : Int)] w (Ans Z w) := by
  subst hL; exact cUp A ca xs n Z hZ (by omega) hn w P
end
theorem pol1 (w : World) (x : Nat) (y : Int) (e : (x : Int) = y) (hx : x < 18446744073709551616) : Pol (w.alloc (.cells #[.int .u64 y] 22)) (some ⟨w.heap.size, 0, none⟩) 1 [x] := by
  subst e; exact pol_one w x hx
theorem pol2 (w : World) (x x' : Nat) (y y' : Int) (e : (x : Int) = y) (e' : (x' : Int) = y') (hx : x < 18446744073709551616) (hx' : x' < 18446744073709551616) : Pol (w.alloc (.cells #[.int .u64 y, .int .u64 y'] 22)) (some ⟨w.heap.size, 0, none⟩) 2 [x, x'] := by
  subst e e'
  refine ⟨fun z hz => ?_, Nat.le_refl _, by decide, fun i hi => ⟨w.heap.size, 0, rfl, ?_⟩⟩
  · simp at hz; rcases hz with rfl | rfl <;> assumption
  · have : i = 0 ∨ i = 1 := by simp at hi; omega
    rcases this with rfl | rfl <;> simp
theorem words1 (n : Nat) (h0 : n ≠ 0) (h : n < 18446744073709551616) : wordsOf n = [n] := by
  rw [wordsOf_pos h0, show n / 18446744073709551616 = 0 from by omega, wordsOf_zero, show n % 18446744073709551616 = n from by omega]
theorem words2 (x y : Nat) (h0 : y ≠ 0) (hx : x < 18446744073709551616) (hy : y < 18446744073709551616) : wordsOf (x + 18446744073709551616 * y) = [x, y] := by
  rw [wordsOf_pos (by omega), show (x + 18446744073709551616 * y) / 18446744073709551616 = y from by omega, show (x + 18446744073709551616 * y) % 18446744073709551616 = x from by omega, words1 y h0 hy]
/-- How long the own form of a number is. -/
theorem wl (k : Nat) {N : Nat} (h : N < 2 ^ (64 * k)) : (wordsOf N).length ≤ k := wordsOf_len k h

theorem Pol.alloc {w : World} {A : Option Addr} {cap : Nat} {xs : List Nat} (h : Pol w A cap xs) (o : Obj) : Pol (w.alloc o) A cap xs := h.below (below_alloc (Below.refl _ _) o)
/-- An answer that is 0. -/
def Ans0 (w : World) (e : Ending) (w' : World) : Prop := ∃ (A : Option Addr) (cap : Nat), e = .returned (.slice A 0 cap) ∧ Below w.heap.size w w'
theorem ans0 {w : World} {e : Ending} {w' : World} (h : Ans 0 w e w') : Ans0 w e w' := by
  obtain ⟨A, c, he, _, hb⟩ := h
  rw [wordsOf_zero] at he
  exact ⟨A, c, he, hb⟩
end Go.Proofs.YtemgoikghaiamaaDoor
/-
  Lists of bits and their numbers. Plain mathematics; nothing of the program.
-/
namespace Go.Proofs.YtemgoikghaiamaaDoor.G
/-- The number of a list of bits, the lowest one first. -/
def leB : List Nat → Nat
  | [] => 0
  | x :: r => x + 2 * leB r
def Bts (xs : List Nat) : Prop := ∀ x ∈ xs, x < 2
theorem Bts.head {x : Nat} {r : List Nat} (h : Bts (x :: r)) : x < 2 := h x (by simp)
theorem Bts.tail {x : Nat} {r : List Nat} (h : Bts (x :: r)) : Bts r := fun y hy => h y (by simp [hy])
theorem Bts.get {xs : List Nat} (h : Bts xs) (i : Nat) : xs.getD i 0 < 2 := by
  rw [List.getD_eq_getElem?_getD]
  by_cases hi : i < xs.length
  · rw [List.getElem?_eq_getElem hi]; exact h _ (List.getElem_mem hi)
  · rw [List.getElem?_eq_none (by omega)]; decide
theorem Bts.append {xs ys : List Nat} (h : Bts xs) (k : Bts ys) : Bts (xs ++ ys) := fun x hx => by
  rcases List.mem_append.1 hx with hx | hx
  · exact h x hx
  · exact k x hx
theorem leB_cons (x : Nat) (r : List Nat) : leB (x :: r) = x + 2 * leB r := rfl
/-- A bit of a list of bits is that of its number. -/
theorem leB_get : ∀ (xs : List Nat) (k : Nat), Bts xs → leB xs / 2 ^ k % 2 = xs.getD k 0
  | [], k, _ => by simp [leB]
  | x :: r, 0, h => by have := h.head; rw [leB_cons]; simp; omega
  | x :: r, k + 1, h => by
    have := h.head
    rw [leB_cons, Nat.pow_succ, Nat.mul_comm (2 ^ k), ← Nat.div_div_eq_div_mul, show (x + 2 * leB r) / 2 = leB r from by omega, leB_get r k h.tail]
    simp
theorem bit_leB (xs : List Nat) (k : Nat) (h : Bts xs) : (leB xs).testBit k = decide (xs.getD k 0 = 1) := by
  rw [Nat.testBit_eq_decide_div_mod_eq, leB_get xs k h]
theorem num_ext {M N : Nat} (h : ∀ k, M / 2 ^ k % 2 = N / 2 ^ k % 2) : M = N := by
  refine Nat.eq_of_testBit_eq (fun k => ?_)
  rw [Nat.testBit_eq_decide_div_mod_eq, Nat.testBit_eq_decide_div_mod_eq, h k]
theorem leB_lt : ∀ (xs : List Nat), Bts xs → leB xs < 2 ^ xs.length
  | [], _ => by simp [leB]
  | x :: r, h => by
    have := leB_lt r h.tail
    have := h.head
    rw [leB_cons, List.length_cons, Nat.pow_succ]
    omega
theorem leB_append : ∀ (xs ys : List Nat), leB (xs ++ ys) = leB xs + 2 ^ xs.length * leB ys
  | [], ys => by simp [leB]
  | x :: r, ys => by
    rw [List.cons_append, leB_cons, leB_cons, leB_append r ys, List.length_cons, Nat.pow_succ, Nat.mul_add, Nat.mul_comm (2 ^ r.length) 2, Nat.mul_assoc]
    omega
/-- The bits of a number, none behind the highest 1. -/
def bitsOf (n : Nat) : List Nat := if n = 0 then [] else n % 2 :: bitsOf (n / 2)
  termination_by n
  decreasing_by omega
theorem bitsOf_zero : bitsOf 0 = [] := by unfold bitsOf; simp
theorem bitsOf_pos {n : Nat} (h : n ≠ 0) : bitsOf n = n % 2 :: bitsOf (n / 2) := by rw [bitsOf, if_neg h]
theorem bitsOf_facts (n : Nat) : leB (bitsOf n) = n ∧ Bts (bitsOf n) := by
  induction n using Nat.strongRecOn with
  | _ n ih =>
    by_cases h : n = 0
    · subst h; rw [bitsOf_zero]; exact ⟨rfl, fun x hx => by cases hx⟩
    · rw [bitsOf_pos h]
      obtain ⟨a, b⟩ := ih (n / 2) (by omega)
      refine ⟨by simp only [leB, a]; omega, fun x hx => ?_⟩
      rcases List.mem_cons.1 hx with rfl | hx
      · omega
      · exact b x hx
theorem leB_bitsOf (n : Nat) : leB (bitsOf n) = n := (bitsOf_facts n).1
theorem bts_bitsOf (n : Nat) : Bts (bitsOf n) := (bitsOf_facts n).2
theorem bitsOf_get (n k : Nat) : (bitsOf n).getD k 0 = n / 2 ^ k % 2 := by
  rw [← leB_get _ k (bts_bitsOf n), leB_bitsOf]
theorem bitsOf_len (n : Nat) : (bitsOf n).length = len n := by
  induction n using Nat.strongRecOn with
  | _ n ih =>
    by_cases h : n = 0
    · subst h; rw [bitsOf_zero]; rfl
    · rw [bitsOf_pos h, List.length_cons, ih (n / 2) (by omega)]
      by_cases h2 : n / 2 = 0
      · obtain rfl : n = 1 := by omega
        rfl
      · have e := len_two h2
        rcases Nat.mod_two_eq_zero_or_one n with m | m
        · rw [show 2 * (n / 2) = n from by omega] at e; omega
        · have : len (2 * (n / 2) + 1) = len (2 * (n / 2)) := by
            rw [odd_xor, len_xor_lt]
            rw [e]
            have := len_pos h2
            show len 1 < _
            have : len 1 = 1 := rfl
            omega
          rw [show 2 * (n / 2) + 1 = n from by omega] at this
          omega
theorem leB_same {xs : List Nat} (hx : Bts xs) {N : Nat} (h : leB xs = N) (i : Nat) : xs.getD i 0 = (bitsOf N).getD i 0 := by
  rw [bitsOf_get, ← h, leB_get _ _ hx]
/-- The first bits of a list, where all behind are 0 and the last of them isn't. -/
theorem take_ownB (xs : List Nat) (n N : Nat) (hx : Bts xs) (hN : leB xs = N) (hn : n ≤ xs.length) (hz : ∀ i, n ≤ i → xs.getD i 0 = 0) (h : n = 0 ∨ xs.getD (n - 1) 0 ≠ 0) : xs.take n = bitsOf N := by
  have e : n = len N := by
    apply Nat.le_antisymm
    · rcases h with h | h
      · omega
      · by_cases q : n ≤ len N
        · exact q
        · exfalso
          apply h
          rw [leB_same hx hN, List.getD_eq_getElem?_getD, List.getElem?_eq_none (by rw [bitsOf_len]; omega)]; rfl
    · by_cases q : len N ≤ n
      · exact q
      · exfalso
        have h0 : N ≠ 0 := by intro e; rw [e, len_zero] at q; omega
        have t := len_bit h0
        rw [Nat.testBit_eq_decide_div_mod_eq, ← bitsOf_get, ← leB_same hx hN, hz _ (by omega)] at t
        simp at t
  refine List.ext_getElem (by rw [List.length_take, bitsOf_len]; omega) (fun i h1 h2 => ?_)
  have q := leB_same hx hN i
  rw [List.length_take] at h1
  rw [List.getElem_take]
  simpa [List.getD_eq_getElem?_getD, List.getElem?_eq_getElem (show i < xs.length by omega), List.getElem?_eq_getElem h2] using q
/-- So many bits of a number. -/
def bitsK (k x : Nat) : List Nat := (List.range k).map fun i => x / 2 ^ i % 2
theorem bitsK_length (k x : Nat) : (bitsK k x).length = k := by simp [bitsK]
theorem bitsK_succ (k x : Nat) : bitsK (k + 1) x = bitsK k x ++ [x / 2 ^ k % 2] := by simp [bitsK, List.range_succ]
theorem bts_bitsK (k x : Nat) : Bts (bitsK k x) := fun y hy => by
  obtain ⟨i, _, rfl⟩ := List.mem_map.1 hy
  exact Nat.mod_lt _ (by decide)
theorem bitsK_get (k x i : Nat) : (bitsK k x).getD i 0 = if i < k then x / 2 ^ i % 2 else 0 := by
  unfold bitsK
  rw [List.getD_eq_getElem?_getD, List.getElem?_map]
  by_cases h : i < k
  · rw [List.getElem?_range h, if_pos h]; rfl
  · rw [List.getElem?_eq_none (by simp; omega), if_neg h]; rfl
theorem leB_bitsK (k x : Nat) (h : x < 2 ^ k) : leB (bitsK k x) = x := by
  refine num_ext (fun i => ?_)
  rw [leB_get _ _ (bts_bitsK k x), bitsK_get]
  split
  · rfl
  · rw [Nat.div_eq_of_lt (Nat.lt_of_lt_of_le h (Nat.pow_le_pow_right (by decide) (by omega)))]
/-- The bits of so many words. -/
def wbits (xs : List Nat) : List Nat := xs.flatMap (bitsK 64)
theorem wbits_length (xs : List Nat) : (wbits xs).length = 64 * xs.length := by
  induction xs with
  | nil => rfl
  | cons x r ih => simp only [wbits, List.flatMap_cons, List.length_append, bitsK_length, List.length_cons] at *; omega
theorem bts_wbits (xs : List Nat) : Bts (wbits xs) := fun y hy => by
  obtain ⟨x, _, h⟩ := List.mem_flatMap.1 hy
  exact bts_bitsK 64 x y h
theorem leB_wbits : ∀ (xs : List Nat), Wds xs → leB (wbits xs) = leN xs
  | [], _ => rfl
  | x :: r, h => by
    rw [wbits, List.flatMap_cons, leB_append, bitsK_length, leN_cons, leB_bitsK 64 x h.head]
    have := leB_wbits r h.tail
    rw [wbits] at this
    rw [this]
theorem wbits_take (xs : List Nat) (k : Nat) (hk : k < xs.length) : wbits (xs.take (k + 1)) = wbits (xs.take k) ++ bitsK 64 (xs.getD k 0) := by
  have e : xs.getD k 0 = xs[k] := by simp [List.getD_eq_getElem?_getD, List.getElem?_eq_getElem hk]
  rw [e, List.take_succ_eq_append_getElem hk, wbits, wbits, List.flatMap_append]
  simp only [List.flatMap_cons, List.flatMap_nil, List.append_nil]
theorem half_step (N a m : Nat) : N / 2 ^ a % 2 ^ (m + 1) = N / 2 ^ (a + 1) % 2 ^ m * 2 + N / 2 ^ a % 2 := by
  rw [Nat.pow_succ 2 a, ← Nat.div_div_eq_div_mul, Nat.pow_succ]
  generalize N / 2 ^ a = M
  rw [Nat.mul_comm (2 ^ m) 2, Nat.mod_mul]
  omega
theorem wordsOf_get (N k : Nat) : (wordsOf N).getD k 0 = N / 2 ^ (64 * k) % 18446744073709551616 := by
  induction k generalizing N with
  | zero =>
    by_cases h : N = 0
    · subst h; rw [wordsOf_zero]; rfl
    · rw [wordsOf_pos h]; simp
  | succ k ih =>
    by_cases h : N = 0
    · subst h; rw [wordsOf_zero]; simp
    · rw [wordsOf_pos h]
      have := ih (N / 18446744073709551616)
      rw [Nat.div_div_eq_div_mul, show (18446744073709551616 : Nat) * 2 ^ (64 * k) = 2 ^ (64 * (k + 1)) from by rw [show 64 * (k + 1) = 64 + 64 * k from by omega, Nat.pow_add]] at this
      simpa using this
theorem leB_sum (ps xs ys : List Nat) (hp : Bts ps) (hx : Bts xs) (hy : Bts ys) (h : ∀ i, ps.getD i 0 = (xs.getD i 0 + ys.getD i 0) % 2) : leB ps = leB xs ^^^ leB ys := by
  refine Nat.eq_of_testBit_eq (fun i => ?_)
  have a := hx.get i
  have b := hy.get i
  rw [Nat.testBit_xor, bit_leB _ _ hp, bit_leB _ _ hx, bit_leB _ _ hy, h]
  rcases (show xs.getD i 0 = 0 ∨ xs.getD i 0 = 1 by omega) with e | e <;> rcases (show ys.getD i 0 = 0 ∨ ys.getD i 0 = 1 by omega) with f | f <;> rw [e, f] <;> rfl
theorem leB_up (xs : List Nat) (n : Nat) : leB (List.replicate n 0 ++ xs) = leB xs * 2 ^ n := by
  have z : leB (List.replicate n 0) = 0 := by
    induction n with
    | zero => rfl
    | succ n ih => rw [List.replicate_succ, leB_cons, ih]
  rw [leB_append, z, List.length_replicate, Nat.zero_add, Nat.mul_comm]
theorem bts_zero (n : Nat) : Bts (List.replicate n 0) := fun x hx => by rw [(List.mem_replicate.1 hx).2]; decide
theorem Bts.set {ps : List Nat} (h : Bts ps) (k v : Nat) (hv : v < 2) : Bts (ps.set k v) := by
  intro x hx
  rcases List.mem_or_eq_of_mem_set hx with h1 | h1
  · exact h x h1
  · rw [h1]; exact hv
theorem leB_set (ps : List Nat) (k v : Nat) (hw : Bts ps) (hk : k < ps.length) (hv : v < 2) : leB (ps.set k ((ps.getD k 0 + v) % 2)) = leB ps ^^^ v * 2 ^ k := by
  refine Nat.eq_of_testBit_eq (fun i => ?_)
  have a := hw.get k
  rw [bit_leB _ _ (hw.set k _ (Nat.mod_lt _ (by decide))), Nat.testBit_xor, bit_leB _ _ hw, bit_shift, getD_set _ _ _ _ hk]
  by_cases h : i = k
  · subst h
    rw [if_pos rfl, Nat.sub_self, show decide (i ≤ i) = true from by simp]
    rcases (show ps.getD i 0 = 0 ∨ ps.getD i 0 = 1 by omega) with e | e <;> rcases (show v = 0 ∨ v = 1 by omega) with f | f <;> rw [e, f] <;> rfl
  · rw [if_neg h]
    have : (decide (k ≤ i) && v.testBit (i - k)) = false := by
      by_cases h2 : k ≤ i
      · have : v.testBit (i - k) = false := Nat.testBit_lt_two_pow (Nat.lt_of_lt_of_le hv (by
          have := Nat.pow_le_pow_right (n := 2) (by decide) (show 1 ≤ i - k by omega)
          simpa using this))
        simp [this]
      · simp [h2]
    rw [this]; simp
theorem leB_take_succ (xs : List Nat) (k : Nat) (hw : Bts xs) (hk : k < xs.length) : leB (xs.take (k + 1)) = leB (xs.take k) ^^^ xs.getD k 0 * 2 ^ k := by
  have e : xs.take (k + 1) = xs.take k ++ [xs.getD k 0] := by
    rw [List.take_succ_eq_append_getElem hk]
    simp [List.getD_eq_getElem?_getD, List.getElem?_eq_getElem hk]
  have l : (xs.take k).length = k := by rw [List.length_take]; omega
  rw [e, leB_append, l]
  have ht : Bts (xs.take k) := fun x hx => hw x (List.mem_of_mem_take hx)
  have lt := leB_lt _ ht
  rw [l] at lt
  show _ + 2 ^ k * (xs.getD k 0 + 2 * 0) = _
  refine Nat.eq_of_testBit_eq (fun i => ?_)
  rw [Nat.add_comm, Nat.testBit_two_pow_mul_add _ lt, Nat.testBit_xor, bit_shift]
  by_cases h : i < k
  · rw [if_pos h, show decide (k ≤ i) = false from by simp; omega]; simp
  · rw [if_neg h, show decide (k ≤ i) = true from by simp; omega, Nat.testBit_lt_two_pow (Nat.lt_of_lt_of_le lt (Nat.pow_le_pow_right (by decide) (by omega)))]; simp
end Go.Proofs.YtemgoikghaiamaaDoor.G
/-
  Lists of bits as the reference of layer 2 keeps them; what its calls At and Trim, and Bits and Word of the reference of layer 1, answer.
-/
namespace Go.Proofs.YtemgoikghaiamaaDoor
open Go.RowKit G
set_option linter.unusedVariables false

/-- A slice of ints that holds these bits. -/
structure Lst (w : World) (A : Option Addr) (cap : Nat) (xs : List Nat) : Prop where
  bit : Bts xs
  cap1 : xs.length ≤ cap
  cap2 : cap ≤ 9223372036854775807
  cell : ∀ i, i < xs.length → ∃ b o, A = some ⟨b, o, none⟩ ∧ w.cell? ⟨b, o + i, none⟩ = some (.int .i64 ((xs.getD i 0 : Nat) : Int))
theorem Lst.below {w w' : World} {A : Option Addr} {cap : Nat} {xs : List Nat} (h : Lst w A cap xs) (hb : Below w.heap.size w w') : Lst w' A cap xs :=
  ⟨h.bit, h.cap1, h.cap2, fun i hi => by
    obtain ⟨b, o, e, hc⟩ := h.cell i hi
    exact ⟨b, o, e, (hb.cell (p := ⟨b, o + i, none⟩) (World.block_lt_of_cell? w _ hc)).trans hc⟩⟩
theorem Lst.alloc {w : World} {A : Option Addr} {cap : Nat} {xs : List Nat} (h : Lst w A cap xs) (o : Obj) : Lst (w.alloc o) A cap xs := h.below (below_alloc (Below.refl _ _) o)
theorem Lst.nil (w : World) (A : Option Addr) (cap : Nat) (h : cap ≤ 9223372036854775807) : Lst w A cap [] := ⟨fun x hx => (by cases hx), Nat.zero_le _, h, fun i hi => (by cases hi)⟩
theorem infoI : (Tryd.prog.info? 3).map (fun i => (i.zero, i.size, i.bytes)) = some (some (.int .i64 0), 1, 8) := by kernel_rfl
abbrev ints (xs : List Nat) : List Value := xs.map fun x : Nat => Value.int .i64 (x : Int)
theorem one_ints (xs : List Nat) : ∀ u ∈ ints xs, u.oneCell' = true := by
  intro u hu
  obtain ⟨n, _, rfl⟩ := List.mem_map.1 hu
  rfl
/-- A list that grows: a slice of the call's own. -/
structure Grow (w : World) (v : Value) (xs : List Nat) (wr : World) : Prop where
  own : wr.ownsRow w.heap.size 3 1 v xs.length (ints xs)
  bit : Bts xs
  below : Below w.heap.size w wr
theorem Grow.start (w : World) : Grow w (.slice (some ⟨w.heap.size, 0, none⟩) 0 0) [] (w.alloc (.cells #[] 3)) :=
  ⟨World.ownsRow_made w #[] 0 (Nat.le_refl _) (by decide) rfl, fun x hx => (by cases hx), below_alloc (Below.refl _ _) _⟩
theorem owns_below {w w' : World} {base : Nat} {e : TypeId} {size : Nat} {v : Value} {n : Nat} {xs : List Value} (h : w.ownsRow base e size v n xs) (hb : Below w.heap.size w w') : w'.ownsRow base e size v n xs := by
  refine ⟨h.1, ?_⟩
  rcases h.2 with hn | ⟨g, cap, cur, rfl, hg, hh, rest⟩
  · exact .inl hn
  · exact .inr ⟨g, cap, cur, rfl, hg, by rw [hb.block g (Array.getElem?_eq_some_iff.1 hh).1]; exact hh, rest⟩
theorem Grow.far {w wr w' : World} {v : Value} {xs : List Nat} (h : Grow w v xs wr) (hb : Below wr.heap.size wr w') : Grow w v xs w' := ⟨owns_below h.own hb, h.bit, below_then h.below hb⟩
theorem Grow.step {w wr w' : World} {v v' : Value} {xs ys : List Nat} (h : Grow w v xs wr) (hy : Bts ys) (hown : w'.ownsRow w.heap.size 3 1 v' (xs.length + ys.length) (ints xs ++ ints ys)) (hg : wr.grownBy w' v.ownBlock) : Grow w v' (xs ++ ys) w' :=
  ⟨by rw [List.length_append, ints, List.map_append]; exact hown, h.bit.append hy, h.below.grown hg h.below.size (fun j hj => (h.own.lt j hj).1)⟩
theorem Grow.lst {w wr : World} {v : Value} {xs : List Nat} (h : Grow w v xs wr) : ∃ A cap, v = .slice A xs.length cap ∧ Lst wr A cap xs := by
  have own := h.own
  obtain ⟨hl, h2⟩ := id own
  rcases h2 with ⟨rfl, hn⟩ | ⟨g, cap, cur, rfl, hg, hh, hc, hm, rest⟩
  · have e : xs = [] := List.eq_nil_of_length_eq_zero hn
    subst e
    exact ⟨none, 0, rfl, Lst.nil _ _ _ (by omega)⟩
  · refine ⟨some ⟨g, 0, none⟩, cap, rfl, h.bit, hc, hm, fun i hi => ⟨g, 0, rfl, ?_⟩⟩
    have := own.cells (g := g) rfl i (.int .i64 ((xs.getD i 0 : Nat) : Int)) (by simp [List.getElem?_eq_getElem hi])
    rw [Addr.add_lit] at this
    exact this
theorem Lst.news {w : World} {a : Addr} {cap : Nat} {xs : List Nat} (h : Lst w (some a) cap xs) (n : Nat) : ∀ (j : Nat) (u : Value), (ints (xs.take n))[j]? = some u → w.cell? (a.add j) = some u := by
  intro j u hu
  rw [List.getElem?_map] at hu
  cases hy : (xs.take n)[j]? with
  | none => rw [hy] at hu; cases hu
  | some y =>
    rw [hy] at hu
    obtain rfl : Value.int .i64 (y : Int) = u := by simpa using hu
    obtain ⟨hj, hyy⟩ := List.getElem?_eq_some_iff.1 hy
    rw [List.length_take] at hj
    obtain ⟨b, o, ea, hc⟩ := h.cell j (by omega)
    obtain rfl : a = ⟨b, o, none⟩ := by simpa using ea
    rw [Addr.add_lit, hc]
    have : (xs.take n)[j]? = xs[j]? := by rw [List.getElem?_take]; split; rfl; omega
    rw [hy] at this
    rw [List.getD_eq_getElem?_getD, ← this]; rfl
theorem new1 (wr : World) (x : Value) (t : TypeId) : ∀ (j : Nat) (u : Value), [x][j]? = some u → (wr.alloc (.cells #[x] t)).cell? ((⟨wr.heap.size, 0, none⟩ : Addr).add j) = some u := by
  intro j u h
  cases j with
  | zero => simp at h; subst h; simp [Addr.add]
  | succ j => simp at h
/-- An answer that is the bits of a number, in a list of its own. -/
def AnsB (xs : List Nat) (w : World) (e : Ending) (w' : World) : Prop :=
  ∃ (A : Option Addr) (cap : Nat), e = .returned (.slice A xs.length cap) ∧ Lst w' A cap xs ∧ Below w.heap.size w w'
theorem Grow.ans {w wr : World} {v : Value} {xs : List Nat} (h : Grow w v xs wr) : AnsB xs w (.returned v) wr := by
  obtain ⟨A, c, rfl, l⟩ := h.lst
  exact ⟨A, c, rfl, l, h.below⟩

set_option maxHeartbeats 1000000 in
theorem rBitsG (n : Nat) (hn : n < 18446744073709551616) (w : World) :
    Calls Tryd.prog 35 #[.int .u64 (n : Int)] w (fun e w' => ∃ v, e = .returned v ∧ Grow w v (bitsK 64 n) w') := by
  obtain ⟨i0, hi, hz0, hz1, hz2⟩ := info_parts infoI
  have HI := Lib.hid hi
  have HZ0 := Lib.hid hz0
  have HZ1 := Lib.hid hz1
  have HZ2 := Lib.hid hz2
  clear hi hz0 hz1 hz2
  go_enter Tryd.func35, Tryd.ntmps35
  go_wp2
  go_loopg [3, 0, 4] 64 (fun g v u i wr => ∃ k m : Nat, k + g = 64 ∧ i = .int .i64 k ∧ u = .int .u64 (m : Int) ∧ Hid (m = n / 2 ^ k) ∧ m < 18446744073709551616 ∧ Hid (Grow w v (bitsK k n) wr))
  case atStart => exact ⟨0, n, by omega, rfl, rfl, Lib.hid (by simp), hn, Lib.hid (Grow.start w)⟩
  case round =>
    obtain ⟨k, m, hk, rfl, rfl, HM, m1, G⟩ := hrel
    by_cases hlt : k < 64
    · have hlt' : (k : Int) < 64 := by omega
      have sz := G.out.below.size
      go_wp2_with (at_builtin; refine wpList_append_own _ rfl _ _ 36 rfl w.heap.size 3 i0 (.int .i64 0) 1 8 Tryd.underlying36 HI.out HZ0.out HZ1.out HZ2.out rfl (by decide) _ _ _ rfl (G.out.own.alloc _) ⟨wr.heap.size, 0, none⟩ 1 1 [.int .i64 ((m % 2 : Nat) : Int)] rfl rfl ?c1 ?c2 ?c3 ?c4 ?c5 ?_)
      case c1 => exact new1 wr _ _
      case c2 => simp [Value.oneCell']
      case c3 => rw [bitsK_length]; unfold maxLen; omega
      case c4 => rw [bitsK_length]; omega
      case c5 => simp; omega
      intro v' w1 hown hgrow _
      have G1 := Lib.hid ((G.out.far (w' := wr.alloc _) (below_alloc (Below.refl _ _) (.cells #[.int .i64 ((m % 2 : Nat) : Int)] 3))).step (ys := [m % 2]) (fun x hx => by rw [List.mem_singleton.1 hx]; omega) (by simpa using hown) hgrow)
      rw [HM.out, ← bitsK_succ] at G1
      clear hown hgrow
      go_wp2
      go_roundg (gk - 1)
      case measure => omega
      case rel => exact ⟨k + 1, m / 2, by omega, by go_num, by simp, Lib.hid (by rw [HM.out, Nat.pow_succ, Nat.div_div_eq_div_mul]), by omega, G1⟩
    · obtain rfl : k = 64 := by omega
      go_wp2
      go_ret
      exact ⟨_, rfl, G.out⟩
theorem rBits (n : Nat) (hn : n < 18446744073709551616) (w : World) :
    Calls Tryd.prog 35 #[.int .u64 (n : Int)] w (AnsB (bitsK 64 n) w) :=
  (rBitsG n hn w).mono fun _ _ ⟨_, e, G⟩ => by rw [e]; exact G.ans
end Go.Proofs.YtemgoikghaiamaaDoor
/-
  What the calls Trim, Parts and Of of the reference of layer 2, and Word of the reference of layer 1, answer.
-/
namespace Go.Proofs.YtemgoikghaiamaaDoor
open Go.RowKit G
set_option linter.unusedVariables false
set_option maxRecDepth 100000

theorem nil_appendI (g c : Nat) (w : World) (hg : w.heap[g]? = some (.cells #[] 3 (0, 0))) : (Builtin.append_ #[36, 36] 36 #[.slice (some ⟨g, 0, none⟩) 0 0, .slice none 0 c]).run Tryd.prog w = .ok (.slice (some ⟨g, 0, none⟩) 0 0) w := by
  obtain ⟨i0, hi, hz0, hz1, hz2⟩ := info_parts infoI
  simp [Builtin.append_, run_underlying Tryd.underlying36, sizeOf, typeInfo, hi, Builtin.lenOf, Builtin.firstCells, storeCells]

set_option maxHeartbeats 1000000 in
theorem trimSome (a : Addr) (cap : Nat) (xs : List Nat) (L N : Nat) (hL : Hid (xs.length = L)) (hN : Hid (leB xs = N)) (hl : L ≤ 1000000) (w : World) (H : Hid (Lst w (some a) cap xs)) :
    Calls Tryd.prog 36 #[.slice (some a) L cap] w (AnsB (bitsOf N) w) := by
  obtain ⟨i0, hi, hz0, hz1, hz2⟩ := info_parts infoI
  have HI := Lib.hid hi
  have HZ0 := Lib.hid hz0
  have HZ1 := Lib.hid hz1
  have HZ2 := Lib.hid hz2
  clear hi hz0 hz1 hz2
  have hc1 : L ≤ cap := by rw [← hL.out]; exact H.out.cap1
  have hc2 := H.out.cap2
  go_enter Tryd.func36, Tryd.ntmps36
  go_wp2
  go_loopg [3] L (fun g i wr => ∃ k : Nat, k ≤ L ∧ k = g ∧ i = .int .i64 k ∧ Hid (∀ j, k ≤ j → xs.getD j 0 = 0) ∧ wr = w)
  case atStart => exact ⟨L, Nat.le_refl _, rfl, rfl, Lib.hid (fun j hj => by rw [List.getD_eq_getElem?_getD, List.getElem?_eq_none (by rw [hL.out]; exact hj)]; rfl), rfl⟩
  case round =>
    obtain ⟨k, hk, rfl, rfl, hz, rfl⟩ := hrel
    have stop : ∀ (hh : k = 0 ∨ xs.getD (k - 1) 0 ≠ 0), xs.take k = bitsOf N := fun hh => take_ownB xs k N H.out.bit hN.out (by rw [hL.out]; exact hk) hz.out hh
    have STOP := Lib.hid stop
    clear stop
    have n0 : (0 : Int) ≤ (k : Int) := by omega
    have n1 : (k : Int) ≤ (cap : Int) := by omega
    by_cases h0 : k = 0
    · subst h0
      have E := Lib.hid (STOP.out (.inl rfl))
      clear STOP
      go_wp2_with (at_builtin; refine wpList_append_own _ rfl _ _ 36 rfl wr.heap.size 3 i0 (.int .i64 0) 1 8 Tryd.underlying36 HI.out HZ0.out HZ1.out HZ2.out rfl (by decide) _ _ _ rfl (Grow.start wr).own a 0 cap (ints (xs.take 0)) rfl rfl ((H.out.alloc _).news 0) (one_ints _) (by unfold maxLen; decide) (by decide) (by simp) ?_; intro v w1 hown hgrow _; have GR := Lib.hid ((Grow.start wr).step (ys := xs.take 0) (fun x hx => by cases hx) (by simpa using hown) hgrow); clear hown hgrow)
      go_ret
      have := GR.out.ans
      rw [List.nil_append, E.out] at this
      exact this
    · obtain ⟨j, rfl⟩ : ∃ j, k = j + 1 := ⟨k - 1, by omega⟩
      obtain ⟨b, o, ea, hc⟩ := H.out.cell j (by rw [hL.out]; omega)
      obtain rfl : a = ⟨b, o, none⟩ := by simpa using ea
      have j1 : (0 : Int) < ((j + 1 : Nat) : Int) := by omega
      have j2 : (((j + 1 : Nat) : Int) - 1) = (j : Int) := by omega
      have j3 : (j : Int) < (L : Int) := by omega
      have j4 : (0 : Int) ≤ (j : Int) := by omega
      by_cases hx : xs.getD j 0 = 0
      · rw [hx] at hc
        have HX := Lib.hid hx
        clear hx
        go_wp2
        go_roundg j
        case measure => omega
        case rel => exact ⟨j, by omega, rfl, rfl, Lib.hid (fun i hi => by
          by_cases e : i = j
          · rw [e]; exact HX.out
          · exact hz.out i (by omega)), rfl⟩
      · have E := Lib.hid (STOP.out (.inr (by simpa using hx)))
        clear STOP
        generalize xs.getD j 0 = x at hc hx
        have hx' : (x == 0) = false := by simpa using hx
        have hx2 : ((x : Int) == 0) = false := by
          have : (x : Int) ≠ 0 := by omega
          simpa using this
        obtain ⟨t, ht⟩ : ∃ t, t = j + 1 := ⟨_, rfl⟩
        rw [← ht] at E n0 n1 j1 j2 ⊢
        have tL : t ≤ L := by omega
        clear hk
        have lt : (ints (xs.take t)).length = t * 1 := by rw [List.length_map, List.length_take, hL.out]; omega
        have LT := Lib.hid lt
        clear lt ht
        go_wp2_with (at_builtin; refine wpList_append_own _ rfl _ _ 36 rfl wr.heap.size 3 i0 (.int .i64 0) 1 8 Tryd.underlying36 HI.out HZ0.out HZ1.out HZ2.out rfl (by decide) _ _ _ rfl (Grow.start wr).own ⟨b, o, none⟩ t cap (ints (xs.take t)) rfl LT.out ((H.out.alloc _).news t) (one_ints _) (by unfold maxLen; simp; omega) (by simp; omega) (by simp) ?_; intro v w1 hown hgrow _; have GR := Lib.hid ((Grow.start wr).step (ys := xs.take t) (fun x hx => H.out.bit x (List.mem_of_mem_take hx)) (by have q := LT.out; rw [List.length_map, Nat.mul_one] at q; rw [q]; simpa using hown) hgrow); clear hown hgrow)
        go_ret
        have := GR.out.ans
        rw [List.nil_append, E.out] at this
        exact this
set_option maxHeartbeats 1000000 in
theorem trimNone (cap : Nat) (hc : cap ≤ 9223372036854775807) (w : World) :
    Calls Tryd.prog 36 #[.slice none 0 cap] w (AnsB [] w) := by
  have hap := nil_appendI w.heap.size cap (w.alloc (.cells #[] 3)) (heap_alloc_new w _)
  have n1 : (0 : Int) ≤ (cap : Int) := by omega
  go_enter Tryd.func36, Tryd.ntmps36
  go_wp2
  go_loopg [3] 0 (fun g i wr => i = .int .i64 0 ∧ wr = w)
  case atStart => exact ⟨rfl, rfl⟩
  case round =>
    obtain ⟨rfl, rfl⟩ := hrel
    go_wp2
    go_ret
    exact ⟨some ⟨wr.heap.size, 0, none⟩, 0, rfl, Lst.nil _ _ _ (by decide), below_alloc (Below.refl _ _) _⟩
theorem rTrim {A : Option Addr} {cap L : Nat} {xs : List Nat} {w : World} (N : Nat) (h : Lst w A cap xs) (hL : xs.length = L) (hN : leB xs = N) (hl : L ≤ 1000000) :
    Calls Tryd.prog 36 #[.slice A L cap] w (AnsB (bitsOf N) w) := by
  cases A with
  | some a => exact trimSome a cap xs L N (Lib.hid hL) (Lib.hid hN) hl w (Lib.hid h)
  | none =>
    have e0 : xs = [] := by
      cases xs with
      | nil => rfl
      | cons x r => obtain ⟨b, o, e, _⟩ := h.cell 0 (by simp); cases e
    subst e0
    subst hL hN
    have : bitsOf (leB []) = [] := bitsOf_zero
    rw [this]
    exact trimNone cap h.cap2 w

theorem rBitsAt (n : Nat) (hn : n < 18446744073709551616) (w : World) : Calls Tryd.prog 35 #[.int .u64 (n : Int)] w (fun e w' => ∃ b o cap, e = .returned (.slice (some ⟨b, o, none⟩) 64 cap) ∧ Lst w' (some ⟨b, o, none⟩) cap (bitsK 64 n) ∧ Below w.heap.size w w') := by
  refine (rBits n hn w).mono ?_
  rintro e w' ⟨A, cap, rfl, l, hb⟩
  obtain ⟨b, o, rfl, _⟩ := l.cell 0 (by rw [bitsK_length]; decide)
  exact ⟨b, o, cap, by rw [bitsK_length], l, hb⟩
set_option maxHeartbeats 1000000 in
theorem partsWalk (A : Option Addr) (cap L N : Nat) (xs : List Nat) (hL : Hid (xs.length = L)) (hN : Hid (leN xs = N)) (hl : L ≤ 10000) (w : World) (P : Hid (Pol w A cap xs)) :
    Calls Tryd.prog 13 #[.slice A L cap] w (AnsB (bitsOf N) w) := by
  obtain ⟨i0, hi, hz0, hz1, hz2⟩ := info_parts infoI
  have HI := Lib.hid hi
  have HZ0 := Lib.hid hz0
  have HZ1 := Lib.hid hz1
  have HZ2 := Lib.hid hz2
  clear hi hz0 hz1 hz2
  go_enter Tryd.func13, Tryd.ntmps13
  go_wp2
  go_loopg [3, 4] L (fun g v i wr => ∃ k : Nat, k + g = L ∧ i = .int .i64 k ∧ Hid (Grow w v (wbits (xs.take k)) wr))
  case atStart => exact ⟨0, by omega, rfl, Lib.hid (Grow.start w)⟩
  case round =>
    obtain ⟨k, hk, rfl, GR⟩ := hrel
    by_cases hlt : k < L
    · have kl : (k : Int) < (L : Int) := by omega
      have k0 : (0 : Int) ≤ (k : Int) := by omega
      obtain ⟨b, o, rfl, hc⟩ := (P.out.below GR.out.below).cell k (by rw [hL.out]; exact hlt)
      have hx := P.out.word.get k
      have W := Lib.hid (wbits_take xs k (by rw [hL.out]; exact hlt))
      have ln : (wbits (xs.take k)).length = 64 * k := by rw [wbits_length, List.length_take, hL.out]; omega
      have LN := Lib.hid ln
      clear ln
      generalize xs.getD k 0 = x at hc hx W
      go_wp2_with fail
      refine (rBitsAt x hx _).mono ?_
      rintro e w1 ⟨b1, o1, c1, rfl, L1, hb⟩
      have G1 := Lib.hid (GR.out.far hb)
      have HL1 := Lib.hid L1
      have T1 := Lib.hid (List.take_length (l := bitsK 64 x))
      rw [bitsK_length] at T1
      have S1 := G1.out.below.size
      clear hb L1
      go_wp2_with (at_builtin; refine wpList_append_own _ rfl _ _ 36 rfl w.heap.size 3 i0 (.int .i64 0) 1 8 Tryd.underlying36 HI.out HZ0.out HZ1.out HZ2.out rfl (by decide) _ _ _ rfl G1.out.own ⟨b1, o1, none⟩ 64 c1 (ints (bitsK 64 x)) rfl (by rw [List.length_map, bitsK_length]) (by have q := HL1.out.news 64; rw [T1.out] at q; exact q) (one_ints _) (by rw [LN.out]; unfold maxLen; omega) (by rw [LN.out]; omega) S1 ?_; intro v w2 hown hgrow _; have G2 := Lib.hid (G1.out.step (bts_bitsK 64 x) (by rw [bitsK_length]; exact hown) hgrow); rw [← W.out] at G2; clear hown hgrow)
      go_roundg (gk - 1)
      case measure => omega
      case rel => exact ⟨k + 1, by omega, by go_num, G2⟩
    · obtain rfl : k = L := by omega
      have kl : ¬ ((k : Int) < (k : Int)) := by omega
      have e : leB (wbits (xs.take k)) = N := by
        rw [← hL.out, List.take_length, leB_wbits xs P.out.word]; exact hN.out
      have ln : (wbits (xs.take k)).length ≤ 1000000 := by rw [wbits_length, List.length_take, hL.out]; omega
      obtain ⟨A', c', rfl, l⟩ := GR.out.lst
      have T := Lib.hid (rTrim N l rfl e ln)
      clear e ln
      go_wp2_with (go_at_call 36; ((with_reducible refine (T.out).mono ?_); rintro e w1 ⟨A1, c1, rfl, l1, hb⟩))
      go_ret
      exact ⟨A1, c1, rfl, l1, below_then GR.out.below hb⟩
theorem rParts {A : Option Addr} {cap L : Nat} {xs : List Nat} {w : World} (N : Nat) (P : Pol w A cap xs) (hL : xs.length = L) (hN : leN xs = N) (hl : L ≤ 10000) :
    Calls Tryd.prog 13 #[.slice A L cap] w (AnsB (bitsOf N) w) := partsWalk A cap L N xs (Lib.hid hL) (Lib.hid hN) hl w (Lib.hid P)
end Go.Proofs.YtemgoikghaiamaaDoor
/-
  Two polynomials that are looked at by Large; bits and degrees of numbers, for the statements of layer 2.
-/
namespace Go.Proofs.YtemgoikghaiamaaDoor
open Go.RowKit G
set_option linter.unusedVariables false

theorem pow_up {N k m : Nat} (h : N < 2 ^ k) (hm : k ≤ m) : N < 2 ^ m := Nat.lt_of_lt_of_le h (Nat.pow_le_pow_right (by decide) hm)
theorem wl' {N : Nat} (k : Nat) (h : N < 2 ^ (64 * k)) (hk : k ≤ 50000) : Hid ((wordsOf N).length ≤ 50000) := Lib.hid (Nat.le_trans (wl k h) hk)
theorem leN_lt' {xs : List Nat} {k : Nat} (h : Wds xs) (hk : xs.length ≤ k) : leN xs < 2 ^ (64 * k) := pow_up (leN_lt xs h) (by omega)
theorem clm_lt' {a b : Nat} (m n k : Nat) (hk : m + n = k) (ha : a < 2 ^ (64 * m)) (hb : b < 2 ^ (64 * n)) : clm a b < 2 ^ (64 * k) := by
  have := clm_lt ha hb
  rwa [← Nat.mul_add, hk] at this
theorem xor_lt' (m : Nat) {a b : Nat} (ha : a < 2 ^ (64 * m)) (hb : b < 2 ^ (64 * m)) : a ^^^ b < 2 ^ (64 * m) := xor_lt ha hb
theorem cells2 (A B : Option Addr) (La ca Lb cb : Nat) (w : World) : ∀ i, i < 2 → (w.alloc (.cells #[.slice A La ca, .slice B Lb cb] 28)).cell? ⟨w.heap.size, i, none⟩ = some (.slice (if i = 0 then A else B) (if i = 0 then La else Lb) (if i = 0 then ca else cb)) := by
  intro i hi
  have : i = 0 ∨ i = 1 := by omega
  rcases this with rfl | rfl <;> simp
theorem bit_num (N k : Nat) : N / 2 ^ k % 2 = (N.testBit k).toNat := by
  rw [bit_mod]
  by_cases h : N / 2 ^ k % 2 = 1
  · simp [h]
  · have : N / 2 ^ k % 2 = 0 := by omega
    simp [this]
theorem sq_bit (N n : Nat) : clm N N / 2 ^ (2 * n) % 2 = N / 2 ^ n % 2 ∧ clm N N / 2 ^ (2 * n + 1) % 2 = 0 := by
  obtain ⟨a, b⟩ := sq_bits N n
  rw [bit_num, bit_num, bit_num, a, b]
  exact ⟨rfl, rfl⟩
theorem top_bit {N k : Nat} (h : len N = k + 1) : N / 2 ^ k % 2 = 1 := by
  have h0 : N ≠ 0 := by intro e; subst e; rw [len_zero] at h; omega
  have := len_bit h0
  rw [bit_num, show k = len N - 1 from by omega, this]; rfl
theorem over_bit {N k : Nat} (h : len N = k) : N / 2 ^ k % 2 = 0 := by
  rw [bit_num, len_bit_out (Nat.le_of_eq h)]; rfl
end Go.Proofs.YtemgoikghaiamaaDoor
/-
  What the calls Of, Add, Up and Mul of the reference of layer 2 answer.
-/
namespace Go.Proofs.YtemgoikghaiamaaDoor
open Go.RowKit G
set_option linter.unusedVariables false

abbrev u64s (xs : List Nat) : List Value := xs.map fun x : Nat => Value.int .u64 (x : Int)
/-- A list of words that grows: a slice of the call's own. -/
structure GrowW (w : World) (v : Value) (xs : List Nat) (wr : World) : Prop where
  own : wr.ownsRow w.heap.size 22 1 v xs.length (u64s xs)
  wds : Wds xs
  below : Below w.heap.size w wr
theorem GrowW.start (w : World) : GrowW w (.slice (some ⟨w.heap.size, 0, none⟩) 0 0) [] (w.alloc (.cells #[] 22)) :=
  ⟨World.ownsRow_made w #[] 0 (Nat.le_refl _) (by decide) rfl, fun x hx => (by cases hx), below_alloc (Below.refl _ _) _⟩
theorem GrowW.far {w wr w' : World} {v : Value} {xs : List Nat} (h : GrowW w v xs wr) (hb : Below wr.heap.size wr w') : GrowW w v xs w' := ⟨owns_below h.own hb, h.wds, below_then h.below hb⟩
theorem GrowW.step {w wr w' : World} {v v' : Value} {xs ys : List Nat} (h : GrowW w v xs wr) (hy : Wds ys) (hown : w'.ownsRow w.heap.size 22 1 v' (xs.length + ys.length) (u64s xs ++ u64s ys)) (hg : wr.grownBy w' v.ownBlock) : GrowW w v' (xs ++ ys) w' :=
  ⟨by rw [List.length_append, u64s, List.map_append]; exact hown, fun x hx => by
    rcases List.mem_append.1 hx with hx | hx
    · exact h.wds x hx
    · exact hy x hx, h.below.grown hg h.below.size (fun j hj => (h.own.lt j hj).1)⟩
theorem sz_len (N k : Nat) : 64 * k < len N ↔ k < (wordsOf N).length := by
  show _ ↔ k < sz N
  by_cases h0 : N = 0
  · subst h0; rw [sz_zero, len_zero]; omega
  · obtain ⟨m, hm⟩ : ∃ m, sz N = m + 1 := ⟨sz N - 1, by have : 0 < sz N := by unfold sz; rw [wordsOf_pos h0]; simp
                                                        omega⟩
    obtain ⟨d1, d2, d3⟩ := deg_top (wordsOf N) N m (wds_wordsOf N) (leN_wordsOf N) hm
    have a := len_pos d1
    have b := len_word ((wds_wordsOf N).get m)
    rw [hm, d2]
    omega
theorem take_next (xs : List Nat) (k x : Nat) (hk : k < xs.length) (hx : xs.getD k 0 = x) : xs.take (k + 1) = xs.take k ++ [x] := by
  rw [List.take_succ_eq_append_getElem hk, ← hx]
  simp [List.getD_eq_getElem?_getD, List.getElem?_eq_getElem hk]
end Go.Proofs.YtemgoikghaiamaaDoor
/-
  Quotients, rests, greatest parts and inverses of polynomials over the field of two, as numbers of bits. Plain mathematics; nothing of the program.
-/
namespace Go.Proofs.YtemgoikghaiamaaDoor.G
set_option linter.unusedVariables false
theorem xor_self_eq {a b : Nat} (h : a ^^^ b = 0) : a = b := by
  have := xor_cancel a b
  rw [h, Nat.zero_xor] at this
  exact this.symm
theorem len_zero_of {a : Nat} (h : len a = 0) : a = 0 := by
  by_cases e : a = 0
  · exact e
  · have := len_pos e; omega
theorem len_one : len 1 = 1 := rfl
theorem one_of_len {a : Nat} (h : len a = 1) : a = 1 := by
  have h0 : a ≠ 0 := by intro e; subst e; rw [len_zero] at h; omega
  have b := len_lt a
  rw [h] at b
  omega
/-- Two of the same degree have a sum of a lesser one. -/
theorem len_xor_top {a b : Nat} (h : len a = len b) (h0 : a ≠ 0) : len (a ^^^ b) < len a := by
  have hb : b ≠ 0 := by intro e; subst e; rw [len_zero] at h; exact h0 (len_zero_of h)
  have up := len_xor_le a b (len a) (Nat.le_refl _) (Nat.le_of_eq h.symm)
  rcases Nat.lt_or_ge (len (a ^^^ b)) (len a) with q | q
  · exact q
  · exfalso
    have e : len (a ^^^ b) = len a := by omega
    have p := len_pos h0
    have n0 : a ^^^ b ≠ 0 := by intro z; rw [z, len_zero] at e; omega
    have t := len_bit n0
    rw [e, Nat.testBit_xor, len_bit h0] at t
    have := len_bit hb
    rw [← h] at this
    rw [this] at t
    cases t
theorem len_xor_lt2 {a b k : Nat} (ha : len a < k) (hb : len b < k) : len (a ^^^ b) < k := by
  have := len_xor_le a b (k - 1) (by omega) (by omega)
  omega
/-- Quotient and rest are the only ones. -/
theorem dm_unique {b q r q' r' : Nat} (hb : b ≠ 0) (h : clm q b ^^^ r = clm q' b ^^^ r') (hr : len r < len b) (hr' : len r' < len b) : q = q' ∧ r = r' := by
  have e : clm (q ^^^ q') b = r ^^^ r' := by
    rw [clm_xor_left]
    have : (clm q b ^^^ r) ^^^ (clm q' b ^^^ r) = (clm q' b ^^^ r') ^^^ (clm q' b ^^^ r) := by rw [h]
    rw [xor4, Nat.xor_self, Nat.xor_zero] at this
    rw [this, xor4, Nat.xor_self, Nat.zero_xor, Nat.xor_comm]
  have l := len_xor_lt2 hr hr'
  by_cases z : q ^^^ q' = 0
  · have := xor_self_eq z
    subst this
    rw [Nat.xor_self, clm_zero_left] at e
    exact ⟨rfl, xor_self_eq e.symm⟩
  · obtain ⟨_, d⟩ := len_clm z hb
    have p := len_pos z
    rw [e] at d
    omega
/-- Quotient and rest, in so many steps. -/
def dm (b : Nat) : Nat → Nat → Nat × Nat
  | 0, a => (0, a)
  | n + 1, a => if len a < len b then (0, a) else ((dm b n (a ^^^ b * 2 ^ (len a - len b))).1 ^^^ 2 ^ (len a - len b), (dm b n (a ^^^ b * 2 ^ (len a - len b))).2)
theorem dm_spec (b : Nat) (hb : b ≠ 0) : ∀ n a, len a ≤ n → clm (dm b n a).1 b ^^^ (dm b n a).2 = a ∧ len (dm b n a).2 < len b := by
  have p := len_pos hb
  intro n
  induction n with
  | zero => intro a h; simp only [dm]; rw [clm_zero_left, Nat.zero_xor]; exact ⟨rfl, by omega⟩
  | succ n ih =>
    intro a h
    unfold dm
    by_cases c : len a < len b
    · rw [if_pos c]; simp only; rw [clm_zero_left, Nat.zero_xor]; exact ⟨rfl, c⟩
    · rw [if_neg c]
      simp only
      have ha : a ≠ 0 := by intro e; subst e; rw [len_zero] at c; omega
      have l1 := len_mul_pow hb (len a - len b)
      have l2 := len_xor_top (a := a) (b := b * 2 ^ (len a - len b)) (by omega) ha
      obtain ⟨i1, i2⟩ := ih (a ^^^ b * 2 ^ (len a - len b)) (by omega)
      refine ⟨?_, i2⟩
      rw [clm_xor_left, clm_comm (2 ^ _), clm_pow, Nat.xor_assoc, Nat.xor_comm (b * _), ← Nat.xor_assoc, i1, xor_cancel]
/-- The quotient; the rest. -/
def qt (a b : Nat) : Nat := (dm b (len a) a).1
def rt (a b : Nat) : Nat := (dm b (len a) a).2
theorem qr {a b : Nat} (hb : b ≠ 0) : clm (qt a b) b ^^^ rt a b = a := (dm_spec b hb _ a (Nat.le_refl _)).1
theorem rt_lt {a b : Nat} (hb : b ≠ 0) : len (rt a b) < len b := (dm_spec b hb _ a (Nat.le_refl _)).2
theorem qr_of {a b q r : Nat} (hb : b ≠ 0) (h : clm q b ^^^ r = a) (hr : len r < len b) : qt a b = q ∧ rt a b = r :=
  dm_unique hb (by rw [qr hb, h]) (rt_lt hb) hr
theorem rt_of {a b : Nat} (q : Nat) {r : Nat} (hb : b ≠ 0) (h : clm q b ^^^ r = a) (hr : len r < len b) : rt a b = r := (qr_of hb h hr).2
theorem rt_small {a b : Nat} (h : len a < len b) : rt a b = a := by
  have hb : b ≠ 0 := by intro e; subst e; rw [len_zero] at h; omega
  exact rt_of 0 hb (by rw [clm_zero_left, Nat.zero_xor]) h
theorem rt_zero_left (b : Nat) : rt 0 b = 0 := rfl
theorem rt_one (a : Nat) : rt a 1 = 0 := by
  have := rt_lt (a := a) (b := 1) (by decide)
  rw [len_one] at this
  exact len_zero_of (by omega)
theorem rt_clm_add {b : Nat} (q r : Nat) (hb : b ≠ 0) : rt (clm q b ^^^ r) b = rt r b := by
  refine rt_of (q ^^^ qt r b) hb ?_ (rt_lt hb)
  rw [clm_xor_left, Nat.xor_assoc, qr hb]
theorem rt_mul {b : Nat} (q : Nat) (hb : b ≠ 0) : rt (clm q b) b = 0 := by
  have := rt_clm_add q 0 hb
  rwa [Nat.xor_zero, rt_zero_left] at this
theorem rt_mul_left {b : Nat} (q : Nat) (hb : b ≠ 0) : rt (clm b q) b = 0 := by rw [clm_comm]; exact rt_mul q hb
theorem rt_xor {a c b : Nat} (hb : b ≠ 0) : rt (a ^^^ c) b = rt a b ^^^ rt c b := by
  refine rt_of (qt a b ^^^ qt c b) hb ?_ (len_xor_lt2 (rt_lt hb) (rt_lt hb))
  rw [clm_xor_left, xor4, qr hb, qr hb]
theorem rt_rt {a b : Nat} (hb : b ≠ 0) : rt (rt a b) b = rt a b := rt_small (rt_lt hb)
theorem rt_clm_left {a c b : Nat} (hb : b ≠ 0) : rt (clm (rt a b) c) b = rt (clm a c) b := by
  have e : clm a c = clm (clm (qt a b) c) b ^^^ clm (rt a b) c := by
    rw [clm_assoc, clm_comm c b, ← clm_assoc, ← clm_xor_left, qr hb]
  rw [e, rt_clm_add _ _ hb]
theorem rt_clm {a c b : Nat} (hb : b ≠ 0) : rt (clm (rt a b) (rt c b)) b = rt (clm a c) b := by
  rw [rt_clm_left hb, clm_comm, rt_clm_left hb, clm_comm]
theorem rt_eq_iff {a c b : Nat} (hb : b ≠ 0) : rt a b = rt c b ↔ rt (a ^^^ c) b = 0 := by
  rw [rt_xor hb]
  exact ⟨fun h => by rw [h, Nat.xor_self], fun h => xor_self_eq h⟩
theorem qt_len {a b : Nat} (hb : b ≠ 0) (h : len b ≤ len a) : len (qt a b) + len b = len a + 1 := by
  have e := qr (a := a) hb
  have l := rt_lt (a := a) hb
  have p := len_pos hb
  have hq : qt a b ≠ 0 := by
    intro z
    rw [z, clm_zero_left, Nat.zero_xor] at e
    rw [e] at l
    omega
  obtain ⟨_, d⟩ := len_clm hq hb
  have pq := len_pos hq
  have := len_xor_lt (a := clm (qt a b) b) (b := rt a b) (by omega)
  rw [e] at this
  omega
/-- b parts a. -/
def Dv (b a : Nat) : Prop := ∃ q, clm q b = a
theorem dv_rt {a b : Nat} (hb : b ≠ 0) : Dv b a ↔ rt a b = 0 := by
  constructor
  · rintro ⟨q, rfl⟩; exact rt_mul q hb
  · intro h
    have := qr (a := a) hb
    rw [h, Nat.xor_zero] at this
    exact ⟨_, this⟩
theorem dv_zero (b : Nat) : Dv b 0 := ⟨0, clm_zero_left b⟩
theorem dv_self (b : Nat) : Dv b b := ⟨1, clm_one_left b⟩
theorem dv_one (a : Nat) : Dv 1 a := ⟨a, clm_one a⟩
theorem dv_xor {b a c : Nat} (h : Dv b a) (k : Dv b c) : Dv b (a ^^^ c) := by
  obtain ⟨q, rfl⟩ := h; obtain ⟨r, rfl⟩ := k
  exact ⟨q ^^^ r, clm_xor_left _ _ _⟩
theorem dv_mul {b a : Nat} (c : Nat) (h : Dv b a) : Dv b (clm c a) := by
  obtain ⟨q, rfl⟩ := h
  exact ⟨clm c q, clm_assoc _ _ _⟩
theorem dv_mul_right {b a : Nat} (c : Nat) (h : Dv b a) : Dv b (clm a c) := by rw [clm_comm]; exact dv_mul c h
theorem dv_trans {a b c : Nat} (h : Dv a b) (k : Dv b c) : Dv a c := by
  obtain ⟨q, rfl⟩ := k
  exact dv_mul q h
theorem dv_len {a b : Nat} (h : Dv b a) (ha : a ≠ 0) : len b ≤ len a := by
  obtain ⟨q, rfl⟩ := h
  have hq : q ≠ 0 := by intro e; subst e; exact ha (clm_zero_left _)
  have hb : b ≠ 0 := by intro e; subst e; exact ha (clm_zero _)
  obtain ⟨_, d⟩ := len_clm hq hb
  have := len_pos hq
  omega
theorem dv_of_zero {a : Nat} (h : Dv 0 a) : a = 0 := by obtain ⟨q, rfl⟩ := h; exact clm_zero _
theorem dv_antisymm {a b : Nat} (h : Dv a b) (k : Dv b a) : a = b := by
  by_cases ha : a = 0
  · subst ha; exact (dv_of_zero h).symm
  by_cases hb : b = 0
  · subst hb; exact dv_of_zero k
  have l1 := dv_len h hb
  have l2 := dv_len k ha
  obtain ⟨q, e⟩ := h
  have hq : q ≠ 0 := by intro z; rw [z, clm_zero_left] at e; exact hb e.symm
  obtain ⟨_, d⟩ := len_clm hq ha
  rw [e] at d
  rw [one_of_len (show len q = 1 by omega), clm_one_left] at e
  exact e
theorem clm_ne {a b : Nat} (ha : a ≠ 0) (hb : b ≠ 0) : clm a b ≠ 0 := (len_clm ha hb).1
theorem clm_cancel {a b c : Nat} (hc : c ≠ 0) (h : clm a c = clm b c) : a = b := by
  by_cases z : a ^^^ b = 0
  · exact xor_self_eq z
  · exfalso
    apply clm_ne z hc
    rw [clm_xor_left, h, Nat.xor_self]
theorem clm_zero_iff {a b : Nat} (h : clm a b = 0) : a = 0 ∨ b = 0 := by
  by_cases ha : a = 0
  · exact .inl ha
  · by_cases hb : b = 0
    · exact .inr hb
    · exact absurd h (clm_ne ha hb)
/-- The greatest part. -/
def gc (a b : Nat) : Nat := if h : b = 0 then a else gc b (rt a b)
  termination_by len b
  decreasing_by exact rt_lt h
theorem gc_zero (a : Nat) : gc a 0 = a := by unfold gc; simp
theorem gc_step {a b : Nat} (h : b ≠ 0) : gc a b = gc b (rt a b) := by rw [gc, dif_neg h]
theorem gc_ind (P : Nat → Nat → Prop) (h0 : ∀ a, P a 0) (h1 : ∀ a b, b ≠ 0 → P b (rt a b) → P a b) : ∀ a b, P a b := by
  have : ∀ n a b, len b ≤ n → P a b := by
    intro n
    induction n with
    | zero => intro a b h; rw [len_zero_of (show len b = 0 by omega)]; exact h0 a
    | succ n ih =>
      intro a b h
      by_cases hb : b = 0
      · subst hb; exact h0 a
      · exact h1 a b hb (ih _ _ (by have := rt_lt (a := a) hb; omega))
  exact fun a b => this _ a b (Nat.le_refl _)
theorem gc_parts (a b : Nat) : Dv (gc a b) a ∧ Dv (gc a b) b := by
  refine gc_ind (fun a b => Dv (gc a b) a ∧ Dv (gc a b) b) (fun a => by rw [gc_zero]; exact ⟨dv_self a, dv_zero a⟩) (fun a b hb ih => ?_) a b
  rw [gc_step hb]
  refine ⟨?_, ih.1⟩
  have := dv_xor (dv_mul (qt a b) ih.1) ih.2
  rwa [qr hb] at this
theorem gc_all {a b c : Nat} : Dv c a → Dv c b → Dv c (gc a b) := by
  refine gc_ind (fun a b => Dv c a → Dv c b → Dv c (gc a b)) (fun a h _ => by rw [gc_zero]; exact h) (fun a b hb ih h k => ?_) a b
  rw [gc_step hb]
  refine ih k ?_
  have := dv_xor h (dv_mul (qt a b) k)
  rwa [show a ^^^ clm (qt a b) b = rt a b from by
    have e := qr (a := a) hb
    calc a ^^^ clm (qt a b) b = (clm (qt a b) b ^^^ rt a b) ^^^ clm (qt a b) b := by rw [e]
      _ = rt a b := by rw [Nat.xor_comm (clm _ _), xor_cancel]] at this
theorem gc_comm (a b : Nat) : gc a b = gc b a :=
  dv_antisymm (gc_all (gc_parts a b).2 (gc_parts a b).1) (gc_all (gc_parts b a).2 (gc_parts b a).1)
theorem gc_zero_left (a : Nat) : gc 0 a = a := by rw [gc_comm, gc_zero]
theorem gc_ne {a b : Nat} (h : a ≠ 0 ∨ b ≠ 0) : gc a b ≠ 0 := by
  intro e
  obtain ⟨p, q⟩ := gc_parts a b
  rw [e] at p q
  rcases h with h | h
  · exact h (dv_of_zero p)
  · exact h (dv_of_zero q)
theorem rt_clm_both {a b c : Nat} (hb : b ≠ 0) (hc : c ≠ 0) : rt (clm a c) (clm b c) = clm (rt a b) c := by
  refine rt_of (qt a b) (clm_ne hb hc) ?_ ?_
  · rw [← clm_assoc, ← clm_xor_left, qr hb]
  · by_cases z : rt a b = 0
    · rw [z, clm_zero_left]
      exact len_pos (clm_ne hb hc)
    · have l := rt_lt (a := a) hb
      have d1 := (len_clm z hc).2
      have d2 := (len_clm hb hc).2
      omega
theorem gc_mul (a b c : Nat) : gc (clm a c) (clm b c) = clm (gc a b) c := by
  by_cases hc : c = 0
  · subst hc; rw [clm_zero, clm_zero, clm_zero, gc_zero]
  · refine gc_ind (fun a b => gc (clm a c) (clm b c) = clm (gc a b) c) (fun a => by rw [clm_zero_left, gc_zero, gc_zero]) (fun a b hb ih => ?_) a b
    rw [gc_step (clm_ne hb hc), rt_clm_both hb hc, ih, gc_step hb]
/-- The factor of the last row: what the row before it is of the first one. -/
def ex (u l a b : Nat) : Nat := if h : b = 0 then u else ex l (u ^^^ clm l (qt a b)) b (rt a b)
  termination_by len b
  decreasing_by exact rt_lt h
theorem ex_zero (u l a : Nat) : ex u l a 0 = u := by unfold ex; simp
theorem ex_step {u l a b : Nat} (h : b ≠ 0) : ex u l a b = ex l (u ^^^ clm l (qt a b)) b (rt a b) := by rw [ex, dif_neg h]
theorem ex_facts (p s : Nat) (hp : p ≠ 0) (a b : Nat) : ∀ u l, len b < len a → rt (clm u s) p = rt a p → rt (clm l s) p = rt b p → len u < len l → len l + len a = len p + 1 →
    rt (clm (ex u l a b) s) p = rt (gc a b) p ∧ len (ex u l a b) + len (gc a b) ≤ len p := by
  refine gc_ind (fun a b => ∀ u l, len b < len a → rt (clm u s) p = rt a p → rt (clm l s) p = rt b p → len u < len l → len l + len a = len p + 1 →
    rt (clm (ex u l a b) s) p = rt (gc a b) p ∧ len (ex u l a b) + len (gc a b) ≤ len p) (fun a u l _ h1 _ h3 h4 => ?_) (fun a b hb ih u l h0 h1 h2 h3 h4 => ?_) a b
  · rw [ex_zero, gc_zero]; exact ⟨h1, by omega⟩
  · rw [ex_step hb, gc_step hb]
    have q := qt_len (a := a) hb (by omega)
    have hl : l ≠ 0 := by intro e; subst e; rw [len_zero] at h3; omega
    have hq : qt a b ≠ 0 := by intro e; rw [e, len_zero] at q; omega
    have d := (len_clm hl hq).2
    have e := len_xor_lt (a := clm l (qt a b)) (b := u) (by omega)
    rw [Nat.xor_comm] at e
    refine ih l (u ^^^ clm l (qt a b)) (rt_lt hb) h2 ?_ (by omega) (by omega)
    have e1 : clm (u ^^^ clm l (qt a b)) s = clm u s ^^^ clm (clm l s) (qt a b) := by
      rw [clm_xor_left, clm_assoc, clm_comm (qt a b), ← clm_assoc]
    have e2 : rt a b = a ^^^ clm b (qt a b) := by
      have := qr (a := a) hb
      rw [clm_comm b]
      calc rt a b = (clm (qt a b) b ^^^ rt a b) ^^^ clm (qt a b) b := by rw [Nat.xor_comm (clm _ _), xor_cancel]
        _ = _ := by rw [this]
    rw [e1, e2, rt_xor hp, rt_xor hp, h1, ← rt_clm_left hp, h2, rt_clm_left hp]
/-- What makes the rest 1, where there is such. -/
def iv (a p : Nat) : Nat := ex 0 1 p (rt a p)
theorem gc_rt {a p : Nat} (hp : p ≠ 0) : gc p (rt a p) = gc a p := (gc_step hp).symm
theorem iv_facts {a p : Nat} (hp : p ≠ 0) (h : gc a p = 1) : rt (clm a (iv a p)) p = rt 1 p ∧ len (iv a p) < len p := by
  have := ex_facts p (rt a p) hp p (rt a p) 0 1 (rt_lt hp) (by rw [clm_zero_left, rt_zero_left]; have := rt_mul 1 hp; rw [clm_one_left] at this; exact this.symm) (by rw [clm_one_left]) (by decide) (by rw [len_one]; omega)
  rw [gc_rt hp, h, len_one] at this
  refine ⟨?_, by unfold iv; omega⟩
  rw [← this.1]
  show rt (clm a (ex 0 1 p (rt a p))) p = _
  rw [clm_comm _ (rt a p), rt_clm_left hp]
theorem qt_lt {a b k : Nat} (hb : b ≠ 0) (h : len a ≤ k) : len (qt a b) ≤ k := by
  by_cases c : len b ≤ len a
  · have := qt_len hb c
    have := len_pos hb
    omega
  · have := (qr_of (q := 0) (r := a) hb (by rw [clm_zero_left, Nat.zero_xor]) (by omega)).1
    rw [this, len_zero]; omega
theorem gc_lt {a b k : Nat} (ha : len a ≤ k) (hb : len b ≤ k) : len (gc a b) ≤ k := by
  by_cases c : b = 0
  · subst c; rw [gc_zero]; exact ha
  · exact Nat.le_trans (dv_len (gc_parts a b).2 c) hb
/-- The product, in so many steps: for numbers that are known. -/
def clmF : Nat → Nat → Nat → Nat
  | 0, _, _ => 0
  | n + 1, a, b => (if b % 2 = 1 then a else 0) ^^^ (2 * clmF n a (b / 2))
theorem clmF_eq : ∀ n a b, b < 2 ^ n → clmF n a b = clm a b
  | 0, a, b, h => by have : b = 0 := by simpa using h
                     subst this; rw [clm_zero]; rfl
  | n + 1, a, b, h => by rw [clmF, clm_step, clmF_eq n a (b / 2) (by rw [Nat.pow_succ] at h; omega)]
theorem clm_by (n : Nat) {a b c : Nat} (h : b < 2 ^ n) (e : clmF n a b = c) : clm a b = c := by rw [← clmF_eq n a b h, e]
end Go.Proofs.YtemgoikghaiamaaDoor.G
/-
  Powers of polynomials over the field of two, as rests; which ones nothing parts; how many roots there are. Plain mathematics; nothing of the program.
-/
namespace Go.Proofs.YtemgoikghaiamaaDoor.G
set_option linter.unusedVariables false
/-- a times itself, so many times. -/
def pw (a : Nat) : Nat → Nat
  | 0 => 1
  | n + 1 => clm (pw a n) a
theorem pw_zero (a : Nat) : pw a 0 = 1 := rfl
theorem pw_succ (a n : Nat) : pw a (n + 1) = clm (pw a n) a := rfl
theorem pw_1 (a : Nat) : pw a 1 = a := by rw [pw_succ, pw_zero, clm_one_left]
theorem pw_2 (a : Nat) : pw a 2 = clm a a := by rw [pw_succ, pw_1]
theorem pw_add (a m n : Nat) : pw a (m + n) = clm (pw a m) (pw a n) := by
  induction n with
  | zero => rw [pw_zero, clm_one]; rfl
  | succ n ih => rw [← Nat.add_assoc, pw_succ, ih, pw_succ, clm_assoc]
theorem pw_mul (a m n : Nat) : pw a (m * n) = pw (pw a m) n := by
  induction n with
  | zero => rfl
  | succ n ih => rw [Nat.mul_succ, pw_add, ih, pw_succ]
theorem clm4 (a b c d : Nat) : clm (clm a b) (clm c d) = clm (clm a c) (clm b d) := by
  rw [clm_assoc, ← clm_assoc b, clm_comm b c, clm_assoc c, ← clm_assoc a]
theorem pw_clm (a b n : Nat) : pw (clm a b) n = clm (pw a n) (pw b n) := by
  induction n with
  | zero => rw [pw_zero, pw_zero, pw_zero, clm_one]
  | succ n ih => rw [pw_succ, ih, pw_succ, pw_succ, clm4]
theorem pw_one (n : Nat) : pw 1 n = 1 := by
  induction n with
  | zero => rfl
  | succ n ih => rw [pw_succ, ih, clm_one]
theorem pw_frob (a b k : Nat) : pw (a ^^^ b) (2 ^ k) = pw a (2 ^ k) ^^^ pw b (2 ^ k) := by
  induction k with
  | zero => rw [Nat.pow_zero, pw_1, pw_1, pw_1]
  | succ k ih => rw [Nat.pow_succ, pw_mul, pw_mul, pw_mul, ih, pw_2, pw_2, pw_2, sq_xor]
theorem pw_zero_base {n : Nat} (h : n ≠ 0) : pw 0 n = 0 := by
  cases n with
  | zero => exact absurd rfl h
  | succ n => rw [pw_succ, clm_zero]
/-- A power as a rest. -/
def pr (a n p : Nat) : Nat := rt (pw a n) p
theorem pr_zero (a p : Nat) : pr a 0 p = rt 1 p := rfl
theorem pr_1 (a p : Nat) : pr a 1 p = rt a p := by unfold pr; rw [pw_1]
theorem pr_lt {a n p : Nat} (hp : p ≠ 0) : len (pr a n p) < len p := rt_lt hp
theorem pr_add {a m n p : Nat} (hp : p ≠ 0) : pr a (m + n) p = rt (clm (pr a m p) (pr a n p)) p := by
  unfold pr; rw [pw_add, rt_clm hp]
theorem pr_succ {a n p : Nat} (hp : p ≠ 0) : pr a (n + 1) p = rt (clm (pr a n p) a) p := by
  unfold pr; rw [pw_succ, rt_clm_left hp]
theorem pr_rt {a n p : Nat} (hp : p ≠ 0) : pr (rt a p) n p = pr a n p := by
  induction n with
  | zero => rfl
  | succ n ih => rw [pr_succ hp, pr_succ hp, ih, clm_comm, rt_clm_left hp, clm_comm]
theorem pr_mul {a m n p : Nat} (hp : p ≠ 0) : pr a (m * n) p = pr (pr a m p) n p := by
  show rt (pw a (m * n)) p = pr (rt (pw a m) p) n p
  rw [pr_rt hp, pw_mul]; rfl
theorem pr_even {a n p : Nat} (hp : p ≠ 0) : pr a (2 * n) p = rt (clm (pr a n p) (pr a n p)) p := by
  rw [show 2 * n = n + n from by omega, pr_add hp]
theorem pr_odd {a n p : Nat} (hp : p ≠ 0) : pr a (2 * n + 1) p = rt (clm (rt (clm (pr a n p) (pr a n p)) p) (rt a p)) p := by
  rw [pr_add hp, pr_even hp, pr_1]
theorem pr_frob {a k p : Nat} (hp : p ≠ 0) : pr a (2 ^ (k + 1)) p = rt (clm (pr a (2 ^ k) p) (pr a (2 ^ k) p)) p := by
  rw [Nat.pow_succ, Nat.mul_comm, pr_even hp]
/-- The rest by p tells the rest by what parts p. -/
theorem rt_part {a f p : Nat} (hf : f ≠ 0) (hp : p ≠ 0) (h : Dv f p) : rt (rt a p) f = rt a f := by
  have e := qr (a := a) hp
  have z : rt (clm (qt a p) p) f = 0 := (dv_rt hf).1 (dv_mul _ h)
  calc rt (rt a p) f = rt (clm (qt a p) p) f ^^^ rt (rt a p) f := by rw [z, Nat.zero_xor]
    _ = rt (clm (qt a p) p ^^^ rt a p) f := (rt_xor hf).symm
    _ = rt a f := by rw [e]

/-- Nothing parts it. -/
def Irr (p : Nat) : Prop := 2 ≤ len p ∧ ∀ q, Dv q p → q = 1 ∨ q = p
theorem Irr.ne {p : Nat} (h : Irr p) : p ≠ 0 := by intro e; subst e; have := h.1; rw [len_zero] at this; omega
theorem irr_gc {f : Nat} (h : Irr f) (a : Nat) : gc a f = 1 ∨ Dv f a := by
  rcases h.2 _ (gc_parts a f).2 with e | e
  · exact .inl e
  · have := (gc_parts a f).1
    rw [e] at this
    exact .inr this
theorem euclid {f a b : Nat} (h : Irr f) (d : Dv f (clm a b)) : Dv f a ∨ Dv f b := by
  rcases irr_gc h a with e | e
  · right
    have m := gc_mul a f b
    rw [e, clm_one_left] at m
    have := gc_all d (dv_mul_right b (dv_self f))
    rwa [m] at this
  · exact .inl e
theorem dv_small {q p : Nat} (hp : p ≠ 0) (h : Dv q p) (hne : q ≠ p) : len q < len p := by
  have l := dv_len h hp
  rcases Nat.lt_or_ge (len q) (len p) with a | a
  · exact a
  · exfalso
    obtain ⟨c, e⟩ := h
    have hc : c ≠ 0 := by intro z; subst z; rw [clm_zero_left] at e; exact hp e.symm
    have hq : q ≠ 0 := by intro z; subst z; rw [clm_zero] at e; exact hp e.symm
    have d := (len_clm hc hq).2
    rw [e] at d
    have := one_of_len (a := c) (by omega)
    rw [this, clm_one_left] at e
    exact hne e
theorem two_of_ne {q : Nat} (h0 : q ≠ 0) (h1 : q ≠ 1) : 2 ≤ len q := by
  have a := len_pos h0
  have b : len q ≠ 1 := fun e => h1 (one_of_len e)
  omega
theorem not_irr {p : Nat} (hp : 2 ≤ len p) (h : ¬ Irr p) : ∃ q, Dv q p ∧ q ≠ 1 ∧ q ≠ p :=
  Classical.byContradiction fun n => h ⟨hp, fun q d => by
    by_cases a : q = 1
    · exact .inl a
    · by_cases b : q = p
      · exact .inr b
      · exact absurd ⟨q, d, a, b⟩ n⟩
theorem irr_part : ∀ n p, len p ≤ n → 2 ≤ len p → ∃ f, Irr f ∧ Dv f p := by
  intro n
  induction n with
  | zero => intro p a b; omega
  | succ n ih =>
    intro p a b
    by_cases h : Irr p
    · exact ⟨p, h, dv_self p⟩
    · have hp : p ≠ 0 := by intro e; subst e; rw [len_zero] at b; omega
      obtain ⟨q, d, q1, q2⟩ := not_irr b h
      have q0 : q ≠ 0 := by intro z; subst z; exact hp (dv_of_zero d)
      have l := dv_small hp d q2
      obtain ⟨f, hf, df⟩ := ih q (by omega) (two_of_ne q0 q1)
      exact ⟨f, hf, dv_trans df d⟩
/-- What isn't irreducible has a part of half its degree at most. -/
theorem small_part {p : Nat} (hp : 2 ≤ len p) (h : ¬ Irr p) : ∃ s, Dv s p ∧ 2 ≤ len s ∧ 2 * (len s - 1) ≤ len p - 1 := by
  have p0 : p ≠ 0 := by intro e; subst e; rw [len_zero] at hp; omega
  obtain ⟨q, ⟨c, e⟩, q1, q2⟩ := not_irr hp h
  have hc : c ≠ 0 := by intro z; subst z; rw [clm_zero_left] at e; exact p0 e.symm
  have hq : q ≠ 0 := by intro z; subst z; rw [clm_zero] at e; exact p0 e.symm
  have c1 : c ≠ 1 := by intro z; subst z; rw [clm_one_left] at e; exact q2 e
  have d := (len_clm hc hq).2
  rw [e] at d
  have l1 := two_of_ne hc c1
  have l2 := two_of_ne hq q1
  by_cases k : len c ≤ len q
  · exact ⟨c, ⟨q, by rw [clm_comm]; exact e⟩, l1, by omega⟩
  · exact ⟨q, ⟨c, e⟩, l2, by omega⟩
theorem product_not {a b : Nat} (ha : 2 ≤ len a) (hb : 2 ≤ len b) : ¬ Irr (clm a b) := by
  intro h
  have a0 : a ≠ 0 := by intro e; subst e; rw [len_zero] at ha; omega
  have b0 : b ≠ 0 := by intro e; subst e; rw [len_zero] at hb; omega
  have d := (len_clm a0 b0).2
  rcases h.2 a ⟨b, clm_comm b a⟩ with e | e
  · rw [e, len_one] at ha; omega
  · rw [← e] at d; omega

/-- The product of a list. -/
def prd : List Nat → Nat
  | [] => 1
  | x :: r => clm x (prd r)
theorem prd_perm {l m : List Nat} (h : l.Perm m) : prd l = prd m := by
  induction h with
  | nil => rfl
  | cons x _ ih => simp only [prd, ih]
  | swap x y l => simp only [prd]; rw [← clm_assoc, clm_comm y x, clm_assoc]
  | trans _ _ h1 h2 => exact h1.trans h2
theorem perm_of : ∀ (l m : List Nat), l.Nodup → (∀ x ∈ l, x ∈ m) → m.length ≤ l.length → l.Perm m
  | [], m, _, _, h => by
    have : m = [] := List.eq_nil_of_length_eq_zero (by simpa using h)
    subst this; exact List.Perm.nil
  | x :: t, m, hn, hs, hl => by
    have hx := hs x (by simp)
    have hn' := List.nodup_cons.1 hn
    have p := List.perm_cons_erase hx
    have l1 := List.length_erase_of_mem hx
    have := perm_of t (m.erase x) hn'.2 (fun y hy => by
      have ne : y ≠ x := by intro e; subst e; exact hn'.1 hy
      exact (List.mem_erase_of_ne ne).2 (hs y (by simp [hy]))) (by simp only [List.length_cons] at hl; omega)
    exact (this.cons x).trans p.symm
theorem nodup_map : ∀ (l : List Nat) (g : Nat → Nat), l.Nodup → (∀ x ∈ l, ∀ y ∈ l, g x = g y → x = y) → (l.map g).Nodup
  | [], _, _, _ => List.nodup_nil
  | x :: t, g, hn, hi => by
    have hn' := List.nodup_cons.1 hn
    rw [List.map_cons, List.nodup_cons]
    refine ⟨fun h => ?_, nodup_map t g hn'.2 (fun a ha b hb => hi a (by simp [ha]) b (by simp [hb]))⟩
    obtain ⟨y, hy, e⟩ := List.mem_map.1 h
    have := hi y (by simp [hy]) x (by simp) e
    subst this
    exact hn'.1 hy
theorem prd_map {f a : Nat} (hf : f ≠ 0) : ∀ l : List Nat, rt (prd (l.map fun r => rt (clm a r) f)) f = rt (clm (pw a l.length) (prd l)) f
  | [] => by simp [prd, pw, clm_one]
  | x :: t => by
    have ih := prd_map (a := a) hf t
    simp only [List.map_cons, prd, List.length_cons, pw_succ]
    rw [rt_clm_left hf, ← rt_clm hf, ih, rt_clm hf]
    congr 1
    rw [clm_comm (pw a t.length) a, clm4]
theorem prd_not {f : Nat} (h : Irr f) : ∀ l : List Nat, (∀ x ∈ l, ¬ Dv f x) → ¬ Dv f (prd l)
  | [], _ => fun d => by
    have := dv_len d (by simp [prd])
    have l := h.1
    simp only [prd, len_one] at this
    omega
  | x :: t, hx => fun d => by
    rcases euclid h d with e | e
    · exact hx x (by simp) e
    · exact prd_not h t (fun y hy => hx y (by simp [hy])) e
theorem not_dv {f r : Nat} (h0 : r ≠ 0) (hl : len r < len f) : ¬ Dv f r := fun d => by have := dv_len d h0; omega
theorem len_bd {r k : Nat} (h : r < 2 ^ k) : len r ≤ k := len_le h
theorem fermat {f a : Nat} (h : Irr f) (ha : ¬ Dv f a) : pr a (2 ^ (len f - 1) - 1) f = 1 := by
  have f0 := h.ne
  have f1 := h.1
  have hd := Nat.two_pow_pos (len f - 1)
  have mem : ∀ r, r ∈ List.range' 1 (2 ^ (len f - 1) - 1) → r ≠ 0 ∧ len r < len f := fun r hr => by
    have := List.mem_range'_1.1 hr
    exact ⟨by omega, by have := len_bd (r := r) (k := len f - 1) (by omega); omega⟩
  have nm : ∀ r, r ≠ 0 → len r < len f → r ∈ List.range' 1 (2 ^ (len f - 1) - 1) := fun r h0 hl => by
    refine List.mem_range'_1.2 ⟨by omega, ?_⟩
    have := Nat.lt_of_lt_of_le (len_lt r) (Nat.pow_le_pow_right (n := 2) (by decide) (show len r ≤ len f - 1 by omega))
    omega
  have nz : ∀ r, r ≠ 0 → len r < len f → rt (clm a r) f ≠ 0 := fun r h0 hl e => by
    rcases euclid h ((dv_rt f0).2 e) with d | d
    · exact ha d
    · exact not_dv h0 hl d
  have pm : (List.map (fun r => rt (clm a r) f) (List.range' 1 (2 ^ (len f - 1) - 1))).Perm (List.range' 1 (2 ^ (len f - 1) - 1)) := by
    refine perm_of _ _ (nodup_map _ _ List.nodup_range' (fun x hx y hy e => ?_)) (fun x hx => ?_) (by simp)
    · have e1 := (rt_eq_iff f0).1 e
      rw [← clm_xor] at e1
      rcases euclid h ((dv_rt f0).2 e1) with d | d
      · exact absurd d ha
      · by_cases z : x ^^^ y = 0
        · exact xor_self_eq z
        · exact absurd d (not_dv z (len_xor_lt2 (mem x hx).2 (mem y hy).2))
    · obtain ⟨r, hr, rfl⟩ := List.mem_map.1 hx
      exact nm _ (nz r (mem r hr).1 (mem r hr).2) (rt_lt f0)
  have e := prd_map (a := a) f0 (List.range' 1 (2 ^ (len f - 1) - 1))
  rw [prd_perm pm, List.length_range'] at e
  have e2 : rt (prd (List.range' 1 (2 ^ (len f - 1) - 1))) f = rt (clm 1 (prd (List.range' 1 (2 ^ (len f - 1) - 1)))) f := by rw [clm_one_left]
  have e3 := (rt_eq_iff f0).1 (e2.symm.trans e)
  rw [← clm_xor_left] at e3
  rcases euclid h ((dv_rt f0).2 e3) with d | d
  · have := (rt_eq_iff f0).2 ((dv_rt f0).1 d)
    rw [rt_small (show len 1 < len f by rw [len_one]; omega)] at this
    exact this.symm
  · exact absurd d (prd_not h _ (fun x hx => not_dv (mem x hx).1 (mem x hx).2))
theorem fermat2 {f : Nat} (h : Irr f) (a : Nat) : pr a (2 ^ (len f - 1)) f = rt a f := by
  have f0 := h.ne
  have hd := Nat.two_pow_pos (len f - 1)
  obtain ⟨m, hm⟩ : ∃ m, 2 ^ (len f - 1) = m + 1 := ⟨2 ^ (len f - 1) - 1, by omega⟩
  rw [hm, pr_succ f0]
  by_cases ha : Dv f a
  · have z := (dv_rt f0).1 ha
    rw [z]
    exact (dv_rt f0).1 (dv_mul _ ha)
  · have := fermat h ha
    rw [hm, Nat.add_sub_cancel] at this
    rw [this, clm_one_left]

/-- What Irreducible asks. -/
def Asked (p : Nat) : Prop := ∀ i, 1 ≤ i → i ≤ (len p - 1) / 2 → gc (pr 2 (2 ^ i) p ^^^ 2) p = 1
theorem irr_of_asked {p : Nat} (hp : 2 ≤ len p) (h : Asked p) : Irr p := Classical.byContradiction fun n => by
  have p0 : p ≠ 0 := by intro e; subst e; rw [len_zero] at hp; omega
  obtain ⟨s, ds, l1, l2⟩ := small_part hp n
  have s0 : s ≠ 0 := by intro e; subst e; rw [len_zero] at l1; omega
  obtain ⟨f, hf, df⟩ := irr_part _ s (Nat.le_refl _) l1
  have lf := dv_len df s0
  have f1 := hf.1
  have dp := dv_trans df ds
  have g := h (len f - 1) (by omega) (by omega)
  have z : rt (pr 2 (2 ^ (len f - 1)) p ^^^ 2) f = 0 := by
    rw [rt_xor hf.ne]
    unfold pr
    rw [rt_part hf.ne p0 dp]
    have := fermat2 hf 2
    unfold pr at this
    rw [this, Nat.xor_self]
  have := gc_all ((dv_rt hf.ne).2 z) dp
  rw [g] at this
  have := dv_len this (by decide)
  rw [len_one] at this
  omega
/-- A polynomial of degree n over numbers, of which the highest part is 1. -/
def Mp : Nat → (Nat → Nat) → Prop
  | 0, g => ∀ y, g y = 1
  | n + 1, g => ∃ (h : Nat → Nat) (c : Nat), Mp n h ∧ ∀ y, g y = clm y (h y) ^^^ c
theorem mp_div : ∀ (n : Nat) (g : Nat → Nat), Mp (n + 1) g → ∀ r, ∃ q, Mp n q ∧ ∀ y, g y ^^^ g r = clm (y ^^^ r) (q y)
  | 0, g, ⟨h, c, hh, hg⟩, r => ⟨fun _ => 1, fun _ => rfl, fun y => by
    rw [hg, hg, hh, hh, clm_one, clm_one, clm_one, xor4, Nat.xor_self, Nat.xor_zero]⟩
  | n + 1, g, ⟨h, c, hh, hg⟩, r => by
    obtain ⟨k, hk, e⟩ := mp_div n h hh r
    refine ⟨fun y => clm y (k y) ^^^ h r, ⟨k, h r, hk, fun _ => rfl⟩, fun y => ?_⟩
    rw [hg, hg, xor4, Nat.xor_self, Nat.xor_zero, clm_xor, ← clm_assoc, clm_comm (y ^^^ r) y, clm_assoc, ← e, clm_xor, clm_xor_left]
    rw [Nat.xor_assoc, ← Nat.xor_assoc (clm y (h r)), Nat.xor_self, Nat.zero_xor]
theorem mp_roots {p : Nat} (hp : Irr p) : ∀ (n : Nat) (g : Nat → Nat), Mp n g → ∀ l : List Nat, l.Nodup → (∀ y ∈ l, len y < len p ∧ Dv p (g y)) → l.length ≤ n
  | _, _, _, [], _, _ => by simp
  | 0, g, hg, r :: t, _, hr => by
    have d := (hr r (by simp)).2
    rw [hg r] at d
    have := dv_len d (by decide)
    have l := hp.1
    rw [len_one] at this
    omega
  | n + 1, g, hg, r :: t, hn, hr => by
    have hn' := List.nodup_cons.1 hn
    obtain ⟨q, hq, e⟩ := mp_div n g hg r
    have := mp_roots hp n q hq t hn'.2 (fun y hy => by
      have a := hr y (by simp [hy])
      have b := hr r (by simp)
      refine ⟨a.1, ?_⟩
      have d := dv_xor a.2 b.2
      rw [e] at d
      rcases euclid hp d with k | k
      · exfalso
        by_cases z : y ^^^ r = 0
        · have := xor_self_eq z
          subst this
          exact hn'.1 hy
        · exact not_dv z (len_xor_lt2 a.1 b.1) k
      · exact k)
    simp only [List.length_cons]
    omega
theorem mp_pw : ∀ n, Mp n (fun y => pw y n)
  | 0 => fun _ => rfl
  | n + 1 => ⟨fun y => pw y n, 0, mp_pw n, fun y => by show pw y (n + 1) = clm y (pw y n) ^^^ 0; rw [pw_succ, clm_comm, Nat.xor_zero]⟩
theorem mp_frob (n : Nat) : Mp (n + 2) (fun y => pw y (n + 2) ^^^ y) :=
  ⟨fun y => pw y (n + 1) ^^^ 1, 0, ⟨fun y => pw y n, 1, mp_pw n, fun y => by show pw y (n + 1) ^^^ 1 = clm y (pw y n) ^^^ 1; rw [pw_succ, clm_comm]⟩, fun y => by
    show pw y (n + 2) ^^^ y = clm y (pw y (n + 1) ^^^ 1) ^^^ 0
    rw [clm_xor, clm_one, clm_comm y, ← pw_succ, Nat.xor_zero]⟩
theorem frob_all {p i : Nat} (hp : p ≠ 0) (h : Dv p (pw 2 (2 ^ i) ^^^ 2)) : ∀ y, Dv p (pw y (2 ^ i) ^^^ y) := by
  have h1 := (rt_eq_iff hp).2 ((dv_rt hp).1 h)
  have key : ∀ b, rt (pw b (2 ^ i)) p = rt b p → rt (pw (2 * b) (2 ^ i)) p = rt (2 * b) p := fun b ih => by
    have e : 2 * b = clm b 2 := by have := clm_pow b 1; simpa [Nat.mul_comm] using this.symm
    rw [e, pw_clm, ← rt_clm hp, ih, h1, rt_clm hp]
  intro y
  refine (dv_rt hp).2 ((rt_eq_iff hp).1 ?_)
  refine bin (fun y => rt (pw y (2 ^ i)) p = rt y p) ?_ key (fun b ih => ?_) y
  · rw [pw_zero_base (by have := Nat.two_pow_pos i; omega)]
  · rw [odd_xor, pw_frob, pw_one, rt_xor hp, rt_xor hp, key b ih]
theorem asked_of_irr {p : Nat} (h : Irr p) : Asked p := fun i i1 i2 => by
  have p0 := h.ne
  have l := h.1
  rcases h.2 _ (gc_parts (pr 2 (2 ^ i) p ^^^ 2) p).2 with e | e
  · exact e
  · exfalso
    have d := (gc_parts (pr 2 (2 ^ i) p ^^^ 2) p).1
    rw [e] at d
    have d2 : Dv p (pw 2 (2 ^ i) ^^^ 2) := by
      refine (dv_rt p0).2 ?_
      have := (dv_rt p0).1 d
      rw [rt_xor p0] at this ⊢
      unfold pr at this
      rw [rt_rt p0] at this
      exact this
    have all := frob_all p0 d2
    obtain ⟨n, hn⟩ : ∃ n, 2 ^ i = n + 2 := ⟨2 ^ i - 2, by
      have : 2 ^ 1 ≤ 2 ^ i := Nat.pow_le_pow_right (by decide) i1
      omega⟩
    have := mp_roots h (n + 2) (fun y => pw y (n + 2) ^^^ y) (mp_frob n) (List.range (2 ^ (len p - 1))) List.nodup_range (fun y hy => by
      have := List.mem_range.1 hy
      refine ⟨by have := len_bd this; omega, ?_⟩
      have := all y
      rw [hn] at this
      exact this)
    rw [List.length_range, ← hn] at this
    have := (Nat.pow_le_pow_iff_right (a := 2) (by decide)).1 this
    omega
theorem irr_iff {p : Nat} (hp : 2 ≤ len p) : Irr p ↔ Asked p := ⟨asked_of_irr, irr_of_asked hp⟩
/-- What the reference asks, of a degree up to 16. -/
def Tried (p : Nat) : Prop := ∀ n, 2 ≤ n → n < 512 → 2 * (len n - 1) ≤ len p - 1 → rt p n ≠ 0
theorem irr_tried {p : Nat} (hp : 2 ≤ len p) (hl : len p ≤ 17) : Irr p ↔ Tried p := by
  constructor
  · intro h n n1 n2 n3 e
    have n0 : n ≠ 0 := by omega
    rcases h.2 n ((dv_rt n0).2 e) with k | k
    · omega
    · rw [k] at n3; omega
  · intro h
    refine Classical.byContradiction fun n => ?_
    obtain ⟨s, ds, l1, l2⟩ := small_part hp n
    have s0 : s ≠ 0 := by intro e; subst e; rw [len_zero] at l1; omega
    have s1 : s ≠ 1 := by intro e; subst e; rw [len_one] at l1; omega
    have s2 := Nat.lt_of_lt_of_le (len_lt s) (Nat.pow_le_pow_right (n := 2) (by decide) (show len s ≤ 9 by omega))
    exact h s (by omega) s2 l2 ((dv_rt s0).1 ds)
end Go.Proofs.YtemgoikghaiamaaDoor.G
/-
  The mathematics of xoshiro256**: states, their next ones and those ahead, sums, words and lowest bits.
-/
namespace Go.Proofs.YtemgoikghaiamaaDoor.G
set_option linter.unusedVariables false

/-- A word, so many places up. -/
def sl (n x : Nat) : Nat := x * 2 ^ n % 18446744073709551616
theorem sl_lt (n x : Nat) : sl n x < 18446744073709551616 := Nat.mod_lt _ (by decide)
theorem sl_bit (n x i : Nat) : (sl n x).testBit i = (decide (i < 64) && (decide (n ≤ i) && x.testBit (i - n))) := by
  unfold sl
  rw [show (18446744073709551616 : Nat) = 2 ^ 64 from rfl, Nat.testBit_mod_two_pow, bit_shift]
theorem sl_xor (n x y : Nat) : sl n (x ^^^ y) = sl n x ^^^ sl n y := by
  refine Nat.eq_of_testBit_eq (fun i => ?_)
  rw [Nat.testBit_xor, sl_bit, sl_bit, sl_bit, Nat.testBit_xor]
  cases decide (i < 64) <;> cases decide (n ≤ i) <;> cases x.testBit (i - n) <;> cases y.testBit (i - n) <;> rfl
theorem sl_sl (m n x : Nat) : sl m (sl n x) = sl (m + n) x := by
  refine Nat.eq_of_testBit_eq (fun i => ?_)
  rw [sl_bit, sl_bit, sl_bit]
  by_cases h0 : i < 64
  · by_cases h1 : m ≤ i
    · by_cases h2 : n ≤ i - m
      · rw [show i - (m + n) = i - m - n by omega]
        simp [h0, h1, h2, show m + n ≤ i by omega, show i - m < 64 by omega]
      · simp [h0, h1, h2, show ¬ (m + n ≤ i) by omega]
    · simp [h1, show ¬ (m + n ≤ i) by omega]
  · simp [h0]
theorem sl_out {n : Nat} (h : 64 ≤ n) (x : Nat) : sl n x = 0 := by
  refine Nat.eq_of_testBit_eq (fun i => ?_)
  rw [sl_bit, Nat.zero_testBit]
  by_cases h0 : i < 64
  · simp [show ¬ n ≤ i by omega]
  · simp [h0]
/-- A word turned by so many places. -/
def tn (k x : Nat) : Nat := upW k x x
theorem tn_lt {k x : Nat} (h : x < 18446744073709551616) : tn k x < 18446744073709551616 := upW_lt k x x h
theorem tn_bit {k x : Nat} (h0 : 0 < k) (h1 : k < 64) (h : x < 18446744073709551616) (i : Nat) : (tn k x).testBit i = (decide (i < 64) && if k ≤ i then x.testBit (i - k) else x.testBit (64 - k + i)) := by
  have e := sl_bit k x i
  unfold sl at e
  unfold tn upW
  rw [Nat.testBit_or, e, Nat.testBit_div_two_pow]
  by_cases i0 : i < 64
  · by_cases i1 : k ≤ i
    · have := bit_word h (i := 64 - k + i) (by omega)
      rw [Nat.add_comm] at this
      first
        | simp [i0, i1, this]
        | (rw [Nat.add_comm] at this; simp [i0, i1, this])
    · rw [Nat.add_comm (64 - k) i]
      first
        | simp [i0, i1]
        | (rw [Nat.add_comm i (64 - k)]; simp [i0, i1])
  · have := bit_word h (i := 64 - k + i) (by omega)
    rw [Nat.add_comm] at this
    first
      | simp [i0, this]
      | (rw [Nat.add_comm] at this; simp [i0, this])
theorem tn_xor {k x y : Nat} (h0 : 0 < k) (h1 : k < 64) (hx : x < 18446744073709551616) (hy : y < 18446744073709551616) : tn k (x ^^^ y) = tn k x ^^^ tn k y := by
  refine Nat.eq_of_testBit_eq (fun i => ?_)
  rw [Nat.testBit_xor, tn_bit h0 h1 (word_xor hx hy), tn_bit h0 h1 hx, tn_bit h0 h1 hy]
  by_cases i0 : i < 64 <;> by_cases i1 : k ≤ i <;> simp [i0, i1, Nat.testBit_xor]
theorem tn_tn {k x : Nat} (h0 : 0 < k) (h1 : k < 64) (hx : x < 18446744073709551616) : tn (64 - k) (tn k x) = x := by
  refine Nat.eq_of_testBit_eq (fun i => ?_)
  rw [tn_bit (by omega) (by omega) (tn_lt hx)]
  by_cases i0 : i < 64
  · by_cases i1 : 64 - k ≤ i
    · rw [if_pos i1, tn_bit h0 h1 hx, if_neg (by omega), show 64 - k + (i - (64 - k)) = i by omega]
      simp [i0, show i - (64 - k) < 64 by omega]
    · rw [if_neg i1, tn_bit h0 h1 hx, if_pos (by omega), show 64 - (64 - k) + i - k = i by omega]
      simp [i0, show 64 - (64 - k) + i < 64 by omega]
  · rw [bit_word hx (by omega)]; simp [i0]
/-- What unshift tells. -/
def unsh (w : Nat) : Nat := w ^^^ sl 17 w ^^^ sl 34 (w ^^^ sl 17 w)
theorem unsh_lt {w : Nat} (h : w < 18446744073709551616) : unsh w < 18446744073709551616 := word_xor (word_xor h (sl_lt _ _)) (sl_lt _ _)
theorem unsh_sh (x : Nat) : unsh (x ^^^ sl 17 x) = x := by
  unfold unsh
  simp only [sl_xor, sl_sl, Nat.reduceAdd]
  rw [sl_out (n := 68) (by decide)]
  refine Nat.eq_of_testBit_eq (fun i => ?_)
  simp only [Nat.testBit_xor, Nat.zero_testBit]
  generalize x.testBit i = p, (sl 17 x).testBit i = q, (sl 34 x).testBit i = r, (sl 51 x).testBit i = s
  revert p q r s; decide
theorem sh_unsh (w : Nat) : unsh w ^^^ sl 17 (unsh w) = w := by
  unfold unsh
  simp only [sl_xor, sl_sl, Nat.reduceAdd]
  rw [sl_out (n := 68) (by decide)]
  refine Nat.eq_of_testBit_eq (fun i => ?_)
  simp only [Nat.testBit_xor, Nat.zero_testBit]
  generalize w.testBit i = p, (sl 17 w).testBit i = q, (sl 34 w).testBit i = r, (sl 51 w).testBit i = s
  revert p q r s; decide

/-- A state. -/
structure St where
  a : Nat
  b : Nat
  c : Nat
  d : Nat
deriving DecidableEq
/-- Its words are words. -/
structure St.Ok (s : St) : Prop where
  a : s.a < 18446744073709551616
  b : s.b < 18446744073709551616
  c : s.c < 18446744073709551616
  d : s.d < 18446744073709551616
def St.zero : St := ⟨0, 0, 0, 0⟩
def stepS (s : St) : St := ⟨s.a ^^^ (s.d ^^^ s.b), s.b ^^^ (s.c ^^^ s.a), s.c ^^^ s.a ^^^ sl 17 s.b, tn 45 (s.d ^^^ s.b)⟩
/-- The b of the state ahead. -/
def aheadS (s : St) : Nat := unsh (s.b ^^^ s.c)
def backS (s : St) : St := ⟨s.a ^^^ tn 19 s.d, aheadS s, s.b ^^^ aheadS s ^^^ (s.a ^^^ tn 19 s.d), tn 19 s.d ^^^ aheadS s⟩
def addS (s t : St) : St := ⟨s.a ^^^ t.a, s.b ^^^ t.b, s.c ^^^ t.c, s.d ^^^ t.d⟩
theorem St.Ok.step {s : St} (h : s.Ok) : (stepS s).Ok := ⟨word_xor h.a (word_xor h.d h.b), word_xor h.b (word_xor h.c h.a), word_xor (word_xor h.c h.a) (sl_lt _ _), tn_lt (word_xor h.d h.b)⟩
theorem St.Ok.ahead {s : St} (h : s.Ok) : aheadS s < 18446744073709551616 := unsh_lt (word_xor h.b h.c)
theorem St.Ok.back {s : St} (h : s.Ok) : (backS s).Ok := ⟨word_xor h.a (tn_lt h.d), h.ahead, word_xor (word_xor h.b h.ahead) (word_xor h.a (tn_lt h.d)), word_xor (tn_lt h.d) h.ahead⟩
theorem St.Ok.add {s t : St} (h : s.Ok) (k : t.Ok) : (addS s t).Ok := ⟨word_xor h.a k.a, word_xor h.b k.b, word_xor h.c k.c, word_xor h.d k.d⟩
theorem St.Ok.zero : St.zero.Ok := ⟨by decide, by decide, by decide, by decide⟩
theorem St.same {s t : St} (h1 : s.a = t.a) (h2 : s.b = t.b) (h3 : s.c = t.c) (h4 : s.d = t.d) : s = t := by cases s; cases t; simp_all
theorem back_step {s : St} (h : s.Ok) : backS (stepS s) = s := by
  have e1 : tn 19 (stepS s).d = s.d ^^^ s.b := tn_tn (k := 45) (by decide) (by decide) (word_xor h.d h.b)
  have e2 : aheadS (stepS s) = s.b := by
    unfold aheadS stepS
    rw [show s.b ^^^ (s.c ^^^ s.a) ^^^ (s.c ^^^ s.a ^^^ sl 17 s.b) = s.b ^^^ sl 17 s.b by
      rw [Nat.xor_assoc, ← Nat.xor_assoc (s.c ^^^ s.a), Nat.xor_self, Nat.zero_xor], unsh_sh]
  have e3 : (stepS s).a ^^^ (s.d ^^^ s.b) = s.a := xor_cancel _ _
  refine St.same ?_ ?_ ?_ ?_
  · show (stepS s).a ^^^ tn 19 (stepS s).d = _
    rw [e1, e3]
  · exact e2
  · show (stepS s).b ^^^ aheadS (stepS s) ^^^ ((stepS s).a ^^^ tn 19 (stepS s).d) = _
    rw [e1, e2, e3]
    show s.b ^^^ (s.c ^^^ s.a) ^^^ s.b ^^^ s.a = s.c
    rw [Nat.xor_comm s.b, xor_cancel, xor_cancel]
  · show tn 19 (stepS s).d ^^^ aheadS (stepS s) = _
    rw [e1, e2, xor_cancel]
theorem step_back {s : St} (h : s.Ok) : stepS (backS s) = s := by
  have e1 : (backS s).d ^^^ (backS s).b = tn 19 s.d := xor_cancel _ _
  have e2 : (backS s).c ^^^ (backS s).a = s.b ^^^ aheadS s := xor_cancel _ _
  refine St.same ?_ ?_ ?_ ?_
  · show (backS s).a ^^^ ((backS s).d ^^^ (backS s).b) = _
    rw [e1]; exact xor_cancel _ _
  · show (backS s).b ^^^ ((backS s).c ^^^ (backS s).a) = _
    rw [e2]
    show aheadS s ^^^ (s.b ^^^ aheadS s) = _
    rw [Nat.xor_comm, xor_cancel]
  · show (backS s).c ^^^ (backS s).a ^^^ sl 17 (backS s).b = _
    rw [e2]
    show s.b ^^^ aheadS s ^^^ sl 17 (aheadS s) = _
    rw [Nat.xor_assoc]
    unfold aheadS
    rw [sh_unsh, ← Nat.xor_assoc, Nat.xor_self, Nat.zero_xor]
  · show tn 45 ((backS s).d ^^^ (backS s).b) = _
    rw [e1]
    exact tn_tn (k := 19) (by decide) (by decide) h.d
theorem step_zero : stepS St.zero = St.zero := by decide +kernel
theorem back_zero : backS St.zero = St.zero := by decide +kernel
theorem step_right {s : St} (h : s.Ok) : stepS s = St.zero ↔ s = St.zero :=
  ⟨fun e => by rw [← back_step h, e, back_zero], fun e => by rw [e, step_zero]⟩
theorem back_right {s : St} (h : s.Ok) : backS s = St.zero ↔ s = St.zero :=
  ⟨fun e => by rw [← step_back h, e, step_zero], fun e => by rw [e, back_zero]⟩
theorem step_add {s t : St} (h : s.Ok) (k : t.Ok) : stepS (addS s t) = addS (stepS s) (stepS t) := by
  refine St.same ?_ ?_ ?_ ?_
  · show s.a ^^^ t.a ^^^ (s.d ^^^ t.d ^^^ (s.b ^^^ t.b)) = s.a ^^^ (s.d ^^^ s.b) ^^^ (t.a ^^^ (t.d ^^^ t.b))
    rw [xor4 s.d, xor4 s.a]
  · show s.b ^^^ t.b ^^^ (s.c ^^^ t.c ^^^ (s.a ^^^ t.a)) = s.b ^^^ (s.c ^^^ s.a) ^^^ (t.b ^^^ (t.c ^^^ t.a))
    rw [xor4 s.c, xor4 s.b]
  · show s.c ^^^ t.c ^^^ (s.a ^^^ t.a) ^^^ sl 17 (s.b ^^^ t.b) = s.c ^^^ s.a ^^^ sl 17 s.b ^^^ (t.c ^^^ t.a ^^^ sl 17 t.b)
    rw [xor4 s.c, sl_xor, xor4 (s.c ^^^ s.a)]
  · show tn 45 (s.d ^^^ t.d ^^^ (s.b ^^^ t.b)) = tn 45 (s.d ^^^ s.b) ^^^ tn 45 (t.d ^^^ t.b)
    rw [xor4 s.d, tn_xor (by decide) (by decide) (word_xor h.d h.b) (word_xor k.d k.b)]
theorem add_add (s t : St) : addS (addS s t) t = s := St.same (xor_cancel _ _) (xor_cancel _ _) (xor_cancel _ _) (xor_cancel _ _)
theorem add_comm (s t : St) : addS s t = addS t s := St.same (Nat.xor_comm _ _) (Nat.xor_comm _ _) (Nat.xor_comm _ _) (Nat.xor_comm _ _)

def wordS (s : St) : Nat := tn 7 (s.b * 5 % 18446744073709551616) * 9 % 18446744073709551616
theorem wordS_lt (s : St) : wordS s < 18446744073709551616 := Nat.mod_lt _ (by decide)
/-- So many steps. -/
def iterS (s : St) : Nat → St
  | 0 => s
  | k + 1 => stepS (iterS s k)
theorem St.Ok.iter {s : St} (h : s.Ok) : ∀ k, (iterS s k).Ok
  | 0 => h
  | k + 1 => (h.iter k).step
theorem iter_right {s : St} (h : s.Ok) : ∀ k, iterS s k = St.zero ↔ s = St.zero
  | 0 => Iff.rfl
  | k + 1 => (step_right (h.iter k)).trans (iter_right h k)
theorem iterS_add (s : St) (m : Nat) : ∀ n, iterS s (m + n) = iterS (iterS s m) n
  | 0 => rfl
  | n + 1 => by show stepS (iterS s (m + n)) = _; rw [iterS_add s m n]; rfl
/-- So many words. -/
def rowS (s : St) : Nat → List Nat
  | 0 => []
  | k + 1 => rowS s k ++ [wordS (iterS s k)]
theorem rowS_len (s : St) : ∀ k, (rowS s k).length = k
  | 0 => rfl
  | k + 1 => by rw [rowS, List.length_append, rowS_len s k]; rfl
theorem rowS_add (s : St) (m : Nat) : ∀ n, rowS s (m + n) = rowS s m ++ rowS (iterS s m) n
  | 0 => by simp [rowS]
  | n + 1 => by
    show rowS s (m + n) ++ [wordS (iterS s (m + n))] = _
    rw [rowS_add s m n, iterS_add, List.append_assoc]; rfl
theorem rowS_wds (s : St) : ∀ k, Wds (rowS s k)
  | 0 => fun y hy => by cases hy
  | k + 1 => fun y hy => by
    rcases List.mem_append.1 hy with h | h
    · exact rowS_wds s k y h
    · rw [List.mem_singleton.1 h]; exact wordS_lt _
/-- The lowest bit. -/
def bitS (s : St) : Bool := decide (s.a % 2 = 1)
/-- So many lowest bits. -/
def bitsS (s : St) : Nat → List Bool
  | 0 => []
  | k + 1 => bitsS s k ++ [bitS (iterS s k)]
theorem bitsS_len (s : St) : ∀ k, (bitsS s k).length = k
  | 0 => rfl
  | k + 1 => by rw [bitsS, List.length_append, bitsS_len s k]; rfl
theorem bitsS_get (s : St) : ∀ n k, k < n → (bitsS s n).getD k false = bitS (iterS s k)
  | n + 1, k, h => by
    rw [bitsS]
    by_cases e : k < n
    · have := bitsS_get s n k e
      rw [List.getD_eq_getElem?_getD] at this ⊢
      rwa [List.getElem?_append_left (by rw [bitsS_len]; exact e)]
    · obtain rfl : k = n := by omega
      rw [List.getD_eq_getElem?_getD, List.getElem?_append_right (by rw [bitsS_len]; exact Nat.le_refl _), bitsS_len, Nat.sub_self]; rfl
theorem iterS_lin {s t : St} (h : s.Ok) (k : t.Ok) : ∀ n, iterS (addS s t) n = addS (iterS s n) (iterS t n)
  | 0 => rfl
  | n + 1 => by
    show stepS (iterS (addS s t) n) = addS (stepS (iterS s n)) (stepS (iterS t n))
    rw [iterS_lin h k n, step_add (h.iter n) (k.iter n)]
theorem bitS_add (s t : St) : bitS (addS s t) = (bitS s != bitS t) := by
  have e := Nat.testBit_xor s.a t.a 0
  rw [Nat.testBit_zero, Nat.testBit_zero, Nat.testBit_zero] at e
  unfold bitS
  show decide ((s.a ^^^ t.a) % 2 = 1) = _
  rw [e]
theorem bits_lin {s t : St} (h : s.Ok) (k : t.Ok) (n i : Nat) (hi : i < n) : (bitsS (addS s t) n).getD i false = ((bitsS s n).getD i false != (bitsS t n).getD i false) := by
  rw [bitsS_get _ _ _ hi, bitsS_get _ _ _ hi, bitsS_get _ _ _ hi, iterS_lin h k, bitS_add]
end Go.Proofs.YtemgoikghaiamaaDoor.G
