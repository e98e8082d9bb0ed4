/-
  Polynomials over the field of two as numbers of bits: products without carries, lists of words. Plain mathematics; nothing of the program.
-/
namespace Go.Proofs.Ytfnfjfmkhnofkaa.G
/-- The product of two polynomials over the field of two, each as the number of its bits. -/
def clm (a : Nat) (b : Nat) : Nat :=
  if b = 0 then 0 else (if b % 2 = 1 then a else 0) ^^^ (2 * clm a (b / 2))
  termination_by b
  decreasing_by omega

theorem clm_zero (a : Nat) : clm a 0 = 0 := by unfold clm; simp
theorem clm_step (a b : Nat) : clm a b = (if b % 2 = 1 then a else 0) ^^^ (2 * clm a (b / 2)) := by
  by_cases h : b = 0
  · subst h; simp [clm_zero]
  · rw [clm, if_neg h]
theorem two_xor (a b : Nat) : 2 * (a ^^^ b) = 2 * a ^^^ 2 * b := by
  have := Nat.shiftLeft_xor_distrib (a := a) (b := b) (i := 1)
  simp only [Nat.shiftLeft_eq, Nat.pow_one] at this
  rw [Nat.mul_comm 2, Nat.mul_comm 2, Nat.mul_comm 2]; exact this
theorem clm_even (a b : Nat) : clm a (2 * b) = 2 * clm a b := by
  rw [clm_step a (2 * b), if_neg (by omega), Nat.zero_xor, show 2 * b / 2 = b from by omega]
theorem clm_odd (a b : Nat) : clm a (2 * b + 1) = a ^^^ 2 * clm a b := by
  rw [clm_step, if_pos (by omega), show (2 * b + 1) / 2 = b from by omega]
theorem bin (P : Nat → Prop) (h0 : P 0) (he : ∀ b, P b → P (2 * b)) (ho : ∀ b, P b → P (2 * b + 1)) : ∀ b, P b := by
  intro b
  induction b using Nat.strongRecOn with
  | _ b ih =>
    by_cases h : b = 0
    · subst h; exact h0
    · have := ih (b / 2) (by omega)
      rcases Nat.mod_two_eq_zero_or_one b with e | e
      · have := he _ this; rwa [show 2 * (b / 2) = b from by omega] at this
      · have := ho _ this; rwa [show 2 * (b / 2) + 1 = b from by omega] at this
theorem xor4 (a b c d : Nat) : (a ^^^ b) ^^^ (c ^^^ d) = (a ^^^ c) ^^^ (b ^^^ d) := by
  rw [Nat.xor_assoc, ← Nat.xor_assoc b, Nat.xor_comm b c, Nat.xor_assoc c, ← Nat.xor_assoc a]
theorem clm_xor_left (a a' b : Nat) : clm (a ^^^ a') b = clm a b ^^^ clm a' b := by
  refine bin (fun b => clm (a ^^^ a') b = clm a b ^^^ clm a' b) (by simp [clm_zero]) (fun b ih => ?_) (fun b ih => ?_) b
  · simp only [clm_even, ih, two_xor]
  · simp only [clm_odd, ih, two_xor]; exact xor4 _ _ _ _
theorem clm_two_left (a b : Nat) : clm (2 * a) b = 2 * clm a b := by
  refine bin (fun b => clm (2 * a) b = 2 * clm a b) (by simp [clm_zero]) (fun b ih => ?_) (fun b ih => ?_) b
  · simp only [clm_even, ih]
  · simp only [clm_odd, ih, two_xor]
theorem clm_zero_left (b : Nat) : clm 0 b = 0 := by
  refine bin (fun b => clm 0 b = 0) (clm_zero 0) (fun b ih => ?_) (fun b ih => ?_) b
  · simp only [clm_even, ih]
  · simp only [clm_odd, ih]; rfl
theorem odd_xor (b : Nat) : 2 * b + 1 = 2 * b ^^^ 1 := by
  refine Nat.eq_of_testBit_eq (fun i => ?_)
  cases i with
  | zero => simp [Nat.testBit_zero]
  | succ i => simp only [Nat.testBit_succ, Nat.xor_div_two]; rw [show (2 * b + 1) / 2 = b from by omega, show 2 * b / 2 = b from by omega]; simp
theorem clm_one (a : Nat) : clm a 1 = a := by
  have := clm_odd a 0; simpa [clm_zero] using this
theorem clm_one_left (b : Nat) : clm 1 b = b := by
  refine bin (fun b => clm 1 b = b) (clm_zero 1) (fun b ih => ?_) (fun b ih => ?_) b
  · simp only [clm_even, ih]
  · simp only [clm_odd, ih]; rw [odd_xor, Nat.xor_comm]
theorem clm_comm (a b : Nat) : clm a b = clm b a := by
  refine bin (fun b => clm a b = clm b a) (by rw [clm_zero, clm_zero_left]) (fun b ih => ?_) (fun b ih => ?_) b
  · rw [clm_even, clm_two_left, ih]
  · rw [clm_odd, odd_xor, clm_xor_left, clm_two_left, clm_one_left, ih, Nat.xor_comm]
theorem clm_xor (a b b' : Nat) : clm a (b ^^^ b') = clm a b ^^^ clm a b' := by
  rw [clm_comm, clm_xor_left, clm_comm b, clm_comm b']
theorem clm_assoc (a b c : Nat) : clm (clm a b) c = clm a (clm b c) := by
  refine bin (fun c => clm (clm a b) c = clm a (clm b c)) (by simp [clm_zero]) (fun c ih => ?_) (fun c ih => ?_) c
  · simp only [clm_even, ih]
  · simp only [clm_odd, ih, clm_xor, clm_even]
theorem clm_pow (a n : Nat) : clm a (2 ^ n) = a * 2 ^ n := by
  induction n with
  | zero => simp [clm_one]
  | succ n ih => rw [Nat.pow_succ, Nat.mul_comm (2 ^ n), clm_even, ih, ← Nat.mul_assoc, Nat.mul_comm 2 a, Nat.mul_assoc]
theorem clm_shift (a b n : Nat) : clm a (b * 2 ^ n) = clm a b * 2 ^ n := by
  rw [← clm_pow, ← clm_assoc, clm_pow]
theorem clm_shift_left (a b n : Nat) : clm (a * 2 ^ n) b = clm a b * 2 ^ n := by
  rw [clm_comm, clm_shift, clm_comm]
theorem xor_cancel (a b : Nat) : a ^^^ b ^^^ b = a := by rw [Nat.xor_assoc, Nat.xor_self, Nat.xor_zero]
theorem xor_shift (a b n : Nat) : (a ^^^ b) * 2 ^ n = a * 2 ^ n ^^^ b * 2 ^ n := by
  have := Nat.shiftLeft_xor_distrib (a := a) (b := b) (i := n)
  simpa only [Nat.shiftLeft_eq] using this

theorem sq_even (a : Nat) : clm (2 * a) (2 * a) = 2 * (2 * clm a a) := by rw [clm_even, clm_two_left]
theorem sq_xor (a b : Nat) : clm (a ^^^ b) (a ^^^ b) = clm a a ^^^ clm b b := by
  rw [clm_xor, clm_xor_left, clm_xor_left, clm_comm b a]
  rw [Nat.xor_assoc, ← Nat.xor_assoc (clm a b), Nat.xor_self, Nat.zero_xor]
theorem sq_odd (a : Nat) : clm (2 * a + 1) (2 * a + 1) = 2 * (2 * clm a a) + 1 := by
  rw [odd_xor, sq_xor, sq_even, clm_one, odd_xor]
theorem bit_even (a i : Nat) : (2 * a).testBit (i + 1) = a.testBit i := by rw [Nat.testBit_succ, show 2 * a / 2 = a from by omega]
theorem bit_odd (a i : Nat) : (2 * a + 1).testBit (i + 1) = a.testBit i := by rw [Nat.testBit_succ, show (2 * a + 1) / 2 = a from by omega]
theorem bit_even0 (a : Nat) : (2 * a).testBit 0 = false := by simp [Nat.testBit_zero]
theorem bit_odd0 (a : Nat) : (2 * a + 1).testBit 0 = true := by simp [Nat.testBit_zero]
theorem sq_bits (a : Nat) : ∀ n, (clm a a).testBit (2 * n) = a.testBit n ∧ (clm a a).testBit (2 * n + 1) = false := by
  refine bin (fun a => ∀ n, (clm a a).testBit (2 * n) = a.testBit n ∧ (clm a a).testBit (2 * n + 1) = false) (by simp [clm_zero]) (fun b ih n => ?_) (fun b ih n => ?_) a
  · rw [sq_even]
    cases n with
    | zero => exact ⟨by rw [Nat.mul_zero, bit_even0, bit_even0], by rw [bit_even, Nat.mul_zero, bit_even0]⟩
    | succ n =>
      rw [show 2 * (n + 1) = (2 * n) + 1 + 1 from by omega, bit_even, bit_even, bit_even, bit_even, bit_even]
      exact ih n
  · rw [sq_odd]
    cases n with
    | zero => exact ⟨by rw [Nat.mul_zero, bit_odd0, bit_odd0], by rw [bit_odd, Nat.mul_zero, bit_even0]⟩
    | succ n =>
      rw [show 2 * (n + 1) = (2 * n) + 1 + 1 from by omega, bit_odd, bit_even, bit_odd, bit_odd, bit_even]
      exact ih n
/-- Degrees: how many bits a number has. -/
def len : Nat → Nat := fun n => if n = 0 then 0 else Nat.log2 n + 1
theorem len_zero : len 0 = 0 := rfl
theorem len_lt (n : Nat) : n < 2 ^ len n := by
  unfold len; split
  · subst_vars; decide
  · exact Nat.lt_log2_self
theorem len_le {n k : Nat} (h : n < 2 ^ k) : len n ≤ k := by
  unfold len; split
  · omega
  · exact (Nat.log2_lt (by assumption)).2 h
theorem len_ge {n : Nat} (h : n ≠ 0) : 2 ^ (len n - 1) ≤ n := by
  unfold len; rw [if_neg h]; exact Nat.log2_self_le h
theorem len_pos {n : Nat} (h : n ≠ 0) : 0 < len n := by unfold len; rw [if_neg h]; omega
theorem len_of {n k : Nat} (h1 : 2 ^ k ≤ n) (h2 : n < 2 ^ (k + 1)) : len n = k + 1 := by
  have a := len_le h2
  have h0 : n ≠ 0 := by have := Nat.two_pow_pos k; omega
  have b := len_lt n
  have c : 2 ^ k < 2 ^ len n := by omega
  have := (Nat.pow_lt_pow_iff_right (by decide : 1 < 2)).1 c
  omega
theorem len_two {n : Nat} (h : n ≠ 0) : len (2 * n) = len n + 1 := by
  have a := len_ge h; have b := len_lt n; have c := len_pos h
  refine len_of ?_ ?_
  · have : 2 ^ len n = 2 * 2 ^ (len n - 1) := by rw [← Nat.pow_succ']; congr 1; omega
    omega
  · rw [Nat.pow_succ]; omega
theorem xor_lt {a b k : Nat} (ha : a < 2 ^ k) (hb : b < 2 ^ k) : a ^^^ b < 2 ^ k := Nat.xor_lt_two_pow ha hb
theorem len_xor_le (a b k : Nat) (ha : len a ≤ k) (hb : len b ≤ k) : len (a ^^^ b) ≤ k :=
  len_le (xor_lt (Nat.lt_of_lt_of_le (len_lt a) (Nat.pow_le_pow_right (by decide) ha)) (Nat.lt_of_lt_of_le (len_lt b) (Nat.pow_le_pow_right (by decide) hb)))
theorem len_bit {a : Nat} (h : a ≠ 0) : a.testBit (len a - 1) = true := by
  have a1 := len_ge h; have b := len_lt a; have c := len_pos h
  rw [Nat.testBit_eq_decide_div_mod_eq]
  have e : 2 ^ len a = 2 * 2 ^ (len a - 1) := by rw [← Nat.pow_succ']; congr 1; omega
  have : a / 2 ^ (len a - 1) = 1 := by
    apply Nat.div_eq_of_lt_le <;> omega
  simp [this]
theorem len_bit_out {a i : Nat} (h : len a ≤ i) : a.testBit i = false :=
  Nat.testBit_lt_two_pow (Nat.lt_of_lt_of_le (len_lt a) (Nat.pow_le_pow_right (by decide) h))
theorem len_xor_lt {a b : Nat} (h : len b < len a) : len (a ^^^ b) = len a := by
  have ha : a ≠ 0 := by intro e; subst e; simp [len_zero] at h
  have up := len_xor_le a b (len a) (Nat.le_refl _) (Nat.le_of_lt h)
  have hb := len_bit ha
  have ho := len_bit_out (a := b) (i := len a - 1) (by omega)
  have : (a ^^^ b).testBit (len a - 1) = true := by rw [Nat.testBit_xor, hb, ho]; rfl
  have p := len_pos ha
  by_cases q : len (a ^^^ b) ≤ len a - 1
  · rw [len_bit_out q] at this; cases this
  · omega
theorem len_clm {a b : Nat} (ha : a ≠ 0) : b ≠ 0 → clm a b ≠ 0 ∧ len (clm a b) + 1 = len a + len b := by
  refine bin (fun b => b ≠ 0 → clm a b ≠ 0 ∧ len (clm a b) + 1 = len a + len b) (fun h => (h rfl).elim) (fun b ih h => ?_) (fun b ih h => ?_) b
  · have hb : b ≠ 0 := by omega
    obtain ⟨i1, i2⟩ := ih hb
    rw [clm_even, len_two i1, len_two hb]
    exact ⟨by omega, by omega⟩
  · by_cases hb : b = 0
    · subst hb; rw [Nat.mul_zero, Nat.zero_add, clm_one]; exact ⟨ha, rfl⟩
    · obtain ⟨i1, i2⟩ := ih hb
      have e := len_two i1
      have pb := len_pos hb
      have e2 : len (2 * b + 1) = len b + 1 := by
        rw [odd_xor, len_xor_lt, len_two hb]
        rw [len_two hb]; show len 1 < _; have : len 1 = 1 := rfl; omega
      have e3 : len (clm a (2 * b + 1)) = len (clm a b) + 1 := by
        rw [clm_odd, Nat.xor_comm, len_xor_lt, e]
        omega
      refine ⟨fun z => ?_, by omega⟩
      rw [z, len_zero] at e3; omega
theorem len_mul_pow {a : Nat} (ha : a ≠ 0) (n : Nat) : len (a * 2 ^ n) = len a + n := by
  have h := (len_clm ha (b := 2 ^ n) (by have := Nat.two_pow_pos n; omega)).2
  rw [clm_pow] at h
  have : len (2 ^ n) = n + 1 := len_of (Nat.le_refl _) (by rw [Nat.pow_succ]; have := Nat.two_pow_pos n; omega)
  omega
theorem clm_lt {a b m n : Nat} (ha : a < 2 ^ m) (hb : b < 2 ^ n) : clm a b < 2 ^ (m + n) := by
  by_cases h1 : a = 0
  · subst h1; rw [clm_zero_left]; exact Nat.two_pow_pos _
  by_cases h2 : b = 0
  · subst h2; rw [clm_zero]; exact Nat.two_pow_pos _
  have h := (len_clm h1 h2).2
  have := len_le ha; have := len_le hb
  exact Nat.lt_of_lt_of_le (len_lt _) (Nat.pow_le_pow_right (by decide) (by omega))

/-- The number of a list of words, the lowest one first. -/
def leN : List Nat → Nat
  | [] => 0
  | x :: r => x + 18446744073709551616 * leN r
/-- All are words of 64 bits. -/
def Wds (xs : List Nat) : Prop := ∀ x ∈ xs, x < 18446744073709551616
theorem Wds.head {x : Nat} {r : List Nat} (h : Wds (x :: r)) : x < 18446744073709551616 := h x (by simp)
theorem Wds.tail {x : Nat} {r : List Nat} (h : Wds (x :: r)) : Wds r := fun y hy => h y (by simp [hy])
theorem Wds.get {xs : List Nat} (h : Wds xs) (i : Nat) : xs.getD i 0 < 18446744073709551616 := by
  rw [List.getD_eq_getElem?_getD]
  by_cases hi : i < xs.length
  · rw [List.getElem?_eq_getElem hi]; exact h _ (List.getElem_mem hi)
  · rw [List.getElem?_eq_none (by omega)]; decide
/-- The words of a number: its own form. -/
def wordsOf (n : Nat) : List Nat := if n = 0 then [] else n % 18446744073709551616 :: wordsOf (n / 18446744073709551616)
  termination_by n
  decreasing_by omega
theorem wordsOf_zero : wordsOf 0 = [] := by unfold wordsOf; simp
theorem wordsOf_pos {n : Nat} (h : n ≠ 0) : wordsOf n = n % 18446744073709551616 :: wordsOf (n / 18446744073709551616) := by rw [wordsOf, if_neg h]
theorem wordsOf_facts (n : Nat) : leN (wordsOf n) = n ∧ Wds (wordsOf n) := by
  induction n using Nat.strongRecOn with
  | _ n ih =>
    by_cases h : n = 0
    · subst h; rw [wordsOf_zero]; exact ⟨rfl, fun x hx => by cases hx⟩
    · rw [wordsOf_pos h]
      obtain ⟨a, b⟩ := ih (n / 18446744073709551616) (by omega)
      refine ⟨by simp only [leN, a]; omega, fun x hx => ?_⟩
      rcases List.mem_cons.1 hx with rfl | hx
      · omega
      · exact b x hx
theorem leN_wordsOf (n : Nat) : leN (wordsOf n) = n := (wordsOf_facts n).1
theorem wds_wordsOf (n : Nat) : Wds (wordsOf n) := (wordsOf_facts n).2
theorem wordsOf_len (k : Nat) : ∀ {n : Nat}, n < 2 ^ (64 * k) → (wordsOf n).length ≤ k := by
  induction k with
  | zero => intro n h; have : n = 0 := by simpa using h
            subst this; rw [wordsOf_zero]; simp
  | succ k ih =>
    intro n h
    by_cases hn : n = 0
    · subst hn; rw [wordsOf_zero]; simp
    · rw [wordsOf_pos hn, List.length_cons]
      have : n / 18446744073709551616 < 2 ^ (64 * k) := by
        rw [Nat.div_lt_iff_lt_mul (by decide), show (18446744073709551616 : Nat) = 2 ^ 64 from rfl, ← Nat.pow_add, show 64 * k + 64 = 64 * (k + 1) from by omega]; exact h
      have := ih this
      omega
theorem leN_cons (x : Nat) (r : List Nat) : leN (x :: r) = x + 18446744073709551616 * leN r := rfl
theorem leN_zero {xs : List Nat} (h : ∀ i, xs.getD i 0 = 0) : leN xs = 0 := by
  induction xs with
  | nil => rfl
  | cons x r ih =>
    have h0 := h 0
    have := ih (fun i => by have := h (i + 1); simpa using this)
    simp at h0
    rw [leN_cons, this, h0]
/-- The first n words of a list, where all behind are 0 and the last of them isn't, are the own form. -/
theorem take_own : ∀ (xs : List Nat) (n : Nat), Wds xs → n ≤ xs.length → (∀ i, n ≤ i → xs.getD i 0 = 0) → (n = 0 ∨ xs.getD (n - 1) 0 ≠ 0) → xs.take n = wordsOf (leN xs)
  | xs, 0, _, _, hz, _ => by rw [leN_zero (fun i => hz i (Nat.zero_le _)), wordsOf_zero, List.take_zero]
  | [], n + 1, _, hl, _, _ => by simp at hl
  | x :: r, n + 1, hw, hl, hz, hn => by
    have hx := hw.head
    have hne : (x :: r).getD n 0 ≠ 0 := by
      rcases hn with h | h
      · omega
      · simpa using h
    have ih := take_own r n hw.tail (by simpa using hl) (fun i hi => by have := hz (i + 1) (by omega); simpa using this) (by
      cases n with
      | zero => exact .inl rfl
      | succ n => right; simpa using hne)
    have nz : x + 18446744073709551616 * leN r ≠ 0 := by
      intro e
      have e1 : x = 0 := by omega
      have e2 : leN r = 0 := by omega
      rw [e2, wordsOf_zero] at ih
      cases n with
      | zero => exact hne (by simp [e1])
      | succ n =>
        have := congrArg List.length ih
        simp only [List.length_take, List.length_nil, List.length_cons] at this hl
        omega
    rw [leN_cons, wordsOf_pos nz, List.take_succ_cons, show (x + 18446744073709551616 * leN r) % 18446744073709551616 = x from by omega, show (x + 18446744073709551616 * leN r) / 18446744073709551616 = leN r from by omega, ih]
theorem bit_leN : ∀ (xs : List Nat) (k : Nat), Wds xs → (leN xs).testBit k = (xs.getD (k / 64) 0).testBit (k % 64)
  | [], k, _ => by simp [leN]
  | x :: r, k, hw => by
    have h := Nat.testBit_two_pow_mul_add (leN r) (b := x) (i := 64) hw.head k
    rw [leN_cons, Nat.add_comm, show (18446744073709551616 : Nat) = 2 ^ 64 from rfl, h]
    by_cases hk : k < 64
    · rw [if_pos hk, show k / 64 = 0 from by omega, show k % 64 = k from by omega]; rfl
    · rw [if_neg hk, bit_leN r (k - 64) hw.tail, show k / 64 = (k - 64) / 64 + 1 from by omega, show (k - 64) % 64 = k % 64 from by omega]; simp
theorem leN_lt : ∀ (xs : List Nat), Wds xs → leN xs < 2 ^ (64 * xs.length)
  | [], _ => by simp [leN]
  | x :: r, hw => by
    have := leN_lt r hw.tail
    have hx := hw.head
    rw [leN_cons, List.length_cons, show 64 * (r.length + 1) = 64 * r.length + 64 from by omega, Nat.pow_add, show (2 : Nat) ^ 64 = 18446744073709551616 from rfl]
    omega
theorem bit_word {x : Nat} (hx : x < 18446744073709551616) {i : Nat} (hi : 64 ≤ i) : x.testBit i = false :=
  Nat.testBit_lt_two_pow (Nat.lt_of_lt_of_le hx (by rw [show (18446744073709551616 : Nat) = 2 ^ 64 from rfl]; exact Nat.pow_le_pow_right (by decide) hi))
theorem bit_shift (v n i : Nat) : (v * 2 ^ n).testBit i = (decide (n ≤ i) && v.testBit (i - n)) := by
  rw [Nat.mul_comm, Nat.testBit_two_pow_mul]
theorem getD_set (ps : List Nat) (k v i : Nat) (hk : k < ps.length) : (ps.set k v).getD i 0 = if i = k then v else ps.getD i 0 := by
  simp only [List.getD_eq_getElem?_getD, List.getElem?_set]
  by_cases h : i = k
  · subst h; simp [hk]
  · rw [if_neg (fun e => h e.symm), if_neg h]
theorem Wds.set {ps : List Nat} (h : Wds ps) (k v : Nat) (hv : v < 18446744073709551616) : Wds (ps.set k v) := by
  intro x hx
  rcases List.mem_or_eq_of_mem_set hx with h1 | h1
  · exact h x h1
  · rw [h1]; exact hv
theorem word_xor {a b : Nat} (ha : a < 18446744073709551616) (hb : b < 18446744073709551616) : a ^^^ b < 18446744073709551616 := Nat.xor_lt_two_pow (n := 64) ha hb
/-- A word that is added to one of a list. -/
theorem leN_set_xor (ps : List Nat) (k v : Nat) (hw : Wds ps) (hk : k < ps.length) (hv : v < 18446744073709551616) : leN (ps.set k (ps.getD k 0 ^^^ v)) = leN ps ^^^ v * 2 ^ (64 * k) := by
  refine Nat.eq_of_testBit_eq (fun i => ?_)
  rw [bit_leN _ _ (hw.set k _ (word_xor (hw.get k) hv)), Nat.testBit_xor, bit_leN _ _ hw, bit_shift, getD_set _ _ _ _ hk]
  by_cases h : i / 64 = k
  · rw [if_pos h, Nat.testBit_xor, ← h, show i - 64 * (i / 64) = i % 64 from by omega, show decide (64 * (i / 64) ≤ i) = true from by simp; omega]; simp
  · rw [if_neg h]
    by_cases h2 : 64 * k ≤ i
    · rw [bit_word hv (by omega)]; simp
    · simp [h2]
theorem leN_take_succ (xs : List Nat) (k : Nat) (hw : Wds xs) : leN (xs.take (k + 1)) = leN (xs.take k) ^^^ xs.getD k 0 * 2 ^ (64 * k) := by
  have ht : ∀ n, Wds (xs.take n) := fun n x hx => hw x (List.mem_of_mem_take hx)
  refine Nat.eq_of_testBit_eq (fun i => ?_)
  rw [Nat.testBit_xor, bit_leN _ _ (ht _), bit_leN _ _ (ht _), bit_shift]
  simp only [List.getD_eq_getElem?_getD, List.getElem?_take]
  by_cases h : i / 64 = k
  · rw [if_pos (by omega), if_neg (by omega), ← h, show i - 64 * (i / 64) = i % 64 from by omega, show decide (64 * (i / 64) ≤ i) = true from by simp; omega]; simp
  · have e : (decide (64 * k ≤ i) && ((xs[k]?.getD 0).testBit (i - 64 * k))) = false := by
      by_cases h2 : 64 * k ≤ i
      · have := bit_word (hw.get k) (i := i - 64 * k) (by omega)
        rw [List.getD_eq_getElem?_getD] at this
        rw [this]; simp
      · simp [h2]
    rw [e]
    by_cases h3 : i / 64 < k
    · rw [if_pos (by omega), if_pos h3]; simp
    · rw [if_neg (by omega), if_neg h3]; simp
theorem leN_take_all (xs : List Nat) (n : Nat) (h : ∀ i, n ≤ i → xs.getD i 0 = 0) (hw : Wds xs) : leN (xs.take n) = leN xs := by
  have ht : ∀ n, Wds (xs.take n) := fun n x hx => hw x (List.mem_of_mem_take hx)
  refine Nat.eq_of_testBit_eq (fun i => ?_)
  rw [bit_leN _ _ (ht _), bit_leN _ _ hw]
  by_cases h3 : i / 64 < n
  · simp only [List.getD_eq_getElem?_getD, List.getElem?_take]; rw [if_pos h3]
  · rw [h _ (by omega)]; simp only [List.getD_eq_getElem?_getD, List.getElem?_take]; rw [if_neg h3]; simp
/-- A list that holds the sums of the words of two. -/
theorem leN_sum (ps xs ys : List Nat) (hp : Wds ps) (hx : Wds xs) (hy : Wds ys) (h : ∀ i, ps.getD i 0 = xs.getD i 0 ^^^ ys.getD i 0) : leN ps = leN xs ^^^ leN ys := by
  refine Nat.eq_of_testBit_eq (fun i => ?_)
  rw [Nat.testBit_xor, bit_leN _ _ hp, bit_leN _ _ hx, bit_leN _ _ hy, h, Nat.testBit_xor]
/-- A word of what goes up: s bits. -/
def upW (s x y : Nat) : Nat := x * 2 ^ s % 18446744073709551616 ||| y / 2 ^ (64 - s)
theorem upW_lt (s x y : Nat) (hy : y < 18446744073709551616) : upW s x y < 18446744073709551616 := by
  unfold upW
  exact Nat.or_lt_two_pow (n := 64) (Nat.mod_lt _ (by decide)) (Nat.lt_of_le_of_lt (Nat.div_le_self _ _) hy)
theorem leN_up (ps xs : List Nat) (q s : Nat) (hs : s < 64) (hp : Wds ps) (hx : Wds xs)
    (h : ∀ i, ps.getD i 0 = if i < q then 0 else upW s (xs.getD (i - q) 0) (if i = q then 0 else xs.getD (i - q - 1) 0)) : leN ps = leN xs * 2 ^ (64 * q + s) := by
  refine Nat.eq_of_testBit_eq (fun i => ?_)
  rw [bit_shift, bit_leN _ _ hp, bit_leN _ _ hx, h]
  by_cases h1 : i / 64 < q
  · rw [if_pos h1, show decide (64 * q + s ≤ i) = false from by simp; omega]; simp
  · rw [if_neg h1]
    unfold upW
    have e64 : (18446744073709551616 : Nat) = 2 ^ 64 := rfl
    rw [Nat.testBit_or, Nat.testBit_div_two_pow, e64, Nat.testBit_mod_two_pow, bit_shift]
    have d1 : decide (i % 64 < 64) = true := by simp; omega
    rw [d1, Bool.true_and]
    by_cases h2 : s ≤ i % 64
    · have b2 : ∀ y, y < 18446744073709551616 → y.testBit (i % 64 + (64 - s)) = false := fun y hy => bit_word hy (by omega)
      rw [b2 _ (by split; decide; exact hx.get _), Bool.or_false, show decide (s ≤ i % 64) = true from by simpa using h2, Bool.true_and, show decide (64 * q + s ≤ i) = true from by simp; omega, Bool.true_and, show (i - (64 * q + s)) / 64 = i / 64 - q from by omega, show (i - (64 * q + s)) % 64 = i % 64 - s from by omega]
    · rw [show decide (s ≤ i % 64) = false from by simpa using h2, Bool.false_and, Bool.false_or]
      by_cases h3 : i / 64 = q
      · rw [if_pos h3, show decide (64 * q + s ≤ i) = false from by simp; omega]; simp
      · rw [if_neg h3, show decide (64 * q + s ≤ i) = true from by simp; omega, Bool.true_and, show (i - (64 * q + s)) / 64 = i / 64 - q - 1 from by omega, show (i - (64 * q + s)) % 64 = i % 64 + (64 - s) from by omega]
theorem leN_inj {xs ys : List Nat} (hx : Wds xs) (hy : Wds ys) (h : leN xs = leN ys) (i : Nat) : xs.getD i 0 = ys.getD i 0 := by
  refine Nat.eq_of_testBit_eq (fun t => ?_)
  by_cases ht : t < 64
  · have a := bit_leN xs (64 * i + t) hx
    have b := bit_leN ys (64 * i + t) hy
    rw [h, b, show (64 * i + t) / 64 = i from by omega, show (64 * i + t) % 64 = t from by omega] at a
    exact a.symm
  · rw [bit_word (hx.get i) (by omega), bit_word (hy.get i) (by omega)]
/-- The product of two words, part by part: after i parts. -/
theorem parts_step (a b i : Nat) : clm a (b % 2 ^ (i + 1)) = if b.testBit i then clm a (b % 2 ^ i) ^^^ a * 2 ^ i else clm a (b % 2 ^ i) := by
  have e : b % 2 ^ (i + 1) = b % 2 ^ i ^^^ (if b.testBit i then 2 ^ i else 0) := by
    refine Nat.eq_of_testBit_eq (fun j => ?_)
    rw [Nat.testBit_xor, Nat.testBit_mod_two_pow, Nat.testBit_mod_two_pow]
    by_cases hj : j = i
    · subst hj
      by_cases hb : b.testBit j <;> simp [hb, Nat.testBit_two_pow_self]
    · have : (if b.testBit i then 2 ^ i else 0 : Nat).testBit j = false := by
        split
        · exact Nat.testBit_two_pow_of_ne (fun e => hj e.symm)
        · simp
      rw [this]
      by_cases h2 : j < i
      · simp [h2, show j < i + 1 from by omega]
      · simp [h2, show ¬ j < i + 1 from by omega]
  rw [e]
  split
  · rw [clm_xor, clm_pow]
  · rw [Nat.xor_zero]
theorem div_shift (a n m : Nat) (h : n ≤ m) : a * 2 ^ n / 2 ^ m = a / 2 ^ (m - n) := by
  have : (2 : Nat) ^ m = 2 ^ n * 2 ^ (m - n) := by rw [← Nat.pow_add]; congr 1; omega
  rw [this, ← Nat.div_div_eq_div_mul, Nat.mul_div_cancel _ (Nat.two_pow_pos n)]
theorem xor_div (a b n : Nat) : (a ^^^ b) / 2 ^ n = a / 2 ^ n ^^^ b / 2 ^ n := by
  have := Nat.shiftRight_xor_distrib (a := a) (b := b) (i := n)
  simpa only [Nat.shiftRight_eq_div_pow] using this
theorem xor_mod (a b n : Nat) : (a ^^^ b) % 2 ^ n = a % 2 ^ n ^^^ b % 2 ^ n := by
  refine Nat.eq_of_testBit_eq (fun j => ?_)
  simp only [Nat.testBit_xor, Nat.testBit_mod_two_pow]
  by_cases h : j < n <;> simp [h]
end Go.Proofs.Ytfnfjfmkhnofkaa.G
