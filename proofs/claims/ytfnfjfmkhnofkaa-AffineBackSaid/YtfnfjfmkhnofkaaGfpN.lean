/-
  Lists of bits and their numbers. Plain mathematics; nothing of the program.
-/
import Derived.Test.YtfnfjfmkhnofkaaGfpM
namespace Go.Proofs.Ytfnfjfmkhnofkaa.G
/-- The number of a list of bits, the lowest one first. -/
def leB : List Nat → Nat
  | [] => 0
  | x :: r => x + 2 * leB r
def Bts (xs : List Nat) : Prop := ∀ x ∈ xs, x < 2
theorem Bts.head {x : Nat} {r : List Nat} (h : Bts (x :: r)) : x < 2 := h x (by simp)
theorem Bts.tail {x : Nat} {r : List Nat} (h : Bts (x :: r)) : Bts r := fun y hy => h y (by simp [hy])
theorem Bts.get {xs : List Nat} (h : Bts xs) (i : Nat) : xs.getD i 0 < 2 := by
  rw [List.getD_eq_getElem?_getD]
  by_cases hi : i < xs.length
  · rw [List.getElem?_eq_getElem hi]; exact h _ (List.getElem_mem hi)
  · rw [List.getElem?_eq_none (by omega)]; decide
theorem Bts.append {xs ys : List Nat} (h : Bts xs) (k : Bts ys) : Bts (xs ++ ys) := fun x hx => by
  rcases List.mem_append.1 hx with hx | hx
  · exact h x hx
  · exact k x hx
theorem leB_cons (x : Nat) (r : List Nat) : leB (x :: r) = x + 2 * leB r := rfl
/-- A bit of a list of bits is that of its number. -/
theorem leB_get : ∀ (xs : List Nat) (k : Nat), Bts xs → leB xs / 2 ^ k % 2 = xs.getD k 0
  | [], k, _ => by simp [leB]
  | x :: r, 0, h => by have := h.head; rw [leB_cons]; simp; omega
  | x :: r, k + 1, h => by
    have := h.head
    rw [leB_cons, Nat.pow_succ, Nat.mul_comm (2 ^ k), ← Nat.div_div_eq_div_mul, show (x + 2 * leB r) / 2 = leB r from by omega, leB_get r k h.tail]
    simp
theorem bit_leB (xs : List Nat) (k : Nat) (h : Bts xs) : (leB xs).testBit k = decide (xs.getD k 0 = 1) := by
  rw [Nat.testBit_eq_decide_div_mod_eq, leB_get xs k h]
theorem num_ext {M N : Nat} (h : ∀ k, M / 2 ^ k % 2 = N / 2 ^ k % 2) : M = N := by
  refine Nat.eq_of_testBit_eq (fun k => ?_)
  rw [Nat.testBit_eq_decide_div_mod_eq, Nat.testBit_eq_decide_div_mod_eq, h k]
theorem leB_lt : ∀ (xs : List Nat), Bts xs → leB xs < 2 ^ xs.length
  | [], _ => by simp [leB]
  | x :: r, h => by
    have := leB_lt r h.tail
    have := h.head
    rw [leB_cons, List.length_cons, Nat.pow_succ]
    omega
theorem leB_append : ∀ (xs ys : List Nat), leB (xs ++ ys) = leB xs + 2 ^ xs.length * leB ys
  | [], ys => by simp [leB]
  | x :: r, ys => by
    rw [List.cons_append, leB_cons, leB_cons, leB_append r ys, List.length_cons, Nat.pow_succ, Nat.mul_add, Nat.mul_comm (2 ^ r.length) 2, Nat.mul_assoc]
    omega
/-- The bits of a number, none behind the highest 1. -/
def bitsOf (n : Nat) : List Nat := if n = 0 then [] else n % 2 :: bitsOf (n / 2)
  termination_by n
  decreasing_by omega
theorem bitsOf_zero : bitsOf 0 = [] := by unfold bitsOf; simp
theorem bitsOf_pos {n : Nat} (h : n ≠ 0) : bitsOf n = n % 2 :: bitsOf (n / 2) := by rw [bitsOf, if_neg h]
theorem bitsOf_facts (n : Nat) : leB (bitsOf n) = n ∧ Bts (bitsOf n) := by
  induction n using Nat.strongRecOn with
  | _ n ih =>
    by_cases h : n = 0
    · subst h; rw [bitsOf_zero]; exact ⟨rfl, fun x hx => by cases hx⟩
    · rw [bitsOf_pos h]
      obtain ⟨a, b⟩ := ih (n / 2) (by omega)
      refine ⟨by simp only [leB, a]; omega, fun x hx => ?_⟩
      rcases List.mem_cons.1 hx with rfl | hx
      · omega
      · exact b x hx
theorem leB_bitsOf (n : Nat) : leB (bitsOf n) = n := (bitsOf_facts n).1
theorem bts_bitsOf (n : Nat) : Bts (bitsOf n) := (bitsOf_facts n).2
theorem bitsOf_get (n k : Nat) : (bitsOf n).getD k 0 = n / 2 ^ k % 2 := by
  rw [← leB_get _ k (bts_bitsOf n), leB_bitsOf]
theorem bitsOf_len (n : Nat) : (bitsOf n).length = len n := by
  induction n using Nat.strongRecOn with
  | _ n ih =>
    by_cases h : n = 0
    · subst h; rw [bitsOf_zero]; rfl
    · rw [bitsOf_pos h, List.length_cons, ih (n / 2) (by omega)]
      by_cases h2 : n / 2 = 0
      · obtain rfl : n = 1 := by omega
        rfl
      · have e := len_two h2
        rcases Nat.mod_two_eq_zero_or_one n with m | m
        · rw [show 2 * (n / 2) = n from by omega] at e; omega
        · have : len (2 * (n / 2) + 1) = len (2 * (n / 2)) := by
            rw [odd_xor, len_xor_lt]
            rw [e]
            have := len_pos h2
            show len 1 < _
            have : len 1 = 1 := rfl
            omega
          rw [show 2 * (n / 2) + 1 = n from by omega] at this
          omega
theorem leB_same {xs : List Nat} (hx : Bts xs) {N : Nat} (h : leB xs = N) (i : Nat) : xs.getD i 0 = (bitsOf N).getD i 0 := by
  rw [bitsOf_get, ← h, leB_get _ _ hx]
/-- The first bits of a list, where all behind are 0 and the last of them isn't. -/
theorem take_ownB (xs : List Nat) (n N : Nat) (hx : Bts xs) (hN : leB xs = N) (hn : n ≤ xs.length) (hz : ∀ i, n ≤ i → xs.getD i 0 = 0) (h : n = 0 ∨ xs.getD (n - 1) 0 ≠ 0) : xs.take n = bitsOf N := by
  have e : n = len N := by
    apply Nat.le_antisymm
    · rcases h with h | h
      · omega
      · by_cases q : n ≤ len N
        · exact q
        · exfalso
          apply h
          rw [leB_same hx hN, List.getD_eq_getElem?_getD, List.getElem?_eq_none (by rw [bitsOf_len]; omega)]; rfl
    · by_cases q : len N ≤ n
      · exact q
      · exfalso
        have h0 : N ≠ 0 := by intro e; rw [e, len_zero] at q; omega
        have t := len_bit h0
        rw [Nat.testBit_eq_decide_div_mod_eq, ← bitsOf_get, ← leB_same hx hN, hz _ (by omega)] at t
        simp at t
  refine List.ext_getElem (by rw [List.length_take, bitsOf_len]; omega) (fun i h1 h2 => ?_)
  have q := leB_same hx hN i
  rw [List.length_take] at h1
  rw [List.getElem_take]
  simpa [List.getD_eq_getElem?_getD, List.getElem?_eq_getElem (show i < xs.length by omega), List.getElem?_eq_getElem h2] using q
/-- So many bits of a number. -/
def bitsK (k x : Nat) : List Nat := (List.range k).map fun i => x / 2 ^ i % 2
theorem bitsK_length (k x : Nat) : (bitsK k x).length = k := by simp [bitsK]
theorem bitsK_succ (k x : Nat) : bitsK (k + 1) x = bitsK k x ++ [x / 2 ^ k % 2] := by simp [bitsK, List.range_succ]
theorem bts_bitsK (k x : Nat) : Bts (bitsK k x) := fun y hy => by
  obtain ⟨i, _, rfl⟩ := List.mem_map.1 hy
  exact Nat.mod_lt _ (by decide)
theorem bitsK_get (k x i : Nat) : (bitsK k x).getD i 0 = if i < k then x / 2 ^ i % 2 else 0 := by
  unfold bitsK
  rw [List.getD_eq_getElem?_getD, List.getElem?_map]
  by_cases h : i < k
  · rw [List.getElem?_range h, if_pos h]; rfl
  · rw [List.getElem?_eq_none (by simp; omega), if_neg h]; rfl
theorem leB_bitsK (k x : Nat) (h : x < 2 ^ k) : leB (bitsK k x) = x := by
  refine num_ext (fun i => ?_)
  rw [leB_get _ _ (bts_bitsK k x), bitsK_get]
  split
  · rfl
  · rw [Nat.div_eq_of_lt (Nat.lt_of_lt_of_le h (Nat.pow_le_pow_right (by decide) (by omega)))]
/-- The bits of so many words. -/
def wbits (xs : List Nat) : List Nat := xs.flatMap (bitsK 64)
theorem wbits_length (xs : List Nat) : (wbits xs).length = 64 * xs.length := by
  induction xs with
  | nil => rfl
  | cons x r ih => simp only [wbits, List.flatMap_cons, List.length_append, bitsK_length, List.length_cons] at *; omega
theorem bts_wbits (xs : List Nat) : Bts (wbits xs) := fun y hy => by
  obtain ⟨x, _, h⟩ := List.mem_flatMap.1 hy
  exact bts_bitsK 64 x y h
theorem leB_wbits : ∀ (xs : List Nat), Wds xs → leB (wbits xs) = leN xs
  | [], _ => rfl
  | x :: r, h => by
    rw [wbits, List.flatMap_cons, leB_append, bitsK_length, leN_cons, leB_bitsK 64 x h.head]
    have := leB_wbits r h.tail
    rw [wbits] at this
    rw [this]
theorem wbits_take (xs : List Nat) (k : Nat) (hk : k < xs.length) : wbits (xs.take (k + 1)) = wbits (xs.take k) ++ bitsK 64 (xs.getD k 0) := by
  have e : xs.getD k 0 = xs[k] := by simp [List.getD_eq_getElem?_getD, List.getElem?_eq_getElem hk]
  rw [e, List.take_succ_eq_append_getElem hk, wbits, wbits, List.flatMap_append]
  simp only [List.flatMap_cons, List.flatMap_nil, List.append_nil]
theorem half_step (N a m : Nat) : N / 2 ^ a % 2 ^ (m + 1) = N / 2 ^ (a + 1) % 2 ^ m * 2 + N / 2 ^ a % 2 := by
  rw [Nat.pow_succ 2 a, ← Nat.div_div_eq_div_mul, Nat.pow_succ]
  generalize N / 2 ^ a = M
  rw [Nat.mul_comm (2 ^ m) 2, Nat.mod_mul]
  omega
theorem wordsOf_get (N k : Nat) : (wordsOf N).getD k 0 = N / 2 ^ (64 * k) % 18446744073709551616 := by
  induction k generalizing N with
  | zero =>
    by_cases h : N = 0
    · subst h; rw [wordsOf_zero]; rfl
    · rw [wordsOf_pos h]; simp
  | succ k ih =>
    by_cases h : N = 0
    · subst h; rw [wordsOf_zero]; simp
    · rw [wordsOf_pos h]
      have := ih (N / 18446744073709551616)
      rw [Nat.div_div_eq_div_mul, show (18446744073709551616 : Nat) * 2 ^ (64 * k) = 2 ^ (64 * (k + 1)) from by rw [show 64 * (k + 1) = 64 + 64 * k from by omega, Nat.pow_add]] at this
      simpa using this
theorem leB_sum (ps xs ys : List Nat) (hp : Bts ps) (hx : Bts xs) (hy : Bts ys) (h : ∀ i, ps.getD i 0 = (xs.getD i 0 + ys.getD i 0) % 2) : leB ps = leB xs ^^^ leB ys := by
  refine Nat.eq_of_testBit_eq (fun i => ?_)
  have a := hx.get i
  have b := hy.get i
  rw [Nat.testBit_xor, bit_leB _ _ hp, bit_leB _ _ hx, bit_leB _ _ hy, h]
  rcases (show xs.getD i 0 = 0 ∨ xs.getD i 0 = 1 by omega) with e | e <;> rcases (show ys.getD i 0 = 0 ∨ ys.getD i 0 = 1 by omega) with f | f <;> rw [e, f] <;> rfl
theorem leB_up (xs : List Nat) (n : Nat) : leB (List.replicate n 0 ++ xs) = leB xs * 2 ^ n := by
  have z : leB (List.replicate n 0) = 0 := by
    induction n with
    | zero => rfl
    | succ n ih => rw [List.replicate_succ, leB_cons, ih]
  rw [leB_append, z, List.length_replicate, Nat.zero_add, Nat.mul_comm]
theorem bts_zero (n : Nat) : Bts (List.replicate n 0) := fun x hx => by rw [(List.mem_replicate.1 hx).2]; decide
theorem Bts.set {ps : List Nat} (h : Bts ps) (k v : Nat) (hv : v < 2) : Bts (ps.set k v) := by
  intro x hx
  rcases List.mem_or_eq_of_mem_set hx with h1 | h1
  · exact h x h1
  · rw [h1]; exact hv
theorem leB_set (ps : List Nat) (k v : Nat) (hw : Bts ps) (hk : k < ps.length) (hv : v < 2) : leB (ps.set k ((ps.getD k 0 + v) % 2)) = leB ps ^^^ v * 2 ^ k := by
  refine Nat.eq_of_testBit_eq (fun i => ?_)
  have a := hw.get k
  rw [bit_leB _ _ (hw.set k _ (Nat.mod_lt _ (by decide))), Nat.testBit_xor, bit_leB _ _ hw, bit_shift, getD_set _ _ _ _ hk]
  by_cases h : i = k
  · subst h
    rw [if_pos rfl, Nat.sub_self, show decide (i ≤ i) = true from by simp]
    rcases (show ps.getD i 0 = 0 ∨ ps.getD i 0 = 1 by omega) with e | e <;> rcases (show v = 0 ∨ v = 1 by omega) with f | f <;> rw [e, f] <;> rfl
  · rw [if_neg h]
    have : (decide (k ≤ i) && v.testBit (i - k)) = false := by
      by_cases h2 : k ≤ i
      · have : v.testBit (i - k) = false := Nat.testBit_lt_two_pow (Nat.lt_of_lt_of_le hv (by
          have := Nat.pow_le_pow_right (n := 2) (by decide) (show 1 ≤ i - k by omega)
          simpa using this))
        simp [this]
      · simp [h2]
    rw [this]; simp
theorem leB_take_succ (xs : List Nat) (k : Nat) (hw : Bts xs) (hk : k < xs.length) : leB (xs.take (k + 1)) = leB (xs.take k) ^^^ xs.getD k 0 * 2 ^ k := by
  have e : xs.take (k + 1) = xs.take k ++ [xs.getD k 0] := by
    rw [List.take_succ_eq_append_getElem hk]
    simp [List.getD_eq_getElem?_getD, List.getElem?_eq_getElem hk]
  have l : (xs.take k).length = k := by rw [List.length_take]; omega
  rw [e, leB_append, l]
  have ht : Bts (xs.take k) := fun x hx => hw x (List.mem_of_mem_take hx)
  have lt := leB_lt _ ht
  rw [l] at lt
  show _ + 2 ^ k * (xs.getD k 0 + 2 * 0) = _
  refine Nat.eq_of_testBit_eq (fun i => ?_)
  rw [Nat.add_comm, Nat.testBit_two_pow_mul_add _ lt, Nat.testBit_xor, bit_shift]
  by_cases h : i < k
  · rw [if_pos h, show decide (k ≤ i) = false from by simp; omega]; simp
  · rw [if_neg h, show decide (k ≤ i) = true from by simp; omega, Nat.testBit_lt_two_pow (Nat.lt_of_lt_of_le lt (Nat.pow_le_pow_right (by decide) (by omega)))]; simp
end Go.Proofs.Ytfnfjfmkhnofkaa.G
