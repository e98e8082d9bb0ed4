/-
  Rules of rows of bits: Berlekamp and Massey's least rule, that it is one, that there is no lesser one, when it is the only one, and what it parts. Plain mathematics; nothing of the program.
-/
import Derived.Test.YtfpbfibnkknhdaaDoorGfdM
namespace Go.Proofs.YtfpbfibnkknhdaaDoor.G
set_option linter.unusedVariables false

/-- Of the bits of s from i on that p's first n parts name: is an odd number 1? -/
def odN (s : Nat → Bool) (p i : Nat) : Nat → Bool
  | 0 => false
  | n + 1 => odN s p i n ^^ (p.testBit n && s (i + n))
/-- The same of all parts of p. -/
def od (s : Nat → Bool) (p i : Nat) : Bool := odN s p i (len p)
theorem odN_more (s : Nat → Bool) (p i : Nat) : ∀ n, len p ≤ n → odN s p i n = od s p i := by
  intro n h
  induction n with
  | zero => obtain e : len p = 0 := by omega
            unfold od; rw [e]
  | succ n ih =>
    by_cases e : len p = n + 1
    · unfold od; rw [e]
    · rw [odN, ih (by omega), len_bit_out (by omega)]; simp
theorem odN_xor (s : Nat → Bool) (p q i : Nat) : ∀ n, odN s (p ^^^ q) i n = (odN s p i n ^^ odN s q i n) := by
  intro n
  induction n with
  | zero => rfl
  | succ n ih =>
    simp only [odN, ih, Nat.testBit_xor]
    cases odN s p i n <;> cases odN s q i n <;> cases p.testBit n <;> cases q.testBit n <;> cases s (i + n) <;> rfl
theorem od_xor (s : Nat → Bool) (p q i : Nat) : od s (p ^^^ q) i = (od s p i ^^ od s q i) := by
  have h := odN_xor s p q i (max (len p) (len q))
  rwa [odN_more _ _ _ _ (len_xor_le p q _ (Nat.le_max_left _ _) (Nat.le_max_right _ _)), odN_more _ _ _ _ (Nat.le_max_left _ _), odN_more _ _ _ _ (Nat.le_max_right _ _)] at h
theorem odN_up (s : Nat → Bool) (p i u : Nat) : ∀ n, odN s (p * 2 ^ u) i (u + n) = odN s p (i + u) n := by
  have z : ∀ m, m ≤ u → odN s (p * 2 ^ u) i m = false := by
    intro m hm
    induction m with
    | zero => rfl
    | succ m ih => rw [odN, ih (by omega), bit_shift, show decide (u ≤ m) = false from by simp; omega]; simp
  intro n
  induction n with
  | zero => rw [Nat.add_zero, z u (Nat.le_refl _)]; rfl
  | succ n ih =>
    rw [← Nat.add_assoc, odN, ih, odN, bit_shift, show decide (u ≤ u + n) = true from by simp, Nat.add_sub_cancel_left, Nat.add_assoc]; simp
theorem od_up (s : Nat → Bool) (p i u : Nat) : od s (p * 2 ^ u) i = od s p (i + u) := by
  by_cases h : p = 0
  · subst h; rw [Nat.zero_mul]; rfl
  · unfold od; rw [len_mul_pow h, Nat.add_comm, odN_up]
theorem odN_ext {s t : Nat → Bool} {p i : Nat} : ∀ n, (∀ k, k < n → p.testBit k = true → s (i + k) = t (i + k)) → odN s p i n = odN t p i n := by
  intro n h
  induction n with
  | zero => rfl
  | succ n ih =>
    rw [odN, odN, ih (fun k hk => h k (by omega))]
    cases e : p.testBit n
    · simp
    · rw [h n (by omega) e]
theorem od_ext {s t : Nat → Bool} {p i : Nat} (h : ∀ k, k < len p → s (i + k) = t (i + k)) : od s p i = od t p i := odN_ext _ (fun k hk _ => h k hk)
/-- The product goes over the one's answers by the other. -/
theorem odN_clm (s : Nat → Bool) (p q i : Nat) : ∀ n, odN (od s p) q i n = od s (clm p (q % 2 ^ n)) i := by
  intro n
  induction n with
  | zero => rw [Nat.pow_zero, Nat.mod_one, clm_zero]; rfl
  | succ n ih =>
    rw [parts_step, odN, ih]
    cases e : q.testBit n
    · simp
    · rw [if_pos rfl, od_xor, od_up]; simp
theorem od_clm (s : Nat → Bool) (p q i : Nat) : od s (clm p q) i = od (od s p) q i := by
  have h := odN_clm s p q i (len q)
  rw [Nat.mod_eq_of_lt (len_lt q)] at h
  exact h.symm
theorem od_zero_p (s : Nat → Bool) (i : Nat) : od s 0 i = false := rfl
/-- Where all are even but the last, which the highest part names: odd. -/
theorem od_top {s : Nat → Bool} {p i : Nat} (h0 : p ≠ 0) (h : ∀ k, k + 1 < len p → s (i + k) = false) : od s p i = s (i + (len p - 1)) := by
  have hp := len_pos h0
  have z : ∀ n, n + 1 ≤ len p → odN s p i n = false := by
    intro n hn
    induction n with
    | zero => rfl
    | succ n ih => rw [odN, ih (by omega), h n (by omega)]; simp
  have e : len p = (len p - 1) + 1 := by omega
  unfold od
  rw [e, odN, z _ (by omega), len_bit h0]; simp
theorem od_none {s : Nat → Bool} {p i : Nat} (h : ∀ k, k < len p → s (i + k) = false) : od s p i = false := by
  by_cases h0 : p = 0
  · subst h0; rfl
  · rw [od_top h0 (fun k hk => h k (by omega))]; exact h _ (by have := len_pos h0; omega)

/-- p is a rule of the first m bits. -/
def Rl (s : Nat → Bool) (m p : Nat) : Prop := p ≠ 0 ∧ ∀ i, i + len p ≤ m → od s p i = false
theorem Rl.less {s : Nat → Bool} {m n p : Nat} (h : Rl s m p) (hn : n ≤ m) : Rl s n p := ⟨h.1, fun i hi => h.2 i (by omega)⟩
theorem Rl.mul {s : Nat → Bool} {m p : Nat} (q : Nat) (h : Rl s m p) (hq : q ≠ 0) : Rl s m (clm p q) := by
  obtain ⟨e1, e2⟩ := len_clm h.1 hq
  refine ⟨e1, fun i hi => ?_⟩
  rw [od_clm]
  refine od_none (fun k hk => h.2 _ ?_)
  omega
/-- MASSEY's LEMMA: a rule of n bits and not of one more, and a rule of one more: their degrees are together more than n. -/
theorem massey {s : Nat → Bool} {n p q : Nat} (hp : p ≠ 0) (hl : len p ≤ n + 1) (h1 : ∀ i, i + len p ≤ n → od s p i = false) (h2 : od s p (n + 1 - len p) = true) (hq : Rl s (n + 1) q) : n + 3 ≤ len p + len q := by
  refine Decidable.byContradiction fun hn => ?_
  have a := len_pos hp; have b := len_pos hq.1
  have e1 : od s (clm p q) (n + 2 - len p - len q) = true := by
    rw [od_clm, od_top hq.1 (fun k hk => h1 _ (by omega)), ← h2]; congr 1; omega
  have e2 : od s (clm q p) (n + 2 - len p - len q) = false := by
    rw [od_clm]; exact od_none (fun k hk => hq.2 _ (by omega))
  rw [clm_comm, e2] at e1; cases e1
/-- The same where it is known only that p isn't a rule of m bits, but of some: it fails first somewhere. -/
theorem massey_at {s : Nat → Bool} {m k p q : Nat} (hp : p ≠ 0) (h1 : ∀ i, i + len p ≤ k → od s p i = false) (hn : ¬ Rl s m p) (hq : Rl s m q) : k + 3 ≤ len p + len q := by
  have : ∃ i, i + len p ≤ m ∧ od s p i = true := by
    refine Classical.byContradiction fun h => hn ⟨hp, fun i hi => ?_⟩
    cases e : od s p i
    · rfl
    · exact (h ⟨i, hi, e⟩).elim
  obtain ⟨i, hi⟩ := this
  induction i using Nat.strongRecOn with
  | _ i ih =>
    by_cases h : ∃ j, j < i ∧ od s p j = true
    · obtain ⟨j, hj, e⟩ := h
      exact ih j hj ⟨by omega, e⟩
    · have hk : k < i + len p := by
        refine Decidable.byContradiction fun hh => ?_
        have := h1 i (by omega); rw [hi.2] at this; cases this
      have a := len_pos hp
      have := massey (n := i + len p - 1) hp (by omega) (fun j hj => by
        cases e : od s p j
        · rfl
        · exact (h ⟨j, by omega, e⟩).elim) (by rw [show i + len p - 1 + 1 - len p = i from by omega]; exact hi.2) (hq.less (by omega))
      omega

/-- L is the least degree, and one more, of rules of the first m bits. -/
def Lst (s : Nat → Bool) (m L : Nat) : Prop := (∃ p, Rl s m p ∧ len p = L) ∧ ∀ p, Rl s m p → L ≤ len p
theorem Lst.only {s : Nat → Bool} {m L K : Nat} (h : Lst s m L) (k : Lst s m K) : L = K := by
  obtain ⟨p, h1, h2⟩ := h.1; obtain ⟨q, k1, k2⟩ := k.1
  have := h.2 q k1; have := k.2 p h1; omega
theorem Lst.mono {s : Nat → Bool} {m n L K : Nat} (h : Lst s m L) (k : Lst s n K) (hn : n ≤ m) : K ≤ L := by
  obtain ⟨p, h1, h2⟩ := h.1
  have := k.2 p (h1.less hn); omega
/-- Two rules of the least degree of no more than half of the bits are one. -/
theorem rule_one {s : Nat → Bool} {m L p q : Nat} (h : Lst s m L) (hL : 2 * L ≤ m + 2) (hp : Rl s m p) (hq : Rl s m q) (lp : len p = L) (lq : len q = L) : p = q := by
  refine Decidable.byContradiction fun hne => ?_
  have h0 : p ^^^ q ≠ 0 := fun e => hne (xor_self_eq e)
  have hl : len (p ^^^ q) < L := lp ▸ len_xor_top (by rw [lp, lq]) hp.1
  have z : ∀ i, i + L ≤ m → od s (p ^^^ q) i = false := fun i hi => by
    rw [od_xor, hp.2 i (by omega), hq.2 i (by omega)]; rfl
  have a := len_pos h0
  have b := len_pos hp.1
  by_cases hm : L ≤ m
  · have := massey_at (k := m - L + len (p ^^^ q)) h0 (fun i hi => z i (by omega)) (fun r => by have := h.2 _ r; omega) hp
    omega
  · have := massey_at (k := 0) h0 (fun i hi => by omega) (fun r => by have := h.2 _ r; omega) hp
    omega
/-- A rule of degree d, of twice as many bits, is parted by the least one. -/
theorem rule_parts {s : Nat → Bool} {m L p q : Nat} (h : Lst s m L) (hp : Rl s m p) (hq : Rl s m q) (lq : len q = L) (hm : 2 * len p ≤ m + 2) (hm2 : len p ≤ m + 1) : rt p q = 0 := by
  refine Decidable.byContradiction fun h0 => ?_
  have e := qr (a := p) hq.1
  have hl := rt_lt (a := p) hq.1
  have hpq := h.2 p hp
  have hlt : len (clm (qt p q) q) ≤ len p := by
    have := rt_lt (a := p) hq.1
    have e2 : clm (qt p q) q = p ^^^ rt p q := by
      have := congrArg (fun x => x ^^^ rt p q) e
      simpa only [xor_cancel] using this
    rw [e2]; exact len_xor_le _ _ _ (Nat.le_refl _) (by omega)
  have z : ∀ i, i + len p ≤ m → od s (rt p q) i = false := fun i hi => by
    have e3 : rt p q = p ^^^ clm (qt p q) q := by
      have := congrArg (fun x => clm (qt p q) q ^^^ x) e
      simp only [← Nat.xor_assoc, Nat.xor_self, Nat.zero_xor] at this
      rw [this, Nat.xor_comm]
    rw [e3, od_xor, hp.2 i hi]
    by_cases hz : qt p q = 0
    · rw [hz, clm_zero_left, od_zero_p]; rfl
    · rw [clm_comm, (hq.mul _ hz).2 i (by rw [clm_comm]; omega)]; rfl
  have a := len_pos h0
  by_cases hm : len p ≤ m
  · have := massey_at (k := m - len p + len (rt p q)) h0 (fun i hi => z i (by omega)) (fun r => by have := h.2 _ r; omega) hq
    omega
  · have := massey_at (k := 0) h0 (fun i hi => by omega) (fun r => by have := h.2 _ r; omega) hq
    omega

/-- THE STATE of the way to the least rule behind n bits: the rule, and the last one that failed (0: none has). -/
structure Bm (s : Nat → Bool) (n r f : Nat) : Prop where
  rule : Rl s n r
  least : ∀ p, Rl s n p → len r ≤ len p
  le : len r ≤ n + 1
  none : f = 0 → len r = 1
  fail : f ≠ 0 → ∃ k, k < n ∧ (∀ i, i + len f ≤ k → od s f i = false) ∧ len f ≤ k + 1 ∧ od s f (k + 1 - len f) = true ∧ len r + len f = k + 3
theorem Bm.start (s : Nat → Bool) : Bm s 0 1 0 where
  rule := ⟨by decide, fun i hi => by rw [len_one] at hi; omega⟩
  least := fun p hp => by have := len_pos hp.1; rw [len_one]; omega
  le := by rw [len_one]; omega
  none := fun _ => len_one
  fail := fun h => (h rfl).elim
theorem Bm.good {s : Nat → Bool} {n r f : Nat} (B : Bm s n r f) (h : od s r (n + 1 - len r) = false) : Bm s (n + 1) r f where
  rule := ⟨B.rule.1, fun i hi => by
    by_cases e : i + len r ≤ n
    · exact B.rule.2 i e
    · rw [show i = n + 1 - len r from by omega]; exact h⟩
  least := fun p hp => B.least p (hp.less (by omega))
  le := by have := B.le; omega
  none := B.none
  fail := fun hf => by obtain ⟨k, a, b⟩ := B.fail hf; exact ⟨k, by omega, b⟩
/-- The rule fails, and its degree is no more than half: it is put up, and what failed is added. -/
theorem Bm.turn {s : Nat → Bool} {n r f u : Nat} (B : Bm s n r f) (h : od s r (n + 1 - len r) = true) (hu : n + 3 = 2 * len r + u) (h0 : 0 < u) : Bm s (n + 1) (r * 2 ^ u ^^^ f) r ∧ len (r * 2 ^ u ^^^ f) = len r + u := by
  have hr := B.rule.1
  have lr := len_pos hr
  have lu := len_mul_pow hr u
  have ble := B.le
  have hlf : len f < len r + u := by
    by_cases hf : f = 0
    · subst hf; rw [len_zero]; omega
    · obtain ⟨k, a, b, c, d, e⟩ := B.fail hf; omega
  have ln : len (r * 2 ^ u ^^^ f) = len r + u := by rw [len_xor_lt (by omega), lu]
  have hne : r * 2 ^ u ^^^ f ≠ 0 := fun e => by rw [e, len_zero] at ln; omega
  refine ⟨⟨⟨hne, fun i hi => ?_⟩, fun p hp => ?_, by omega, fun e => (hr e).elim, fun _ => ⟨n, by omega, B.rule.2, by omega, h, by omega⟩⟩, ln⟩
  · rw [ln] at hi
    rw [od_xor, od_up]
    by_cases hf : f = 0
    · have := B.none hf; subst hf; omega
    · obtain ⟨k, a, b, c, d, e⟩ := B.fail hf
      by_cases hi2 : i + u + len r ≤ n
      · rw [B.rule.2 _ (by omega), b i (by omega)]; rfl
      · rw [show i + u = n + 1 - len r from by omega, h, show i = k + 1 - len f from by omega, d]; rfl
  · rw [ln]
    have := massey hr (by omega) B.rule.2 h hp
    omega
/-- The rule fails, and its degree is more than half: what failed is put up and added. -/
theorem Bm.put {s : Nat → Bool} {n r f u : Nat} (B : Bm s n r f) (h : od s r (n + 1 - len r) = true) (hu : n + 3 + u = 2 * len r) : Bm s (n + 1) (r ^^^ f * 2 ^ u) f ∧ len (r ^^^ f * 2 ^ u) = len r := by
  have hr := B.rule.1
  have lr := len_pos hr
  have ble := B.le
  have hf : f ≠ 0 := fun e => by have := B.none e; omega
  obtain ⟨k, a, b, c, d, e⟩ := B.fail hf
  have lf := len_pos hf
  have lu := len_mul_pow hf u
  have ln : len (r ^^^ f * 2 ^ u) = len r := len_xor_lt (by omega)
  have hne : r ^^^ f * 2 ^ u ≠ 0 := fun e => by rw [e, len_zero] at ln; omega
  refine ⟨⟨⟨hne, fun i hi => ?_⟩, fun p hp => by rw [ln]; exact B.least p (hp.less (by omega)), by omega, fun e => (hf e).elim, fun _ => ⟨k, by omega, b, c, d, by omega⟩⟩, ln⟩
  rw [ln] at hi
  rw [od_xor, od_up]
  by_cases hi2 : i + len r ≤ n
  · rw [B.rule.2 _ (by omega), b _ (by omega)]; rfl
  · rw [show i = n + 1 - len r from by omega, h, show n + 1 - len r + u = k + 1 - len f from by omega, d]; rfl
theorem Bm.lst {s : Nat → Bool} {n r f : Nat} (B : Bm s n r f) : Lst s n (len r) := ⟨⟨r, B.rule, rfl⟩, B.least⟩

/-- A row goes on by p: each bit from L on is what makes the number even. -/
theorem goes_same {s t : Nat → Bool} {p L m : Nat} (hp : 2 ≤ len p) (hL : len p ≤ L + 1) (hs : ∀ i, L < i + len p → i + len p ≤ m → od s p i = false) (ht : ∀ i, L < i + len p → i + len p ≤ m → od t p i = false)
    (h : ∀ i, i < L → s i = t i) : ∀ i, i < m → s i = t i := by
  intro i
  induction i using Nat.strongRecOn with
  | _ i ih =>
    intro hi
    by_cases hl : i < L
    · exact h i hl
    · have a := hs (i + 1 - len p) (by omega) (by omega)
      have b := ht (i + 1 - len p) (by omega) (by omega)
      have h0 : p ≠ 0 := fun e => by subst e; rw [len_zero] at hp; omega
      have e : len p = (len p - 1) + 1 := by omega
      unfold od at a b
      rw [e, odN, len_bit h0, Bool.true_and, show i + 1 - (len p - 1 + 1) + (len p - 1) = i from by omega] at a b
      have c : odN s p (i + 1 - (len p - 1 + 1)) (len p - 1) = odN t p (i + 1 - (len p - 1 + 1)) (len p - 1) :=
        odN_ext _ (fun k hk _ => ih _ (by omega) (by omega))
      rw [c] at a
      generalize odN t p (i + 1 - (len p - 1 + 1)) (len p - 1) = x at a b
      revert a b
      cases x <;> cases s i <;> cases t i <;> simp
end Go.Proofs.YtfpbfibnkknhdaaDoor.G
