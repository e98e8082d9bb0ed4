/-
  Part 5 of what the statements of this seat stand on: MsyM MsyA MsyB MsyF MsyP MsyL MsyC MsyD MsyE.
-/
import Derived.Test.YtemgoikghaiamaaDoorBase1
import Derived.Test.YtemgoikghaiamaaDoorBase4
import Derived.Shelf.Spec.TrailingZeros
import Derived.Deep.RegionHeld3
import Derived.Laws.CopyOwn
import Derived.Deep.Grids
import Derived.LaidMore
import Derived.Stop.Joined
import Derived.Lib.LaidTab
import Derived.LoopTactic
/-
  Rules of rows of bits: Berlekamp and Massey's least rule, that it is one, that there is no lesser one, when it is the only one, and what it parts. Plain mathematics; nothing of the program.
-/
namespace Go.Proofs.YtemgoikghaiamaaDoor.G
set_option linter.unusedVariables false

/-- Of the bits of s from i on that p's first n parts name: is an odd number 1? -/
def odN (s : Nat → Bool) (p i : Nat) : Nat → Bool
  | 0 => false
  | n + 1 => odN s p i n ^^ (p.testBit n && s (i + n))
/-- The same of all parts of p. -/
def od (s : Nat → Bool) (p i : Nat) : Bool := odN s p i (len p)
theorem odN_more (s : Nat → Bool) (p i : Nat) : ∀ n, len p ≤ n → odN s p i n = od s p i := by
  intro n h
  induction n with
  | zero => obtain e : len p = 0 := by omega
            unfold od; rw [e]
  | succ n ih =>
    by_cases e : len p = n + 1
    · unfold od; rw [e]
    · rw [odN, ih (by omega), len_bit_out (by omega)]; simp
theorem odN_xor (s : Nat → Bool) (p q i : Nat) : ∀ n, odN s (p ^^^ q) i n = (odN s p i n ^^ odN s q i n) := by
  intro n
  induction n with
  | zero => rfl
  | succ n ih =>
    simp only [odN, ih, Nat.testBit_xor]
    cases odN s p i n <;> cases odN s q i n <;> cases p.testBit n <;> cases q.testBit n <;> cases s (i + n) <;> rfl
theorem od_xor (s : Nat → Bool) (p q i : Nat) : od s (p ^^^ q) i = (od s p i ^^ od s q i) := by
  have h := odN_xor s p q i (max (len p) (len q))
  rwa [odN_more _ _ _ _ (len_xor_le p q _ (Nat.le_max_left _ _) (Nat.le_max_right _ _)), odN_more _ _ _ _ (Nat.le_max_left _ _), odN_more _ _ _ _ (Nat.le_max_right _ _)] at h
theorem odN_up (s : Nat → Bool) (p i u : Nat) : ∀ n, odN s (p * 2 ^ u) i (u + n) = odN s p (i + u) n := by
  have z : ∀ m, m ≤ u → odN s (p * 2 ^ u) i m = false := by
    intro m hm
    induction m with
    | zero => rfl
    | succ m ih => rw [odN, ih (by omega), bit_shift, show decide (u ≤ m) = false from by simp; omega]; simp
  intro n
  induction n with
  | zero => rw [Nat.add_zero, z u (Nat.le_refl _)]; rfl
  | succ n ih =>
    rw [← Nat.add_assoc, odN, ih, odN, bit_shift, show decide (u ≤ u + n) = true from by simp, Nat.add_sub_cancel_left, Nat.add_assoc]; simp
theorem od_up (s : Nat → Bool) (p i u : Nat) : od s (p * 2 ^ u) i = od s p (i + u) := by
  by_cases h : p = 0
  · subst h; rw [Nat.zero_mul]; rfl
  · unfold od; rw [len_mul_pow h, Nat.add_comm, odN_up]
theorem odN_ext {s t : Nat → Bool} {p i : Nat} : ∀ n, (∀ k, k < n → p.testBit k = true → s (i + k) = t (i + k)) → odN s p i n = odN t p i n := by
  intro n h
  induction n with
  | zero => rfl
  | succ n ih =>
    rw [odN, odN, ih (fun k hk => h k (by omega))]
    cases e : p.testBit n
    · simp
    · rw [h n (by omega) e]
theorem od_ext {s t : Nat → Bool} {p i : Nat} (h : ∀ k, k < len p → s (i + k) = t (i + k)) : od s p i = od t p i := odN_ext _ (fun k hk _ => h k hk)
/-- The product goes over the one's answers by the other. -/
theorem odN_clm (s : Nat → Bool) (p q i : Nat) : ∀ n, odN (od s p) q i n = od s (clm p (q % 2 ^ n)) i := by
  intro n
  induction n with
  | zero => rw [Nat.pow_zero, Nat.mod_one, clm_zero]; rfl
  | succ n ih =>
    rw [parts_step, odN, ih]
    cases e : q.testBit n
    · simp
    · rw [if_pos rfl, od_xor, od_up]; simp
theorem od_clm (s : Nat → Bool) (p q i : Nat) : od s (clm p q) i = od (od s p) q i := by
  have h := odN_clm s p q i (len q)
  rw [Nat.mod_eq_of_lt (len_lt q)] at h
  exact h.symm
theorem od_zero_p (s : Nat → Bool) (i : Nat) : od s 0 i = false := rfl
/-- Where all are even but the last, which the highest part names: odd. -/
theorem od_top {s : Nat → Bool} {p i : Nat} (h0 : p ≠ 0) (h : ∀ k, k + 1 < len p → s (i + k) = false) : od s p i = s (i + (len p - 1)) := by
  have hp := len_pos h0
  have z : ∀ n, n + 1 ≤ len p → odN s p i n = false := by
    intro n hn
    induction n with
    | zero => rfl
    | succ n ih => rw [odN, ih (by omega), h n (by omega)]; simp
  have e : len p = (len p - 1) + 1 := by omega
  unfold od
  rw [e, odN, z _ (by omega), len_bit h0]; simp
theorem od_none {s : Nat → Bool} {p i : Nat} (h : ∀ k, k < len p → s (i + k) = false) : od s p i = false := by
  by_cases h0 : p = 0
  · subst h0; rfl
  · rw [od_top h0 (fun k hk => h k (by omega))]; exact h _ (by have := len_pos h0; omega)

/-- p is a rule of the first m bits. -/
def Rl (s : Nat → Bool) (m p : Nat) : Prop := p ≠ 0 ∧ ∀ i, i + len p ≤ m → od s p i = false
theorem Rl.less {s : Nat → Bool} {m n p : Nat} (h : Rl s m p) (hn : n ≤ m) : Rl s n p := ⟨h.1, fun i hi => h.2 i (by omega)⟩
theorem Rl.mul {s : Nat → Bool} {m p : Nat} (q : Nat) (h : Rl s m p) (hq : q ≠ 0) : Rl s m (clm p q) := by
  obtain ⟨e1, e2⟩ := len_clm h.1 hq
  refine ⟨e1, fun i hi => ?_⟩
  rw [od_clm]
  refine od_none (fun k hk => h.2 _ ?_)
  omega
/-- MASSEY's LEMMA: a rule of n bits and not of one more, and a rule of one more: their degrees are together more than n. -/
theorem massey {s : Nat → Bool} {n p q : Nat} (hp : p ≠ 0) (hl : len p ≤ n + 1) (h1 : ∀ i, i + len p ≤ n → od s p i = false) (h2 : od s p (n + 1 - len p) = true) (hq : Rl s (n + 1) q) : n + 3 ≤ len p + len q := by
  refine Decidable.byContradiction fun hn => ?_
  have a := len_pos hp; have b := len_pos hq.1
  have e1 : od s (clm p q) (n + 2 - len p - len q) = true := by
    rw [od_clm, od_top hq.1 (fun k hk => h1 _ (by omega)), ← h2]; congr 1; omega
  have e2 : od s (clm q p) (n + 2 - len p - len q) = false := by
    rw [od_clm]; exact od_none (fun k hk => hq.2 _ (by omega))
  rw [clm_comm, e2] at e1; cases e1
/-- The same where it is known only that p isn't a rule of m bits, but of some: it fails first somewhere. -/
theorem massey_at {s : Nat → Bool} {m k p q : Nat} (hp : p ≠ 0) (h1 : ∀ i, i + len p ≤ k → od s p i = false) (hn : ¬ Rl s m p) (hq : Rl s m q) : k + 3 ≤ len p + len q := by
  have : ∃ i, i + len p ≤ m ∧ od s p i = true := by
    refine Classical.byContradiction fun h => hn ⟨hp, fun i hi => ?_⟩
    cases e : od s p i
    · rfl
    · exact (h ⟨i, hi, e⟩).elim
  obtain ⟨i, hi⟩ := this
  induction i using Nat.strongRecOn with
  | _ i ih =>
    by_cases h : ∃ j, j < i ∧ od s p j = true
    · obtain ⟨j, hj, e⟩ := h
      exact ih j hj ⟨by omega, e⟩
    · have hk : k < i + len p := by
        refine Decidable.byContradiction fun hh => ?_
        have := h1 i (by omega); rw [hi.2] at this; cases this
      have a := len_pos hp
      have := massey (n := i + len p - 1) hp (by omega) (fun j hj => by
        cases e : od s p j
        · rfl
        · exact (h ⟨j, by omega, e⟩).elim) (by rw [show i + len p - 1 + 1 - len p = i from by omega]; exact hi.2) (hq.less (by omega))
      omega

/-- L is the least degree, and one more, of rules of the first m bits. -/
def Lst (s : Nat → Bool) (m L : Nat) : Prop := (∃ p, Rl s m p ∧ len p = L) ∧ ∀ p, Rl s m p → L ≤ len p
theorem Lst.only {s : Nat → Bool} {m L K : Nat} (h : Lst s m L) (k : Lst s m K) : L = K := by
  obtain ⟨p, h1, h2⟩ := h.1; obtain ⟨q, k1, k2⟩ := k.1
  have := h.2 q k1; have := k.2 p h1; omega
theorem Lst.mono {s : Nat → Bool} {m n L K : Nat} (h : Lst s m L) (k : Lst s n K) (hn : n ≤ m) : K ≤ L := by
  obtain ⟨p, h1, h2⟩ := h.1
  have := k.2 p (h1.less hn); omega
/-- Two rules of the least degree of no more than half of the bits are one. -/
theorem rule_one {s : Nat → Bool} {m L p q : Nat} (h : Lst s m L) (hL : 2 * L ≤ m + 2) (hp : Rl s m p) (hq : Rl s m q) (lp : len p = L) (lq : len q = L) : p = q := by
  refine Decidable.byContradiction fun hne => ?_
  have h0 : p ^^^ q ≠ 0 := fun e => hne (xor_self_eq e)
  have hl : len (p ^^^ q) < L := lp ▸ len_xor_top (by rw [lp, lq]) hp.1
  have z : ∀ i, i + L ≤ m → od s (p ^^^ q) i = false := fun i hi => by
    rw [od_xor, hp.2 i (by omega), hq.2 i (by omega)]; rfl
  have a := len_pos h0
  have b := len_pos hp.1
  by_cases hm : L ≤ m
  · have := massey_at (k := m - L + len (p ^^^ q)) h0 (fun i hi => z i (by omega)) (fun r => by have := h.2 _ r; omega) hp
    omega
  · have := massey_at (k := 0) h0 (fun i hi => by omega) (fun r => by have := h.2 _ r; omega) hp
    omega
/-- A rule of degree d, of twice as many bits, is parted by the least one. -/
theorem rule_parts {s : Nat → Bool} {m L p q : Nat} (h : Lst s m L) (hp : Rl s m p) (hq : Rl s m q) (lq : len q = L) (hm : 2 * len p ≤ m + 2) (hm2 : len p ≤ m + 1) : rt p q = 0 := by
  refine Decidable.byContradiction fun h0 => ?_
  have e := qr (a := p) hq.1
  have hl := rt_lt (a := p) hq.1
  have hpq := h.2 p hp
  have hlt : len (clm (qt p q) q) ≤ len p := by
    have := rt_lt (a := p) hq.1
    have e2 : clm (qt p q) q = p ^^^ rt p q := by
      have := congrArg (fun x => x ^^^ rt p q) e
      simpa only [xor_cancel] using this
    rw [e2]; exact len_xor_le _ _ _ (Nat.le_refl _) (by omega)
  have z : ∀ i, i + len p ≤ m → od s (rt p q) i = false := fun i hi => by
    have e3 : rt p q = p ^^^ clm (qt p q) q := by
      have := congrArg (fun x => clm (qt p q) q ^^^ x) e
      simp only [← Nat.xor_assoc, Nat.xor_self, Nat.zero_xor] at this
      rw [this, Nat.xor_comm]
    rw [e3, od_xor, hp.2 i hi]
    by_cases hz : qt p q = 0
    · rw [hz, clm_zero_left, od_zero_p]; rfl
    · rw [clm_comm, (hq.mul _ hz).2 i (by rw [clm_comm]; omega)]; rfl
  have a := len_pos h0
  by_cases hm : len p ≤ m
  · have := massey_at (k := m - len p + len (rt p q)) h0 (fun i hi => z i (by omega)) (fun r => by have := h.2 _ r; omega) hq
    omega
  · have := massey_at (k := 0) h0 (fun i hi => by omega) (fun r => by have := h.2 _ r; omega) hq
    omega

/-- THE STATE of the way to the least rule behind n bits: the rule, and the last one that failed (0: none has). -/
structure Bm (s : Nat → Bool) (n r f : Nat) : Prop where
  rule : Rl s n r
  least : ∀ p, Rl s n p → len r ≤ len p
  le : len r ≤ n + 1
  none : f = 0 → len r = 1
  fail : f ≠ 0 → ∃ k, k < n ∧ (∀ i, i + len f ≤ k → od s f i = false) ∧ len f ≤ k + 1 ∧ od s f (k + 1 - len f) = true ∧ len r + len f = k + 3
theorem Bm.start (s : Nat → Bool) : Bm s 0 1 0 where
  rule := ⟨by decide, fun i hi => by rw [len_one] at hi; omega⟩
  least := fun p hp => by have := len_pos hp.1; rw [len_one]; omega
  le := by rw [len_one]; omega
  none := fun _ => len_one
  fail := fun h => (h rfl).elim
theorem Bm.good {s : Nat → Bool} {n r f : Nat} (B : Bm s n r f) (h : od s r (n + 1 - len r) = false) : Bm s (n + 1) r f where
  rule := ⟨B.rule.1, fun i hi => by
    by_cases e : i + len r ≤ n
    · exact B.rule.2 i e
    · rw [show i = n + 1 - len r from by omega]; exact h⟩
  least := fun p hp => B.least p (hp.less (by omega))
  le := by have := B.le; omega
  none := B.none
  fail := fun hf => by obtain ⟨k, a, b⟩ := B.fail hf; exact ⟨k, by omega, b⟩
/-- The rule fails, and its degree is no more than half: it is put up, and what failed is added. -/
theorem Bm.turn {s : Nat → Bool} {n r f u : Nat} (B : Bm s n r f) (h : od s r (n + 1 - len r) = true) (hu : n + 3 = 2 * len r + u) (h0 : 0 < u) : Bm s (n + 1) (r * 2 ^ u ^^^ f) r ∧ len (r * 2 ^ u ^^^ f) = len r + u := by
  have hr := B.rule.1
  have lr := len_pos hr
  have lu := len_mul_pow hr u
  have ble := B.le
  have hlf : len f < len r + u := by
    by_cases hf : f = 0
    · subst hf; rw [len_zero]; omega
    · obtain ⟨k, a, b, c, d, e⟩ := B.fail hf; omega
  have ln : len (r * 2 ^ u ^^^ f) = len r + u := by rw [len_xor_lt (by omega), lu]
  have hne : r * 2 ^ u ^^^ f ≠ 0 := fun e => by rw [e, len_zero] at ln; omega
  refine ⟨⟨⟨hne, fun i hi => ?_⟩, fun p hp => ?_, by omega, fun e => (hr e).elim, fun _ => ⟨n, by omega, B.rule.2, by omega, h, by omega⟩⟩, ln⟩
  · rw [ln] at hi
    rw [od_xor, od_up]
    by_cases hf : f = 0
    · have := B.none hf; subst hf; omega
    · obtain ⟨k, a, b, c, d, e⟩ := B.fail hf
      by_cases hi2 : i + u + len r ≤ n
      · rw [B.rule.2 _ (by omega), b i (by omega)]; rfl
      · rw [show i + u = n + 1 - len r from by omega, h, show i = k + 1 - len f from by omega, d]; rfl
  · rw [ln]
    have := massey hr (by omega) B.rule.2 h hp
    omega
/-- The rule fails, and its degree is more than half: what failed is put up and added. -/
theorem Bm.put {s : Nat → Bool} {n r f u : Nat} (B : Bm s n r f) (h : od s r (n + 1 - len r) = true) (hu : n + 3 + u = 2 * len r) : Bm s (n + 1) (r ^^^ f * 2 ^ u) f ∧ len (r ^^^ f * 2 ^ u) = len r := by
  have hr := B.rule.1
  have lr := len_pos hr
  have ble := B.le
  have hf : f ≠ 0 := fun e => by have := B.none e; omega
  obtain ⟨k, a, b, c, d, e⟩ := B.fail hf
  have lf := len_pos hf
  have lu := len_mul_pow hf u
  have ln : len (r ^^^ f * 2 ^ u) = len r := len_xor_lt (by omega)
  have hne : r ^^^ f * 2 ^ u ≠ 0 := fun e => by rw [e, len_zero] at ln; omega
  refine ⟨⟨⟨hne, fun i hi => ?_⟩, fun p hp => by rw [ln]; exact B.least p (hp.less (by omega)), by omega, fun e => (hf e).elim, fun _ => ⟨k, by omega, b, c, d, by omega⟩⟩, ln⟩
  rw [ln] at hi
  rw [od_xor, od_up]
  by_cases hi2 : i + len r ≤ n
  · rw [B.rule.2 _ (by omega), b _ (by omega)]; rfl
  · rw [show i = n + 1 - len r from by omega, h, show n + 1 - len r + u = k + 1 - len f from by omega, d]; rfl
theorem Bm.lst {s : Nat → Bool} {n r f : Nat} (B : Bm s n r f) : Lst s n (len r) := ⟨⟨r, B.rule, rfl⟩, B.least⟩

/-- A row goes on by p: each bit from L on is what makes the number even. -/
theorem goes_same {s t : Nat → Bool} {p L m : Nat} (hp : 2 ≤ len p) (hL : len p ≤ L + 1) (hs : ∀ i, L < i + len p → i + len p ≤ m → od s p i = false) (ht : ∀ i, L < i + len p → i + len p ≤ m → od t p i = false)
    (h : ∀ i, i < L → s i = t i) : ∀ i, i < m → s i = t i := by
  intro i
  induction i using Nat.strongRecOn with
  | _ i ih =>
    intro hi
    by_cases hl : i < L
    · exact h i hl
    · have a := hs (i + 1 - len p) (by omega) (by omega)
      have b := ht (i + 1 - len p) (by omega) (by omega)
      have h0 : p ≠ 0 := fun e => by subst e; rw [len_zero] at hp; omega
      have e : len p = (len p - 1) + 1 := by omega
      unfold od at a b
      rw [e, odN, len_bit h0, Bool.true_and, show i + 1 - (len p - 1 + 1) + (len p - 1) = i from by omega] at a b
      have c : odN s p (i + 1 - (len p - 1 + 1)) (len p - 1) = odN t p (i + 1 - (len p - 1 + 1)) (len p - 1) :=
        odN_ext _ (fun k hk _ => ih _ (by omega) (by omega))
      rw [c] at a
      generalize odN t p (i + 1 - (len p - 1 + 1)) (len p - 1) = x at a b
      revert a b
      cases x <;> cases s i <;> cases t i <;> simp
end Go.Proofs.YtemgoikghaiamaaDoor.G
/-
  What math/bits.TrailingZeros64 and the closure of package massey's call oddAt answer: whether of the bits that a polynomial names, from a place on, an odd number is 1.
-/
namespace Go.Proofs.YtemgoikghaiamaaDoor
open Go.RowKit G
set_option linter.unusedVariables false

/-- A slice (its address, its capacity) that holds these bools. -/
structure Brs (w : World) (A : Option Addr) (cap : Nat) (l : List Bool) : Prop where
  cap1 : l.length ≤ cap
  cap2 : cap ≤ 9223372036854775807
  cell : ∀ i, i < l.length → ∃ b o, A = some ⟨b, o, none⟩ ∧ w.cell? ⟨b, o + i, none⟩ = some (.bool (l.getD i false))
theorem Brs.below {w w' : World} {A : Option Addr} {cap : Nat} {l : List Bool} (h : Brs w A cap l) (hb : Below w.heap.size w w') : Brs w' A cap l :=
  ⟨h.cap1, h.cap2, fun i hi => by
    obtain ⟨b, o, e, hc⟩ := h.cell i hi
    exact ⟨b, o, e, (hb.cell (p := ⟨b, o + i, none⟩) (World.block_lt_of_cell? w _ hc)).trans hc⟩⟩
theorem Brs.nil (w : World) (A : Option Addr) (cap : Nat) (h : cap ≤ 9223372036854775807) : Brs w A cap [] := ⟨Nat.zero_le _, h, fun i hi => (by cases hi)⟩
theorem Brs.take {w : World} {A : Option Addr} {cap : Nat} {l : List Bool} (h : Brs w A cap l) (n : Nat) : Brs w A cap (l.take n) :=
  ⟨by rw [List.length_take]; exact Nat.le_trans (Nat.min_le_right _ _) h.cap1, h.cap2, fun i hi => by
    rw [List.length_take] at hi
    obtain ⟨b, o, e, hc⟩ := h.cell i (by omega)
    refine ⟨b, o, e, ?_⟩
    rw [hc]
    simp only [List.getD_eq_getElem?_getD, List.getElem?_take]
    rw [if_pos (by omega)]⟩
/-- The table of math/bits, as its initialiser lays it. -/
def Tab (w : World) : Prop := ∀ j, j < 64 → w.cell? ⟨0, j, none⟩ = some (.int .u8 ((Lib.deBruijn64tab.getD j 0 : Nat) : Int))
theorem Tab.below {w w' : World} (h : Tab w) (hb : Below w.heap.size w w') : Tab w' := fun j hj =>
  (hb.cell (p := ⟨0, j, none⟩) (World.block_lt_of_cell? w _ (h j hj))).trans (h j hj)
/-- This program's numbers for the library's contract. -/
def ren29 : Go.Shelf.Ren := ⟨fun | 29 => 72 | n => n, fun | 0 => 0 | 3 => 3 | 4 => 4 | 5 => 5 | 22 => 22 | 25 => 87 | 54 => 106 | n => n, fun | 1 => 0 | n => n⟩
theorem lays29 : Lays7.n29 Tryd.prog ren29 := {
  mixed := by kernel_rfl
  f29 := Tryd.func72.trans (congrArg some (by kernel_rfl))
  t0 := Tryd.underlying0
  a0 := Tryd.isAgg0
  z0 := Tryd.sizeOf0
  v0 := Tryd.zeroValue0
  i0 := by kernel_rfl
  t3 := Tryd.underlying3
  a3 := Tryd.isAgg3
  z3 := Tryd.sizeOf3
  v3 := Tryd.zeroValue3
  i3 := by kernel_rfl
  t4 := Tryd.underlying4
  a4 := Tryd.isAgg4
  z4 := Tryd.sizeOf4
  v4 := Tryd.zeroValue4
  i4 := by kernel_rfl
  t5 := Tryd.underlying5
  a5 := Tryd.isAgg5
  z5 := Tryd.sizeOf5
  v5 := Tryd.zeroValue5
  i5 := by kernel_rfl
  t22 := Tryd.underlying22
  a22 := Tryd.isAgg22
  z22 := Tryd.sizeOf22
  v22 := Tryd.zeroValue22
  i22 := by kernel_rfl
  t25 := Tryd.underlying87
  a25 := Tryd.isAgg87
  z25 := Tryd.sizeOf87
  v25 := Tryd.zeroValue87
  i25 := by kernel_rfl
  t54 := Tryd.underlying106
  a54 := Tryd.isAgg106
  z54 := Tryd.sizeOf106
  g1 := by kernel_rfl }
theorem cTz (x : Nat) (hx : x < 18446744073709551616) (h0 : x ≠ 0) (w : World) (T : Tab w) :
    Calls Tryd.prog 72 #[.int .u64 (x : Int)] w fun e w' => e = .returned (.int .i64 ((Lib.ctz 64 x : Nat) : Int)) ∧ w' = w :=
  Any7.bits_TrailingZeros64 lays29 x hx w (fun _ j hj => T j hj)

/-- The lowest bit of a number. -/
theorem ctz_bits (y : Nat) (hy : y < 18446744073709551616) (h0 : y ≠ 0) : Lib.ctz 64 y < 64 ∧ y.testBit (Lib.ctz 64 y) = true ∧ (∀ k, k < Lib.ctz 64 y → y.testBit k = false) ∧ ∀ k, (y &&& (y - 1)).testBit k = (y.testBit k && decide (k ≠ Lib.ctz 64 y)) := by
  obtain ⟨m, e, hc⟩ := Lib.ctzFrom_spec 64 y (by omega) hy
  have ec : Lib.ctz 64 y = Lib.ctzFrom 64 y := by unfold Lib.ctz; rw [if_neg h0]
  rw [← ec] at e hc
  generalize Lib.ctz 64 y = c at e hc ⊢
  have low : ∀ k, k < c → y.testBit k = false := fun k hk => by rw [e, Nat.testBit_two_pow_mul, show decide (k ≥ c) = false from by simp; omega]; rfl
  refine ⟨hc, by rw [e, Nat.testBit_two_pow_mul]; simp [Nat.testBit_zero], low, fun k => ?_⟩
  rw [Nat.testBit_and]
  by_cases hk : k < c
  · rw [low k hk]; simp
  · have e1 : y - 1 = 2 ^ c * (2 * m) + (2 ^ c - 1) := by
      have := Nat.two_pow_pos c
      rw [e, Nat.mul_add, Nat.mul_one]; omega
    have e2 := Nat.testBit_two_pow_mul_add (2 * m) (b := 2 ^ c - 1) (i := c) (by have := Nat.two_pow_pos c; omega) k
    rw [if_neg hk] at e2
    rw [e1, e2, e, Nat.testBit_two_pow_mul, show decide (k ≥ c) = true from by simp; omega, Bool.true_and]
    by_cases hc : k = c
    · subst hc; simp [Nat.testBit_zero]
    · obtain ⟨j, hj⟩ : ∃ j, k - c = j + 1 := ⟨k - c - 1, by omega⟩
      rw [hj, Nat.testBit_succ, Nat.testBit_succ, show (2 * m + 1) / 2 = m from by omega, show 2 * m / 2 = m from by omega, show decide (k ≠ c) = true from by simp; exact hc]
      simp
/-- What is left of a word: its bits from t on. -/
def Left (x y t : Nat) : Prop := ∀ k, y.testBit k = (decide (t ≤ k) && x.testBit k)
theorem Left.start (x : Nat) : Left x x 0 := fun k => by simp
theorem odN_skip (s : Nat → Bool) (p i : Nat) {m n : Nat} (h : m ≤ n) (z : ∀ k, m ≤ k → k < n → p.testBit k = false) : odN s p i n = odN s p i m := by
  induction n with
  | zero => obtain rfl : m = 0 := by omega
            rfl
  | succ n ih =>
    by_cases e : m = n + 1
    · rw [e]
    · rw [odN, ih (by omega) (fun k a b => z k a (by omega)), z n (by omega) (by omega)]; simp
/-- One bit of what is left of word i is taken. -/
theorem left_step {s : Nat → Bool} {N p i x y t : Nat} (hx : ∀ k, k < 64 → N.testBit (64 * i + k) = x.testBit k) (hy : y < 18446744073709551616) (h0 : y ≠ 0) (ht : t ≤ 64) (L : Left x y t) :
    t ≤ Lib.ctz 64 y ∧ Lib.ctz 64 y < 64 ∧ 64 * i + Lib.ctz 64 y < len N ∧ Left x (y &&& (y - 1)) (Lib.ctz 64 y + 1) ∧ odN s N p (64 * i + (Lib.ctz 64 y + 1)) = (odN s N p (64 * i + t) ^^ s (p + (64 * i + Lib.ctz 64 y))) := by
  obtain ⟨c64, cb, cl, ca⟩ := ctz_bits y hy h0
  generalize Lib.ctz 64 y = c at c64 cb cl ca ⊢
  have h1 := L c
  rw [cb] at h1
  have tc : t ≤ c := by
    refine Decidable.byContradiction fun h => ?_
    rw [show decide (t ≤ c) = false from by simp; omega] at h1
    simp at h1
  have xc : x.testBit c = true := by
    rw [show decide (t ≤ c) = true from by simp; omega] at h1
    simpa using h1.symm
  have Nc : N.testBit (64 * i + c) = true := by rw [hx c c64]; exact xc
  refine ⟨tc, c64, ?_, fun k => ?_, ?_⟩
  · refine Decidable.byContradiction fun h => ?_
    rw [len_bit_out (by omega)] at Nc; cases Nc
  · rw [ca k, L k]
    by_cases e1 : k < c
    · have z := cl k e1
      rw [L k] at z
      rw [z, show decide (c + 1 ≤ k) = false from by simp; omega]; rfl
    · by_cases e2 : k = c
      · subst e2; rw [show decide (k ≠ k) = false from by simp, show decide (k + 1 ≤ k) = false from by simp]; simp
      · rw [show decide (k ≠ c) = true from by simp; exact e2, show decide (c + 1 ≤ k) = true from by simp; omega, show decide (t ≤ k) = true from by simp; omega]; simp
  · rw [← Nat.add_assoc, odN, Nc, Bool.true_and, odN_skip s N p (m := 64 * i + t) (n := 64 * i + c) (by omega) (fun k a b => ?_)]
    obtain ⟨j, rfl⟩ : ∃ j, k = 64 * i + j := ⟨k - 64 * i, by omega⟩
    have z := cl j (by omega)
    rw [L j, show decide (t ≤ j) = true from by simp; omega, Bool.true_and] at z
    rw [hx j (by omega)]; exact z
theorem left_end {s : Nat → Bool} {N p i x t : Nat} (hx : ∀ k, k < 64 → N.testBit (64 * i + k) = x.testBit k) (ht : t ≤ 64) (L : Left x 0 t) : odN s N p (64 * (i + 1)) = odN s N p (64 * i + t) := by
  refine odN_skip s N p (by omega) (fun k a b => ?_)
  obtain ⟨j, rfl⟩ : ∃ j, k = 64 * i + j := ⟨k - 64 * i, by omega⟩
  have z := L j
  rw [Nat.zero_testBit, show decide (t ≤ j) = true from by simp; omega, Bool.true_and] at z
  rw [hx j (by omega)]; exact z.symm
theorem and_lt {y : Nat} (hy : y < 18446744073709551616) : y &&& (y - 1) < 18446744073709551616 := Nat.lt_of_le_of_lt Nat.and_le_left hy
theorem bne_xor (a b : Bool) : (a != b) = (a ^^ b) := by cases a <;> cases b <;> rfl

/-- The row as a function of the place. -/
def rw_ (l : List Bool) (i : Nat) : Bool := l.getD i false
set_option maxRecDepth 100000 in
set_option maxHeartbeats 4000000 in
theorem oddWalk (bK bP bL K N place M ca cl L0 : Nat) (A Al : Option Addr) (xs : List Nat) (l : List Bool) (r : Bool) (hL : Hid (xs.length = L0)) (hN : Hid (leN xs = N)) (hl : Hid (l.length = M)) (hK : Hid (len N ≤ 64 * K)) (hKL : K ≤ L0) (b1 : L0 ≤ 50000) (b2 : M ≤ 4611686018427387904) (hp : Hid (place + len N ≤ M))
    (hr : Hid (od (rw_ l) N place = r)) (w : World) (T : Hid (Tab w)) (BK : Hid (Box w bK 3 (.int .i64 (K : Int)))) (BP : Hid (Box w bP 28 (.slice A L0 ca))) (BL : Hid (Box w bL 73 (.slice Al M cl))) (P : Hid (Pol w A ca xs)) (R : Hid (Brs w Al cl l)) :
    Calls Tryd.prog 71 #[.int .i64 (place : Int), .pointer (some ⟨bK, 0, none⟩), .pointer (some ⟨bP, 0, none⟩), .pointer (some ⟨bL, 0, none⟩)] w (fun e w' => e = .returned (.bool r) ∧ ∃ n, w' = w.drewN n) := by
  have k1 := BK.out.cell
  have p1 := BP.out.cell
  have l1 := BL.out.cell
  have mp : place ≤ 4611686018427387904 := by have := hp.out; omega
  go_enter Tryd.func71, Tryd.ntmps71
  go_wp2_with fail
  go_loopg [6, 10] K (fun g v i wr => ∃ k q : Nat, k + g = K ∧ i = .int .i64 k ∧ v = .bool (odN (rw_ l) N place (64 * k)) ∧ wr = w.drewN q)
  case atStart => exact ⟨0, 0, by omega, rfl, rfl, rfl⟩
  case round =>
    obtain ⟨k, q, hk, rfl, rfl, rfl⟩ := hrel
    by_cases hlt : k < K
    · have kl : (k : Int) < (K : Int) := by omega
      have k0 : (0 : Int) ≤ (k : Int) := by omega
      have kL : (k : Int) < (L0 : Int) := by omega
      have p2 : (w.drewN q).cell? ⟨bP, 0, none⟩ = some (.slice A L0 ca) := p1
      obtain ⟨b, o, rfl, hc⟩ := P.out.cell k (by rw [hL.out]; omega)
      have hc2 : (w.drewN q).cell? ⟨b, o + k, none⟩ = some (.int .u64 ((xs.getD k 0 : Nat) : Int)) := hc
      have hx := P.out.word.get k
      have HX := Lib.hid (show ∀ j, j < 64 → N.testBit (64 * k + j) = (xs.getD k 0).testBit j from fun j hj => by
        rw [← hN.out, bit_leN xs _ P.out.word, show (64 * k + j) / 64 = k from by omega, show (64 * k + j) % 64 = j from by omega])
      generalize xs.getD k 0 = x at hc hc2 hx HX
      generalize hv0 : odN (rw_ l) N place (64 * k) = v0
      have HV := Lib.hid hv0
      clear hv0
      have hpM := hp.out
      have hlL := hl.out
      go_wp2_with fail
      obtain ⟨go, rfl⟩ : ∃ go, go = gk := ⟨_, rfl⟩
      obtain ⟨qo, rfl⟩ : ∃ qo, qo = q := ⟨_, rfl⟩
      clear hc hc2
      go_loopg [6, 8] 64 (fun g v y' wr => ∃ t y q : Nat, t + g = 64 ∧ v = .bool (odN (rw_ l) N place (64 * k + t)) ∧ y' = .int .u64 y ∧ y < 18446744073709551616 ∧ Hid (Left x y t) ∧ wr = w.drewN q)
      case atStart => exact ⟨0, x, qo, by omega, by rw [Nat.add_zero, HV.out], rfl, hx, Lib.hid (Left.start x), rfl⟩
      case round =>
        obtain ⟨t, y, q, ht, rfl, rfl, hy, HL, rfl⟩ := hrel
        by_cases h0 : y = 0
        · subst h0
          have e := left_end (s := rw_ l) (p := place) HX.out (by omega) HL.out
          rw [← e]
          generalize hv1 : odN (rw_ l) N place (64 * (k + 1)) = v1
          have HV1 := Lib.hid hv1
          clear hv1 e
          go_wp2_with fail
          go_roundg (go - 1)
          case measure => omega
          case rel => exact ⟨k + 1, q, by omega, by go_num, by rw [HV1.out], rfl⟩
        · obtain ⟨e1, e2, e3, e4, e5⟩ := left_step (s := rw_ l) (p := place) HX.out hy h0 (by omega) HL.out
          have TZ := Lib.hid (fun n => cTz y hy h0 ((w.drewN q).drewN n) T.out)
          obtain ⟨c, hc⟩ : ∃ c, c = Lib.ctz 64 y := ⟨_, rfl⟩
          rw [← hc] at e1 e2 e3 e4 e5 TZ
          obtain ⟨a, ha⟩ : ∃ a, a = 64 * k := ⟨_, rfl⟩
          rw [← ha] at e3 e5
          obtain ⟨d, hd⟩ : ∃ d, d = place + a := ⟨_, rfl⟩
          obtain ⟨j, hj⟩ : ∃ j, j = place + (a + c) := ⟨_, rfl⟩
          have r0 : (k : Int) * 64 = (a : Int) := by omega
          have ba : a ≤ 4611686018427387904 ∧ d ≤ 4611686018427387904 ∧ j ≤ 4611686018427387904 := by omega
          have r1 : (place : Int) + (a : Int) = (d : Int) := by omega
          have r2 : (d : Int) + (c : Int) = (j : Int) := by omega
          have r3 : (j : Int) < (M : Int) := by omega
          have r4 : (0 : Int) ≤ (j : Int) := by omega
          obtain ⟨bb, ob, rfl, q1⟩ := R.out.cell j (by omega)
          have hy0 : ((y : Int) == 0) = false := by
            have : (y : Int) ≠ 0 := by omega
            simpa using this
          have hyn : (y == 0) = false := by simpa using h0
          have hyi : ((y : Int) != 0) = true := by
            have : (y : Int) ≠ 0 := by omega
            simpa using this
          have hyb : (y != 0) = true := by simpa using h0
          have s1 : (y : Int) - 1 = ((y - 1 : Nat) : Int) := by omega
          have s2 := bits_and_u64_nat y (y - 1) hy (by omega)
          have hz := and_lt hy
          obtain ⟨y1, hy1⟩ : ∃ y1, y1 = y - 1 := ⟨_, rfl⟩
          rw [← hy1] at s1 s2 hz e4
          obtain ⟨z, hzz⟩ : ∃ z, z = y &&& y1 := ⟨_, rfl⟩
          rw [← hzz] at s2 hz e4
          have s3 : y1 < 18446744073709551616 := by omega
          rw [← hj, show (rw_ l j) = l.getD j false from rfl, ← bne_xor] at e5
          rw [ha] at e5
          generalize l.getD j false = u at q1 e5
          generalize odN (rw_ l) N place (64 * k + t) = v1 at e5 ⊢
          have E5 := Lib.hid (show odN (rw_ l) N place (64 * k + (c + 1)) = (!(v1 == u)) from by rw [e5]; cases v1 <;> cases u <;> rfl)
          have E4 := Lib.hid e4
          have HJ := Lib.hid (show c + 1 ≤ 64 ∧ t ≤ c from ⟨by omega, by omega⟩)
          clear e5 e4 hy1 hzz hd hj hc e1 e2 e3
          clear hx ha
          have l2 : (w.drewN q).cell? ⟨bL, 0, none⟩ = some (.slice (some ⟨bb, ob, none⟩) M cl) := l1
          have q2 : (w.drewN q).cell? ⟨bb, ob + j, none⟩ = some (.bool u) := q1
          generalize hw1 : w.drewN q = w1 at l2 q2 TZ ⊢
          have HW := Lib.hid hw1
          clear hw1
          go_wp2_with fail
          go_quiet ((go_at_call 72; (with_reducible exact Calls.quiet_of_same ((TZ.out _).mono fun _ _ ⟨a, b⟩ => ⟨a, b⟩))))
          go_wp2_with fail
          go_roundg (64 - (c + 1))
          case measure => have := HJ.out; omega
          case rel => exact ⟨c + 1, z, q + nq, by have := HJ.out; omega, by rw [E5.out], rfl, hz, E4, by rw [← HW.out, World.drewN_drewN]⟩
    · obtain rfl : k = K := by omega
      have kl : ¬ ((k : Int) < (k : Int)) := by omega
      have e : odN (rw_ l) N place (64 * k) = r := by rw [← hr.out]; exact odN_more _ _ _ _ hK.out
      rw [e]
      go_wp2_with fail
      go_ret
      exact ⟨rfl, q, rfl⟩
end Go.Proofs.YtemgoikghaiamaaDoor
/-
  What the calls oddAt and Rule of package massey answer.
-/
namespace Go.Proofs.YtemgoikghaiamaaDoor
open Go.RowKit G
set_option linter.unusedVariables false

/-- What the closure of oddAt has caught. -/
structure OddSt (bK bP bL K L0 ca M cl : Nat) (A Al : Option Addr) (w : World) : Prop where
  k : Box w bK 3 (.int .i64 (K : Int))
  p : Box w bP 28 (.slice A L0 ca)
  l : Box w bL 73 (.slice Al M cl)
theorem OddSt.below {bK bP bL K L0 ca M cl : Nat} {A Al : Option Addr} {w w' : World} (h : OddSt bK bP bL K L0 ca M cl A Al w) (hb : Below w.heap.size w w') : OddSt bK bP bL K L0 ca M cl A Al w' :=
  ⟨h.k.below hb, h.p.below hb, h.l.below hb⟩
/-- What oddAt answers: its closure. -/
def OddA (K L0 ca M cl : Nat) (A Al : Option Addr) (w : World) (e : Ending) (w' : World) : Prop :=
  ∃ bK bP bL : Nat, e = .returned (.func (.func 71) #[] #[.pointer (some ⟨bK, 0, none⟩), .pointer (some ⟨bP, 0, none⟩), .pointer (some ⟨bL, 0, none⟩)]) ∧ OddSt bK bP bL K L0 ca M cl A Al w' ∧ w.heap.size ≤ bK ∧ w.heap.size ≤ bP ∧ w.heap.size ≤ bL ∧ Below w.heap.size w w'
theorem oddStart (w : World) (K : Int) (P Q : Value) :
    Box (((w.alloc (.cells #[P] 28)).alloc (.cells #[Q] 73)).alloc (.cells #[.int .i64 K] 3)) (w.heap.size + 1 + 1) 3 (.int .i64 K) ∧
    Box (((w.alloc (.cells #[P] 28)).alloc (.cells #[Q] 73)).alloc (.cells #[.int .i64 K] 3)) w.heap.size 28 P ∧
    Box (((w.alloc (.cells #[P] 28)).alloc (.cells #[Q] 73)).alloc (.cells #[.int .i64 K] 3)) (w.heap.size + 1) 73 Q ∧
    Below w.heap.size w (((w.alloc (.cells #[P] 28)).alloc (.cells #[Q] 73)).alloc (.cells #[.int .i64 K] 3)) := by
  have h1 := box_new w 28 P
  generalize e1 : w.alloc (.cells #[P] 28) = w1 at h1 ⊢
  have s1 : w1.heap.size = w.heap.size + 1 := by rw [← e1]; simp
  have b1 : Below w.heap.size w w1 := by rw [← e1]; exact below_allocs w _
  have h2 := box_new w1 73 Q
  generalize e2 : w1.alloc (.cells #[Q] 73) = w2 at h2 ⊢
  have s2 : w2.heap.size = w.heap.size + 1 + 1 := by rw [← e2]; simp [s1]
  have b2 : Below w1.heap.size w1 w2 := by rw [← e2]; exact below_allocs w1 _
  have h3 := box_new w2 3 (.int .i64 K)
  have b3 := below_allocs w2 (.cells #[.int .i64 K] 3)
  rw [s2] at h3
  rw [s1] at h2
  exact ⟨h3, h1.below (below_then b2 b3), h2.below b3, below_then b1 (below_then b2 b3)⟩
theorem len_polB {w : World} {A : Option Addr} {ca L0 N : Nat} {xs : List Nat} (P : Pol w A ca xs) (hL : xs.length = L0) (hN : leN xs = N) : len N ≤ 64 * L0 := by
  rw [← hN, ← hL]; exact len_words P.word
set_option maxRecDepth 100000 in
set_option maxHeartbeats 2000000 in
theorem oddAtWalk (L0 ca M cl K N : Nat) (A Al : Option Addr) (xs : List Nat) (hL : Hid (xs.length = L0)) (hN : Hid (leN xs = N)) (h0 : Hid (N ≠ 0)) (hK : Hid ((len N - 1) / 64 + 1 = K)) (b1 : L0 ≤ 50000) (w : World) (P : Hid (Pol w A ca xs)) :
    Calls Tryd.prog 67 #[.slice A L0 ca, .slice Al M cl] w (OddA K L0 ca M cl A Al w) := by
  have D := Lib.hid (fun (w' : World) (hb : Below w.heap.size w w') => gDeg ((len N - 1 : Nat) : Int) (P.out.below hb) hL.out (by rw [hN.out]; have := len_pos h0.out; omega) b1)
  generalize hd : len N - 1 = d at D
  have HD := Lib.hid hd
  clear hd
  go_enter Tryd.func67, Tryd.ntmps67
  have B2 := below_then (below_allocs w (.cells #[.slice A L0 ca] 28)) (below_allocs _ (.cells #[.slice Al M cl] 73))
  have D2 := Lib.hid (D.out _ B2)
  go_wp2_with fail
  refine D2.out.mono ?_
  rintro e w' ⟨rfl, rfl⟩
  have k1 : (d : Int) / 64 + 1 = (K : Int) := by have := hK.out; rw [HD.out] at this; omega
  have k2 : K ≤ 4611686018427387904 := by have := hK.out; have := len_polB P.out hL.out hN.out; omega
  clear D D2 B2 P
  go_wp2_with fail
  go_ret
  obtain ⟨s1, s2, s3, s4⟩ := oddStart w (K : Int) (.slice A L0 ca) (.slice Al M cl)
  exact ⟨_, _, _, rfl, ⟨s1, s2, s3⟩, by omega, by omega, by omega, s4⟩
theorem gOddAt {A : Option Addr} {L0 ca : Nat} {xs : List Nat} {w : World} (N M cl : Nat) (Al : Option Addr) (P : Pol w A ca xs) (hL : xs.length = L0) (hN : leN xs = N) (h0 : N ≠ 0) (b1 : L0 ≤ 50000) :
    Calls Tryd.prog 67 #[.slice A L0 ca, .slice Al M cl] w (OddA ((len N - 1) / 64 + 1) L0 ca M cl A Al w) :=
  oddAtWalk L0 ca M cl _ N A Al xs (Lib.hid hL) (Lib.hid hN) (Lib.hid h0) (Lib.hid rfl) b1 w (Lib.hid P)
/-- The closure, called. -/
theorem gOdd {bK bP bL L0 ca M cl : Nat} {A Al : Option Addr} {xs : List Nat} {l : List Bool} {w : World} (N place : Nat) (r : Bool) (S : OddSt bK bP bL ((len N - 1) / 64 + 1) L0 ca M cl A Al w) (P : Pol w A ca xs) (R : Brs w Al cl l) (T : Tab w)
    (hL : xs.length = L0) (hN : leN xs = N) (hl : l.length = M) (h0 : N ≠ 0) (b1 : L0 ≤ 50000) (b2 : M ≤ 4611686018427387904) (hp : place + len N ≤ M) (hr : od (rw_ l) N place = r) :
    Calls Tryd.prog 71 #[.int .i64 (place : Int), .pointer (some ⟨bK, 0, none⟩), .pointer (some ⟨bP, 0, none⟩), .pointer (some ⟨bL, 0, none⟩)] w (fun e w' => e = .returned (.bool r) ∧ ∃ n, w' = w.drewN n) := by
  have a := len_pos h0
  have b := len_polB P hL hN
  exact oddWalk bK bP bL _ N place M ca cl L0 A Al xs l r (Lib.hid hL) (Lib.hid hN) (Lib.hid hl) (Lib.hid (by omega)) (by omega) b1 b2 (Lib.hid hp) (Lib.hid hr) w (Lib.hid T) (Lib.hid S.k) (Lib.hid S.p) (Lib.hid S.l) (Lib.hid P) (Lib.hid R)

end Go.Proofs.YtemgoikghaiamaaDoor
/-
  What the call Goes of package massey answers: how a row goes on.
-/
namespace Go.Proofs.YtemgoikghaiamaaDoor
open Go.RowKit G
set_option linter.unusedVariables false

/-- How a row goes on, bit by bit. -/
def gs (N : Nat) (l : List Bool) : Nat → List Bool
  | 0 => l
  | k + 1 => gs N l k ++ [od (rw_ (gs N l k)) N (l.length + k + 1 - len N)]
theorem gs_len (N : Nat) (l : List Bool) : ∀ k, (gs N l k).length = l.length + k := by
  intro k
  induction k with
  | zero => rfl
  | succ k ih => rw [gs, List.length_append, ih]; rfl
theorem getD_append_at (l : List Bool) (v : Bool) (i : Nat) : (l ++ [v]).getD i false = if i = l.length then v else l.getD i false := by
  simp only [List.getD_eq_getElem?_getD, List.getElem?_append]
  by_cases h : i < l.length
  · rw [if_pos h, if_neg (by omega)]
  · rw [if_neg h]
    by_cases h2 : i = l.length
    · subst h2; simp
    · rw [if_neg h2, List.getElem?_eq_none (by simp; omega), List.getElem?_eq_none (by omega)]
/-- A row that is longer: bits 0 behind. -/
def padB (n : Nat) (l : List Bool) : List Bool := (List.range n).map fun i => l.getD i false
theorem padB_len (n : Nat) (l : List Bool) : (padB n l).length = n := by simp [padB]
theorem padB_get (n : Nat) (l : List Bool) (h : l.length ≤ n) (i : Nat) : (padB n l).getD i false = l.getD i false := by
  simp only [padB, List.getD_eq_getElem?_getD, List.getElem?_map]
  by_cases hi : i < n
  · rw [List.getElem?_range hi]; rfl
  · rw [List.getElem?_eq_none (by simp; omega), List.getElem?_eq_none (by omega)]; rfl
theorem rw_padB (n : Nat) (l : List Bool) (h : l.length ≤ n) : rw_ (padB n l) = rw_ l := funext (fun i => padB_get n l h i)
/-- A new row of bools, the list's and bits 0 behind. -/
def BRow (w : World) (g n : Nat) (l : List Bool) : Prop := w.rowIs g 4 n (fun i => .bool (l.getD i false))
theorem BRow.brs {w : World} {g n : Nat} {l : List Bool} (h : BRow w g n l) (hl : l.length ≤ n) (hn : n ≤ 9223372036854775807) : Brs w (some ⟨g, 0, none⟩) n (padB n l) :=
  ⟨by rw [padB_len]; exact Nat.le_refl _, hn, fun i hi => ⟨g, 0, rfl, by rw [Nat.zero_add, padB_get n l hl]; exact World.rowIs.cell h (by rw [padB_len] at hi; exact hi)⟩⟩
theorem BRow.full {w : World} {g n : Nat} {l : List Bool} (h : BRow w g n l) (hl : l.length = n) (hn : n ≤ 9223372036854775807) : Brs w (some ⟨g, 0, none⟩) n l :=
  ⟨by omega, hn, fun i hi => ⟨g, 0, rfl, by rw [Nat.zero_add]; exact World.rowIs.cell h (by omega)⟩⟩
theorem BRow.next {w : World} {g n : Nat} {l : List Bool} (h : BRow w g n l) (t : Nat) (v : Bool) (ht : l.length = t) : BRow (w.setCell ⟨g, t, none⟩ (.bool v)) g n (l ++ [v]) := by
  subst ht
  refine (World.rowIs.set h l.length (.bool v)).congr (fun i hi => ?_)
  show (if i = l.length then Value.bool v else .bool (l.getD i false)) = _
  rw [getD_append_at]
  split <;> rfl
theorem BRow.below {w w' : World} {g n : Nat} {l : List Bool} (h : BRow w g n l) (hb : Below w.heap.size w w') : BRow w' g n l := World.rowIs.of_block h (hb.block g (World.rowIs.lt h))
theorem BRow.drew {w : World} {g n : Nat} {l : List Bool} (h : BRow w g n l) (q : Nat) : BRow (w.drewN q) g n l := h
theorem infoB : (Tryd.prog.info? 4).map (fun i => (i.zero, i.size, i.bytes)) = some (some (.bool false), 1, 1) := by kernel_rfl
theorem infoB1 : (Tryd.prog.info? 4).map (·.size) = some 1 := by kernel_rfl
theorem copied (w : World) (g n : Nat) (l : List Bool) (hl : l.length ≤ n) (h : w.heap[g]? = some (.cells (splice (List.replicate n (Value.bool false)) 0 (l.map Value.bool)).toArray 4 (0, 0))) : BRow w g n l := by
  refine ⟨_, h, by rw [List.size_toArray, length_splice _ _ _ (by simp; exact hl), List.length_replicate], fun i hi => ?_⟩
  rw [List.getElem?_toArray]
  simp only [splice, List.take_zero, List.nil_append, Nat.zero_add, List.length_map, List.getElem?_append, List.getD_eq_getElem?_getD]
  by_cases h2 : i < l.length
  · rw [if_pos h2, List.getElem?_map, List.getElem?_eq_getElem h2]; rfl
  · rw [if_neg h2, List.drop_replicate, List.getElem?_replicate, if_pos (by omega), List.getElem?_eq_none (by omega)]; rfl
/-- An answer that is a row of bits, and no error. -/
def AnsG (g : List Bool) (n : Nat) (w : World) (e : Ending) (w' : World) : Prop :=
  ∃ (A : Option Addr) (cap : Nat), e = .returned (.tuple #[.slice A n cap, .int .i64 0]) ∧ Brs w' A cap g ∧ Below w.heap.size w w'
/-- An answer that is nil, and an error. -/
def NilG (n : Int) (w : World) (e : Ending) (w' : World) : Prop := e = .returned (.tuple #[.slice none 0 0, .int .i64 n]) ∧ Below w.heap.size w w'
section
variable {A Al : Option Addr} {L0 ca M cl : Nat} {xs : List Nat} {l : List Bool} {w : World}
end
theorem made_list (n : Nat) : (madeCells #[Value.bool false] n) = (List.replicate n (Value.bool false)).toArray := by
  apply Array.toList_inj.1
  rw [toList_madeCells_one]
theorem made_at (w : World) (n : Nat) : (w.alloc (.cells (madeCells #[Value.bool false] n) 4)).heap[w.heap.size]? = some (.cells (List.replicate n (Value.bool false)).toArray 4 (0, 0)) := by
  rw [heap_alloc_new, made_list]
theorem copy_pos {w w' : World} {Al : Option Addr} {cl g : Nat} {l : List Bool} (R : Brs w Al cl l) (hb : Below w.heap.size w w') (h : 0 < (l.map Value.bool).length) :
    some (⟨g, 0, none⟩ : Addr) = some ⟨g, 0, none⟩ ∧ ∃ ad, Al = some ad ∧ ∀ j v, (l.map Value.bool)[j]? = some v → w'.cell? (ad.add j) = some v := by
  rw [List.length_map] at h
  obtain ⟨b, o, e, _⟩ := R.cell 0 h
  refine ⟨rfl, _, e, fun j v hv => ?_⟩
  rw [List.getElem?_map] at hv
  by_cases hj : j < l.length
  · obtain ⟨b', o', e', c⟩ := (R.below hb).cell j hj
    rw [e] at e'
    simp only [Option.some.injEq, Addr.mk.injEq, and_true] at e'
    obtain ⟨rfl, rfl⟩ := e'
    rw [Addr.add_lit, c]
    rw [List.getElem?_eq_getElem hj] at hv
    simp only [Option.map_some, Option.some.injEq] at hv
    rw [← hv, List.getD_eq_getElem?_getD, List.getElem?_eq_getElem hj]; rfl
  · rw [List.getElem?_eq_none (by omega)] at hv; cases hv
theorem copy_run {w : World} {Al : Option Addr} {cl n M : Nat} {l : List Bool} (R : Brs w Al cl l) (hl : l.length = M) (hM : M ≤ n) (h0 : 0 < M) :
    ∃ w2, (Builtin.copy_ #[73, 73] 3 #[.slice (some ⟨w.heap.size, 0, none⟩) n n, .slice Al M cl]).run Tryd.prog (w.alloc (.cells (madeCells #[Value.bool false] n) 4)) = .ok (goInt M) w2 ∧ BRow w2 w.heap.size n l ∧ Below w.heap.size w w2 := by
  have hA := below_allocs w (.cells (madeCells #[Value.bool false] n) 4)
  have hlm : (l.map Value.bool).length = M := by rw [List.length_map, hl]
  obtain ⟨-, ad, rfl, hsrc⟩ := copy_pos (g := w.heap.size) R hA (by rw [hlm]; exact h0)
  have hg := made_at w n
  have hrun := run_copy_row (P := Tryd.prog) (w.alloc (.cells (madeCells #[Value.bool false] n) 4)) 73 73 3 4 w.heap.size 0 n n ad M cl _ 4 (l.map Value.bool) Tryd.underlying73 infoB1 hg (by rw [hlm]; show M = min M n; omega) hsrc (by rw [hlm]; simp; exact hM) (fun v hv => by
    obtain ⟨x, _, rfl⟩ := List.mem_map.1 hv; rfl)
  rw [hlm] at hrun
  refine ⟨_, hrun, copied _ _ _ _ (by omega) ?_, below_setRow hA (Nat.le_refl _) _⟩
  have := setRow_heap _ w.heap.size _ ((List.replicate n (Value.bool false)).take 0 ++ ((l.map Value.bool) ++ (List.replicate n (Value.bool false)).drop (0 + M))).toArray 4 _ hg
  simpa [splice, hl] using this
end Go.Proofs.YtemgoikghaiamaaDoor
/-
  An argument that is a list of bools is opened.
-/
namespace Go.Proofs.YtemgoikghaiamaaDoor
open Go.ChangeShapes Go.WideShapes Go.ChangeAt Go.RowKit Go.Joins G
set_option linter.unusedVariables false
set_option maxRecDepth 100000

theorem cellsB : Tryd.prog.cellsOf 4 = 1 := by kernel_rfl
section
variable {H : Type} {enc : TypeId × Value → H}
theorem openB {W : World} {base : Nat} {t : TypeId} {v : Value} {d : DataW H} {p : List MemPlace} (ht : Tryd.prog.underlying t = some (.slice 4)) (ok : Value.okWide Tryd.prog W .any base t v)
    (h : DataW.Trod enc Tryd.prog W 0 (fun _ => true) true t v d p) : ∃ (A : Option Addr) (L ca : Nat) (l : List Bool), v = .slice A L ca ∧ l.length = L ∧ Brs W A ca l := by
  obtain ⟨a0, len, cap, rfl⟩ := okWide_slice ht ok
  obtain ⟨fuel, hf⟩ := h
  rcases Go.Deep.open_bools ht Tryd.underlying4 cellsB hf with ⟨hcs, hx⟩ | ⟨a, len', cap', B, hcs, _, hl, hm, hx, hcell⟩
  · simp [Value.cells] at hcs
    obtain ⟨rfl, rfl, rfl⟩ := hcs
    exact ⟨none, 0, 0, [], rfl, rfl, Brs.nil _ _ _ (by decide)⟩
  · simp [Value.cells] at hcs
    obtain ⟨rfl, rfl, rfl⟩ := hcs
    have hl' : ((List.range len).map B).length = len := by simp
    refine ⟨some a, len, cap, (List.range len).map B, rfl, hl', by rw [hl']; exact hl, hm, fun i hi => ?_⟩
    rw [hl'] at hi
    have c := hcell i (by omega)
    obtain ⟨b, off, spot⟩ := a
    have hspot : spot = none := by
      have c0 := World.cell?_spot (hcell 0 (by omega))
      simpa [Addr.add] using c0
    subst hspot
    refine ⟨b, off, rfl, ?_⟩
    rw [Addr.add_lit] at c
    rw [c]
    simp [List.getD_eq_getElem?_getD, List.getElem?_map, List.getElem?_range hi]
end
end Go.Proofs.YtemgoikghaiamaaDoor
/-
  The one package-level variable that these statements list: what the row's condition says of it, and that the program's own start-up leaves it so.
-/
namespace Go.Proofs.YtemgoikghaiamaaDoor
open Go.ChangeShapes Go.WideShapes Go.ChangeAt Go.RowKit Go.Joins G
set_option linter.unusedVariables false
set_option maxRecDepth 100000

/-- The list of the rows' condition. -/
def laidT : List (String × DataW Unit) := [("math/bits.deBruijn64tab", Rows.laid_math_bits_deBruijn64tab)]
theorem gTab : Tryd.prog.globalNamed "math/bits.deBruijn64tab" = some 0 := by kernel_rfl
theorem tTab : (Tryd.prog.globals[0]?).map (·.type) = some 106 := by kernel_rfl
theorem cTab : Tryd.prog.cellsOf 106 = 64 := by kernel_rfl
theorem c8 : Tryd.prog.cellsOf 5 = 1 := by kernel_rfl
theorem tab_is : laidT = [("math/bits.deBruijn64tab", Lib.tabData .u8 (Lib.deBruijn64tab.map Int.ofNat))] := by kernel_rfl
theorem tab_of_laid {W : World} (h : laidMetH Tryd.prog laidT W) : Tab W := by
  rw [MakeChecks.laidMetH_plain _ _ _ (by kernel_rfl), tab_is] at h
  have T := Lib.tabIs_of_head (g := 0) gTab tTab Tryd.underlying106 Tryd.underlying5 c8 cTab h
  intro j hj
  have c := T.cell gTab j (by simpa [Lib.deBruijn64tab] using hj)
  rw [c]
  have : (Lib.deBruijn64tab.map Int.ofNat).getD j 0 = ((Lib.deBruijn64tab.getD j 0 : Nat) : Int) := by
    simp only [List.getD_eq_getElem?_getD, List.getElem?_map]
    cases Lib.deBruijn64tab[j]? <;> rfl
  rw [this]
/-- The program's own start-up meets the condition. -/
theorem door_met (os : Os) (args : Array Value) : laidMetH Tryd.prog laidT ((World.doorLaid Tryd.prog 400 os).forCall (fun _ _ => 0) ⟨#[], args, []⟩).memory :=
  laidMetH_of_parts3 (fuel := 8) (laidMet_of_run' 8 (by kernel_rfl) (by kernel_rfl)) (by kernel_rfl) (by kernel_rfl)
end Go.Proofs.YtemgoikghaiamaaDoor
/-
  What the closures turn and put of package massey's call least do: two caught polynomials, the rule and the last one that failed.
-/
namespace Go.Proofs.YtemgoikghaiamaaDoor
open Go.RowKit G
set_option linter.unusedVariables false


theorem Box.set_m {w : World} {b : Nat} {t : TypeId} {v : Value} (h : Box w b t v) (u : Value) : Box (w.setCell ⟨b, 0, none⟩ u) b t u := by
  unfold Box at *
  simp [World.setCell, Array.getElem?_modify, h]
theorem Pol.setBoxm {w : World} {A : Option Addr} {cap b : Nat} {t : TypeId} {xs : List Nat} {S : Option Addr} {n c : Nat} (h : Pol w A cap xs) (hb : Box w b t (.slice S n c)) (u : Value) : Pol (w.setCell ⟨b, 0, none⟩ u) A cap xs :=
  ⟨h.word, h.cap1, h.cap2, fun i hi => by
    obtain ⟨g, o, e, hc⟩ := h.cell i hi
    refine ⟨g, o, e, (World.cell?_of_block (w := w) (Below.heap_setCell w ⟨b, 0, none⟩ u g ?_)).trans hc⟩
    rintro rfl
    unfold Box at hb
    simp only [World.cell?, hb] at hc
    cases z : o + i with
    | zero => rw [z] at hc; simp at hc
    | succ k => rw [z] at hc; simp at hc⟩
/-- The two rows that are gone through. -/
structure GcSm (base Ab Bb : Nat) (A B : Option Addr) (La ca Lb cb : Nat) (xs ys : List Nat) (w : World) : Prop where
  bA : Box w Ab 28 (.slice A La ca)
  bB : Box w Bb 28 (.slice B Lb cb)
  pa : Pol w A ca xs
  pb : Pol w B cb ys
  la : xs.length = La
  lb : ys.length = Lb
  ne : Ab ≠ Bb
  ba : base ≤ Ab
  bb : base ≤ Bb
theorem GcSm.below {base Ab Bb : Nat} {A B : Option Addr} {La ca Lb cb : Nat} {xs ys : List Nat} {w w' : World} (S : GcSm base Ab Bb A B La ca Lb cb xs ys w) (hb : Below w.heap.size w w') : GcSm base Ab Bb A B La ca Lb cb xs ys w' :=
  ⟨S.bA.below hb, S.bB.below hb, S.pa.below hb, S.pb.below hb, S.la, S.lb, S.ne, S.ba, S.bb⟩
/-- Both rows turn. -/
theorem GcSm.turn {base Ab Bb : Nat} {A B C : Option Addr} {La ca Lb cb Lc cc : Nat} {xs ys zs : List Nat} {w : World} (S : GcSm base Ab Bb A B La ca Lb cb xs ys w) (P : Pol w C cc zs) (lc : zs.length = Lc) :
    GcSm base Ab Bb B C Lb cb Lc cc ys zs ((w.setCell ⟨Ab, 0, none⟩ (.slice B Lb cb)).setCell ⟨Bb, 0, none⟩ (.slice C Lc cc)) := by
  have b1 := S.bA.set_m (.slice B Lb cb)
  have b2 := S.bB.far (p := ⟨Ab, 0, none⟩) (fun e => S.ne e.symm) (.slice B Lb cb)
  exact ⟨b1.far (p := ⟨Bb, 0, none⟩) S.ne _, b2.set_m _, (S.pb.setBoxm S.bA _).setBoxm b2 _, (P.setBoxm S.bA _).setBoxm b2 _, S.lb, lc, S.ne, S.ba, S.bb⟩

theorem Box.ne_m {w : World} {a b : Nat} {t t' : TypeId} {u v : Value} (h : Box w a t u) (k : Box w b t' v) (hne : t ≠ t') : a ≠ b := by
  rintro rfl
  unfold Box at h k
  rw [h] at k
  simp only [Option.some.injEq, Obj.cells.injEq] at k
  exact hne k.2.1


/-- Nothing of what was there has turned but two blocks. -/
structure But2m (x y : Nat) (w w' : World) : Prop where
  os : w'.os = w.os
  tape : w'.tape = w.tape
  output : w'.output = w.output
  size : w.heap.size ≤ w'.heap.size
  block : ∀ k, k < w.heap.size → k ≠ x → k ≠ y → w'.heap[k]? = w.heap[k]?
theorem But2m.of_below {x y : Nat} {w w' : World} (h : Below w.heap.size w w') : But2m x y w w' := ⟨h.os, h.tape, h.output, h.size, fun k hk _ _ => h.block k hk⟩
theorem But2m.set1 {x y : Nat} {a w : World} (h : But2m x y a w) (u : Value) : But2m x y a (w.setCell ⟨x, 0, none⟩ u) :=
  ⟨h.os, h.tape, h.output, by simpa [World.setCell] using h.size, fun k hk h1 h2 => (Below.heap_setCell w ⟨x, 0, none⟩ u k h1).trans (h.block k hk h1 h2)⟩
theorem But2m.set2 {x y : Nat} {a w : World} (h : But2m x y a w) (u : Value) : But2m x y a (w.setCell ⟨y, 0, none⟩ u) :=
  ⟨h.os, h.tape, h.output, by simpa [World.setCell] using h.size, fun k hk h1 h2 => (Below.heap_setCell w ⟨y, 0, none⟩ u k h2).trans (h.block k hk h1 h2)⟩
theorem But2m.drew {x y : Nat} {a w : World} (h : But2m x y a w) : But2m x y a w.drew := ⟨h.os, h.tape, h.output, h.size, h.block⟩
theorem But2m.low {x y B : Nat} {w w' : World} (h : But2m x y w w') (hx : B ≤ x) (hy : B ≤ y) (hB : B ≤ w.heap.size) : Below B w w' :=
  ⟨h.os, h.tape, h.output, h.size, fun k hk => h.block k (by omega) (by omega) (by omega)⟩
theorem Box.but2m {x y b : Nat} {t : TypeId} {v : Value} {w w' : World} (h : Box w b t v) (hb : But2m x y w w') (h1 : b ≠ x) (h2 : b ≠ y) : Box w' b t v := (hb.block b h.lt h1 h2).trans h
theorem Pol.block_nem {w : World} {A S : Option Addr} {cap b n c : Nat} {t : TypeId} {xs : List Nat} (h : Pol w A cap xs) (hb : Box w b t (.slice S n c)) {i g o : Nat} (hi : i < xs.length) (e : A = some ⟨g, o, none⟩) : g ≠ b := by
  obtain ⟨g', o', e', hc⟩ := h.cell i hi
  rw [e] at e'
  simp only [Option.some.injEq, Addr.mk.injEq, and_true] at e'
  obtain ⟨rfl, rfl⟩ := e'
  rintro rfl
  unfold Box at hb
  simp only [World.cell?, hb] at hc
  cases z : o + i with
  | zero => rw [z] at hc; simp at hc
  | succ k => rw [z] at hc; simp at hc
theorem Pol.but2m {w w' : World} {A S T : Option Addr} {cap x y n c n' c' : Nat} {t t' : TypeId} {xs : List Nat} (h : Pol w A cap xs) (hb : But2m x y w w') (hx : Box w x t (.slice S n c)) (hy : Box w y t' (.slice T n' c')) : Pol w' A cap xs :=
  ⟨h.word, h.cap1, h.cap2, fun i hi => by
    obtain ⟨g, o, e, hc⟩ := h.cell i hi
    exact ⟨g, o, e, (World.cell?_of_block (w := w) (hb.block g (World.block_lt_of_cell? w _ hc) (h.block_nem hx hi e) (h.block_nem hy hi e))).trans hc⟩⟩
theorem GcSm.but2m {base Ab Bb x y : Nat} {A B S T : Option Addr} {La ca Lb cb n c n' c' : Nat} {t t' : TypeId} {xs ys : List Nat} {w w' : World} (G : GcSm base Ab Bb A B La ca Lb cb xs ys w) (hb : But2m x y w w') (hx : Box w x t (.slice S n c)) (hy : Box w y t' (.slice T n' c')) (h1 : x < base) (h2 : y < base) :
    GcSm base Ab Bb A B La ca Lb cb xs ys w' := by
  have := G.ba; have := G.bb
  exact ⟨G.bA.but2m hb (by omega) (by omega), G.bB.but2m hb (by omega) (by omega), G.pa.but2m hb hx hy, G.pb.but2m hb hx hy, G.la, G.lb, G.ne, G.ba, G.bb⟩


/-- The rule turns, and then what failed is the old rule. -/
theorem GcSm.turn2 {base Ab Bb : Nat} {A B C : Option Addr} {La ca Lb cb Lc cc : Nat} {xs ys zs : List Nat} {w : World} (S : GcSm base Ab Bb A B La ca Lb cb xs ys w) (P : Pol w C cc zs) (lc : zs.length = Lc) :
    GcSm base Ab Bb B C Lb cb Lc cc ys zs ((w.setCell ⟨Bb, 0, none⟩ (.slice C Lc cc)).setCell ⟨Ab, 0, none⟩ (.slice B Lb cb)) := by
  have b1 := S.bB.set_m (.slice C Lc cc)
  have b2 := S.bA.far (p := ⟨Bb, 0, none⟩) S.ne (.slice C Lc cc)
  exact ⟨b2.set_m _, b1.far (p := ⟨Ab, 0, none⟩) (fun e => S.ne e.symm) _, (S.pb.setBoxm S.bB _).setBoxm b2 _, (P.setBoxm S.bB _).setBoxm b2 _, S.lb, lc, S.ne, S.ba, S.bb⟩
/-- The rule alone turns. -/
theorem GcSm.put1 {base Ab Bb : Nat} {A B C : Option Addr} {La ca Lb cb Lc cc : Nat} {xs ys zs : List Nat} {w : World} (S : GcSm base Ab Bb A B La ca Lb cb xs ys w) (P : Pol w C cc zs) (lc : zs.length = Lc) :
    GcSm base Ab Bb A C La ca Lc cc xs zs (w.setCell ⟨Bb, 0, none⟩ (.slice C Lc cc)) :=
  ⟨S.bA.far (p := ⟨Bb, 0, none⟩) S.ne _, S.bB.set_m _, S.pa.setBoxm S.bB _, P.setBoxm S.bB _, S.la, lc, S.ne, S.ba, S.bb⟩
/-- What the closures leave. -/
def TurnM (base Fb Rb : Nat) (B : Option Addr) (Lb cb : Nat) (ys : List Nat) (Z : Nat) (w : World) (e : Ending) (w' : World) : Prop :=
  e = .returned (.tuple #[]) ∧ ∃ (C : Option Addr) (cc : Nat), GcSm base Fb Rb B C Lb cb (wordsOf Z).length cc ys (wordsOf Z) w' ∧ But2m Fb Rb w w'
set_option maxRecDepth 100000 in
set_option maxHeartbeats 4000000 in
theorem turnWalk (base Fb Rb Z Q u : Nat) (A B : Option Addr) (La ca Lb cb : Nat) (xs ys : List Nat) (w : World) (S : Hid (GcSm base Fb Rb A B La ca Lb cb xs ys w)) (bLa : La ≤ 50000) (bLb : Lb ≤ 50000) (bu : u ≤ 2048)
    (hQ : Hid (leN ys * 2 ^ u = Q)) (lQ : Hid ((wordsOf Q).length ≤ 50000)) (hZ : Hid (Q ^^^ leN xs = Z)) :
    Calls Tryd.prog 65 #[.int .i64 (u : Int), .pointer (some ⟨Rb, 0, none⟩), .pointer (some ⟨Fb, 0, none⟩)] w (TurnM base Fb Rb B Lb cb ys Z w) := by
  have e1 := S.out.bA.cell
  have e2 := S.out.bB.cell
  have f1 := S.out.bA.free
  have f2 := S.out.bB.free
  have ne := S.out.ne
  have hX : Below w.heap.size w w := Below.refl _ _
  go_enter Tryd.func65, Tryd.ntmps65
  go_wp2_with fail
  go_region_with
    (first
    | (go_at_call 46; ((with_reducible refine (gUp u Q (S.out.pb.below hX.drew) S.out.lb hQ.out bLb bu).mono ?_); rintro e x ⟨A1, c1, rfl, PA1, hb⟩; replace hX := below_then hX.drew hb; clear hb; have F1 := (S.out.bA.below hX).free; have F2 := (S.out.bB.below hX).free; have E1 := (S.out.bA.below hX).cell; have E2 := (S.out.bB.below hX).cell))
    | (go_at_call 27; ((with_reducible refine (gAdd Z PA1 (S.out.pa.below hX) rfl S.out.la (by rw [leN_wordsOf]; exact hZ.out) lQ.out bLa).mono ?_); rintro e x ⟨A2, c2, rfl, PA2, hb⟩; replace hX := below_then hX hb; clear hb; have F3 := (S.out.bA.below hX).free; have F4 := (S.out.bB.below hX).free; have E3 := (S.out.bA.below hX).cell; have E4 := (S.out.bB.below hX).cell)))
  all_goals
    go_end0
    exact ⟨rfl, A2, c2, (S.out.below hX).turn2 PA2 rfl, ((But2m.of_below hX).set2 _).set1 _⟩
def PutP (base Fb Rb : Nat) (A : Option Addr) (La ca : Nat) (xs : List Nat) (Z : Nat) (w : World) (e : Ending) (w' : World) : Prop :=
  e = .returned (.tuple #[]) ∧ ∃ (C : Option Addr) (cc : Nat), GcSm base Fb Rb A C La ca (wordsOf Z).length cc xs (wordsOf Z) w' ∧ But2m Fb Rb w w'
set_option maxRecDepth 100000 in
set_option maxHeartbeats 4000000 in
theorem putWalk (base Fb Rb Z Q u : Nat) (A B : Option Addr) (La ca Lb cb : Nat) (xs ys : List Nat) (w : World) (S : Hid (GcSm base Fb Rb A B La ca Lb cb xs ys w)) (bLa : La ≤ 50000) (bLb : Lb ≤ 50000) (bu : u ≤ 2048)
    (hQ : Hid (leN xs * 2 ^ u = Q)) (lQ : Hid ((wordsOf Q).length ≤ 50000)) (hZ : Hid (leN ys ^^^ Q = Z)) :
    Calls Tryd.prog 66 #[.int .i64 (u : Int), .pointer (some ⟨Rb, 0, none⟩), .pointer (some ⟨Fb, 0, none⟩)] w (PutP base Fb Rb A La ca xs Z w) := by
  have e1 := S.out.bA.cell
  have e2 := S.out.bB.cell
  have f1 := S.out.bA.free
  have f2 := S.out.bB.free
  have ne := S.out.ne
  have hX : Below w.heap.size w w := Below.refl _ _
  go_enter Tryd.func66, Tryd.ntmps66
  go_wp2_with fail
  go_region_with
    (first
    | (go_at_call 46; ((with_reducible refine (gUp u Q (S.out.pa.below hX.drew) S.out.la hQ.out bLa bu).mono ?_); rintro e x ⟨A1, c1, rfl, PA1, hb⟩; replace hX := below_then hX.drew hb; clear hb; have F1 := (S.out.bA.below hX).free; have F2 := (S.out.bB.below hX).free; have E1 := (S.out.bA.below hX).cell; have E2 := (S.out.bB.below hX).cell))
    | (go_at_call 27; ((with_reducible refine (gAdd Z (S.out.pb.below hX) PA1 S.out.lb rfl (by rw [leN_wordsOf]; exact hZ.out) bLb lQ.out).mono ?_); rintro e x ⟨A2, c2, rfl, PA2, hb⟩; replace hX := below_then hX hb; clear hb; have F3 := (S.out.bA.below hX).free; have F4 := (S.out.bB.below hX).free; have E3 := (S.out.bA.below hX).cell; have E4 := (S.out.bB.below hX).cell)))
  all_goals
    go_end0
    exact ⟨rfl, A2, c2, (S.out.below hX).put1 PA2 rfl, (But2m.of_below hX).set2 _⟩
end Go.Proofs.YtemgoikghaiamaaDoor
/-
  What the calls least, Length and Least of package massey answer: Berlekamp and Massey's least rule.
-/
namespace Go.Proofs.YtemgoikghaiamaaDoor
open Go.RowKit G
set_option linter.unusedVariables false

/-- The way to the least rule: the rule behind n bits, and the last one that failed. -/
def bm (s : Nat → Bool) : Nat → Nat × Nat
  | 0 => (1, 0)
  | n + 1 => if od s (bm s n).1 (n + 1 - len (bm s n).1) then
      if 2 * len (bm s n).1 < n + 3 then ((bm s n).1 * 2 ^ (n + 3 - 2 * len (bm s n).1) ^^^ (bm s n).2, (bm s n).1)
      else ((bm s n).1 ^^^ (bm s n).2 * 2 ^ (2 * len (bm s n).1 - (n + 3)), (bm s n).2)
    else bm s n
theorem bm_ok (s : Nat → Bool) : ∀ n, Bm s n (bm s n).1 (bm s n).2 := by
  intro n
  induction n with
  | zero => exact Bm.start s
  | succ n ih =>
    by_cases h : od s (bm s n).1 (n + 1 - len (bm s n).1) = true
    · by_cases h2 : 2 * len (bm s n).1 < n + 3
      · rw [bm, if_pos h, if_pos h2]
        exact (ih.turn h (u := n + 3 - 2 * len (bm s n).1) (by omega) (by omega)).1
      · rw [bm, if_pos h, if_neg h2]
        exact (ih.put h (u := 2 * len (bm s n).1 - (n + 3)) (by omega)).1
    · rw [bm, if_neg h]
      exact ih.good (by simpa using h)
theorem bm_good {s : Nat → Bool} {n : Nat} (h : od s (bm s n).1 (n + 1 - len (bm s n).1) = false) : bm s (n + 1) = bm s n := by rw [bm, h]; rfl
theorem bm_turn {s : Nat → Bool} {n u : Nat} (h : od s (bm s n).1 (n + 1 - len (bm s n).1) = true) (hu : n + 3 = 2 * len (bm s n).1 + u) (h0 : 0 < u) : bm s (n + 1) = ((bm s n).1 * 2 ^ u ^^^ (bm s n).2, (bm s n).1) := by
  rw [bm, h, if_pos rfl, if_pos (by omega), show n + 3 - 2 * len (bm s n).1 = u from by omega]
theorem bm_put {s : Nat → Bool} {n u : Nat} (h : od s (bm s n).1 (n + 1 - len (bm s n).1) = true) (hu : n + 3 + u = 2 * len (bm s n).1) : bm s (n + 1) = ((bm s n).1 ^^^ (bm s n).2 * 2 ^ u, (bm s n).2) := by
  rw [bm, h, if_pos rfl, if_neg (by omega), show 2 * len (bm s n).1 - (n + 3) = u from by omega]
/-- The least rule. -/
def br (l : List Bool) : Nat := (bm (rw_ l) l.length).1
theorem br_ok (l : List Bool) : ∃ f, Bm (rw_ l) l.length (br l) f := ⟨_, bm_ok _ _⟩
theorem wlm {N k : Nat} (h : len N ≤ 64 * k) : (wordsOf N).length ≤ k := wl k (pow_up (len_lt N) h)
theorem gX1 (w : World) : Calls Tryd.prog 25 #[.int .i64 0] w (Ans 1 w) := cX 0 (by decide) w
theorem G.Bm.flen {s : Nat → Bool} {n r f : Nat} (B : Bm s n r f) : len f ≤ n + 1 := by
  by_cases hf : f = 0
  · subst hf; rw [len_zero]; omega
  · obtain ⟨k, a, b, c, d, e⟩ := B.fail hf; omega

theorem leastStart (w w1 : World) (hb : Below w.heap.size w w1) (A0 : Option Addr) (c0 : Nat) (P0 : Pol w1 A0 c0 (wordsOf 1)) :
    GcSm w.heap.size (w1.heap.size + 1) w1.heap.size none A0 (wordsOf 0).length 0 (wordsOf 1).length c0 (wordsOf 0) (wordsOf 1) ((w1.alloc (.cells #[.slice A0 (wordsOf 1).length c0] 28)).alloc (.cells #[.slice none 0 0] 28)) := by
  have h1 := box_new w1 28 (.slice A0 (wordsOf 1).length c0)
  have P1 := P0.below (below_allocs w1 (.cells #[.slice A0 (wordsOf 1).length c0] 28))
  generalize e1 : w1.alloc (.cells #[.slice A0 (wordsOf 1).length c0] 28) = w2 at h1 P1 ⊢
  have s1 : w2.heap.size = w1.heap.size + 1 := by rw [← e1]; simp
  have h2 := box_new w2 28 (.slice none 0 0)
  have b2 := below_allocs w2 (.cells #[.slice none 0 0] 28)
  rw [s1] at h2
  have z := hb.size
  exact ⟨by rw [wordsOf_zero]; exact h2, h1.below b2, by rw [wordsOf_zero]; exact Pol.nil _ _ _ (by decide), P1.below b2, rfl, rfl, by omega, by omega, z⟩
theorem leastBelow (w w1 : World) (hb : Below w.heap.size w w1) (v : Value) : Below w.heap.size w ((w1.alloc (.cells #[v] 28)).alloc (.cells #[.slice none 0 0] 28)) :=
  below_then hb (below_then (below_allocs w1 _) (below_allocs _ _))

set_option maxRecDepth 100000 in
set_option maxHeartbeats 8000000 in
theorem leastWalk (M cl : Nat) (Al : Option Addr) (l : List Bool) (hl : Hid (l.length = M)) (b2 : M ≤ 2048) (w : World) (R : Hid (Brs w Al cl l)) (T : Hid (Tab w)) :
    Calls Tryd.prog 57 #[.slice Al M cl] w (Ans (br l) w) := by
  go_enter Tryd.func57, Tryd.ntmps57
  go_wp2_with fail
  refine (gX1 _).mono ?_
  rintro e w1 ⟨A0, c0, rfl, P0, hb0⟩
  have e1 : (wordsOf 1).length = 1 := by rw [words1 1 (by decide) (by decide)]; rfl
  have ST := Lib.hid (leastStart w w1 hb0 A0 c0 P0)
  have BW := Lib.hid (leastBelow w w1 hb0 (.slice A0 (wordsOf 1).length c0))
  have hs := hb0.size
  clear P0 hb0 e1
  go_wp2_with fail
  generalize ((w1.alloc (.cells #[.slice A0 (wordsOf 1).length c0] 28)).alloc (.cells #[.slice none 0 0] 28)) = w2 at ST BW ⊢
  obtain ⟨Rb, hRb⟩ : ∃ Rb, Rb = w1.heap.size := ⟨_, rfl⟩
  rw [← hRb] at ST ⊢
  obtain ⟨Fb, hFb⟩ : ∃ Fb, Fb = Rb + 1 := ⟨_, rfl⟩
  rw [← hFb] at ST ⊢
  have hS : w.heap.size ≤ Rb := by omega
  clear hRb hs hFb
  go_loopg [15] M (fun g i wr => ∃ (n r f : Nat) (A B : Option Addr) (ca cb : Nat), n + g = M ∧ i = .int .i64 n ∧ Hid (bm (rw_ l) n = (r, f)) ∧ Hid (GcSm w.heap.size Fb Rb A B (wordsOf f).length ca (wordsOf r).length cb (wordsOf f) (wordsOf r) wr) ∧ Hid (Below w.heap.size w wr))
  case atStart => exact ⟨0, 1, 0, none, A0, 0, c0, by omega, rfl, Lib.hid rfl, ST, BW⟩
  case round =>
    clear ST BW
    obtain ⟨n, r, f, A, B, ca, cb, hn, rfl, hbm, S, HB⟩ := hrel
    by_cases hlt : n < M
    · have nl : (n : Int) < (M : Int) := by omega
      have K0 := bm_ok (rw_ l) n
      rw [hbm.out] at K0
      have K : Hid (Bm (rw_ l) n r f) := Lib.hid K0
      clear K0
      have lr := len_pos K.out.rule.1
      have lle := K.out.le
      have lf := K.out.flen
      have Wr := Lib.hid (show (wordsOf r).length ≤ 50000 from Nat.le_trans (wlm (k := 40) (by omega)) (by decide))
      have Wf := Lib.hid (show (wordsOf f).length ≤ 50000 from Nat.le_trans (wlm (k := 40) (by omega)) (by decide))
      have D := Lib.hid (gDeg ((len r - 1 : Nat) : Int) S.out.pb rfl (by rw [leN_wordsOf]; omega) Wr.out)
      obtain ⟨d, hd⟩ : ∃ d, d = len r - 1 := ⟨_, rfl⟩
      rw [← hd] at D
      have r1 := S.out.bB.cell
      obtain ⟨p, hp⟩ : ∃ p, p = n - d := ⟨_, rfl⟩
      have r2 : (n : Int) - (d : Int) = (p : Int) := by omega
      have dle : d ≤ n := by omega
      have HD := Lib.hid (show len r = d + 1 ∧ p = n - d ∧ p = n + 1 - len r ∧ p + len r = n + 1 from by omega)
      clear hd hp lr
      go_wp2_with fail
      refine D.out.mono ?_
      rintro e w' ⟨rfl, rfl⟩
      clear D
      have O := Lib.hid (gOddAt r M cl Al S.out.pb rfl (leN_wordsOf r) K.out.rule.1 Wr.out)
      generalize hr0 : od (rw_ l) r p = r0
      have R0 := Lib.hid hr0
      clear hr0
      cases r0
      · -- the rule holds
        go_wp2_with fail
        refine O.out.mono ?_
        rintro e w3 ⟨bK, bP, bL, rfl, OS, -, -, -, hb⟩
        have HB3 := HB.out.trans (hb.mono HB.out.size)
        have C := Lib.hid (gOdd r p false OS (S.out.pb.below hb) (R.out.below HB3) (T.out.below HB3) rfl (leN_wordsOf r) hl.out K.out.rule.1 Wr.out (by omega) (by have := HD.out; omega) R0.out)
        have S3 := Lib.hid (S.out.below hb)
        have HB4 := Lib.hid HB3
        clear hb HB3 OS O r1
        go_wp2_with fail
        refine C.out.mono ?_
        rintro e w' ⟨rfl, q, rfl⟩
        clear C
        go_wp2_with fail
        go_roundg (gk - 1)
        case measure => omega
        case rel => exact ⟨n + 1, r, f, A, B, ca, cb, by omega, by go_num, Lib.hid (by
          rw [bm_good, hbm.out]
          rw [hbm.out]
          show od (rw_ l) r (n + 1 - len r) = false
          rw [← HD.out.2.2.1]; exact R0.out), Lib.hid (S3.out.below (below_drewN q)), Lib.hid (below_drewN' HB4.out q)⟩
      · -- the rule fails
        have hodd : od (rw_ l) (bm (rw_ l) n).1 (n + 1 - len (bm (rw_ l) n).1) = true := by
          rw [hbm.out]
          show od (rw_ l) r (n + 1 - len r) = true
          rw [← HD.out.2.2.1]; exact R0.out
        have HO := Lib.hid hodd
        clear hodd
        by_cases hup : 2 * d < n + 1
        · obtain ⟨u, hu⟩ : ∃ u, u = n + 1 - 2 * d := ⟨_, rfl⟩
          have u1 : (n : Int) + 1 - 2 * (d : Int) = (u : Int) := by omega
          have u2 : (0 : Int) < (u : Int) := by omega
          have u3 : u ≤ 2048 := by omega
          have HU := Lib.hid (show n + 3 = 2 * len r + u ∧ 0 < u by have := HD.out; omega)
          clear hu hup
          have lQ := Lib.hid (show (wordsOf (r * 2 ^ u)).length ≤ 50000 from Nat.le_trans (wlm (k := 80) (by rw [len_mul_pow K.out.rule.1]; omega)) (by decide))
          have NB := Lib.hid (bm_turn HO.out (u := u) (by rw [hbm.out]; exact HU.out.1) HU.out.2)
          rw [hbm.out] at NB
          replace NB : Hid (bm (rw_ l) (n + 1) = (r * 2 ^ u ^^^ f, r)) := NB
          generalize hQ : r * 2 ^ u = Q at lQ NB
          generalize hZ : Q ^^^ f = Z at NB
          have HQ := Lib.hid hQ
          have HZ := Lib.hid hZ
          clear hQ hZ
          go_wp2_with fail
          refine O.out.mono ?_
          rintro e w3 ⟨bK, bP, bL, rfl, OS, -, -, -, hb⟩
          have HB3 := HB.out.trans (hb.mono HB.out.size)
          have C := Lib.hid (gOdd r p true OS (S.out.pb.below hb) (R.out.below HB3) (T.out.below HB3) rfl (leN_wordsOf r) hl.out K.out.rule.1 Wr.out (by omega) (by have := HD.out; omega) R0.out)
          have S3 := Lib.hid (S.out.below hb)
          have HB4 := Lib.hid HB3
          clear hb HB3 OS O r1
          go_wp2_with fail
          refine C.out.mono ?_
          rintro e w' ⟨rfl, q, rfl⟩
          clear C
          have TN := Lib.hid (turnWalk w.heap.size Fb Rb Z Q u A B _ ca _ cb (wordsOf f) (wordsOf r) (w3.drewN q) (Lib.hid (S3.out.below (below_drewN q))) Wf.out Wr.out u3 (Lib.hid (by rw [leN_wordsOf]; exact HQ.out)) lQ (Lib.hid (by rw [leN_wordsOf]; exact HZ.out)))
          go_wp2_with fail
          refine TN.out.mono ?_
          rintro e w4 ⟨rfl, C, cc, G, b2⟩
          have G4 := Lib.hid G
          have HB5 := Lib.hid ((below_drewN' HB4.out q).trans (b2.low S3.out.ba S3.out.bb (below_drewN' HB4.out q).size))
          clear G b2 TN
          go_wp2_with fail
          go_roundg (gk - 1)
          case measure => omega
          case rel => exact ⟨n + 1, Z, r, B, C, cb, cc, by omega, by go_num, NB, G4, HB5⟩
        · obtain ⟨u, hu⟩ : ∃ u, u = 2 * d - (n + 1) := ⟨_, rfl⟩
          have u1 : (n : Int) + 1 - 2 * (d : Int) = -(u : Int) := by omega
          have u2 : ¬ ((0 : Int) < -(u : Int)) := by omega
          have u3 : u ≤ 2048 := by omega
          have HU := Lib.hid (show n + 3 + u = 2 * len r by have := HD.out; omega)
          clear hu hup
          have lQ := Lib.hid (show (wordsOf (f * 2 ^ u)).length ≤ 50000 from by
            by_cases hf : f = 0
            · rw [hf, Nat.zero_mul, wordsOf_zero]; decide
            · exact Nat.le_trans (wlm (k := 80) (by rw [len_mul_pow hf]; omega)) (by decide))
          have NB := Lib.hid (bm_put HO.out (u := u) (by rw [hbm.out]; exact HU.out))
          rw [hbm.out] at NB
          replace NB : Hid (bm (rw_ l) (n + 1) = (r ^^^ f * 2 ^ u, f)) := NB
          generalize hQ : f * 2 ^ u = Q at lQ NB
          generalize hZ : r ^^^ Q = Z at NB
          have HQ := Lib.hid hQ
          have HZ := Lib.hid hZ
          clear hQ hZ
          go_wp2_with fail
          refine O.out.mono ?_
          rintro e w3 ⟨bK, bP, bL, rfl, OS, -, -, -, hb⟩
          have HB3 := HB.out.trans (hb.mono HB.out.size)
          have C := Lib.hid (gOdd r p true OS (S.out.pb.below hb) (R.out.below HB3) (T.out.below HB3) rfl (leN_wordsOf r) hl.out K.out.rule.1 Wr.out (by omega) (by have := HD.out; omega) R0.out)
          have S3 := Lib.hid (S.out.below hb)
          have HB4 := Lib.hid HB3
          clear hb HB3 OS O r1
          go_wp2_with fail
          refine C.out.mono ?_
          rintro e w' ⟨rfl, q, rfl⟩
          clear C
          have TN := Lib.hid (putWalk w.heap.size Fb Rb Z Q u A B _ ca _ cb (wordsOf f) (wordsOf r) (w3.drewN q) (Lib.hid (S3.out.below (below_drewN q))) Wf.out Wr.out u3 (Lib.hid (by rw [leN_wordsOf]; exact HQ.out)) lQ (Lib.hid (by rw [leN_wordsOf]; exact HZ.out)))
          go_wp2_with fail
          refine TN.out.mono ?_
          rintro e w4 ⟨rfl, C, cc, G, b2⟩
          have G4 := Lib.hid G
          have HB5 := Lib.hid ((below_drewN' HB4.out q).trans (b2.low S3.out.ba S3.out.bb (below_drewN' HB4.out q).size))
          clear G b2 TN
          go_wp2_with fail
          go_roundg (gk - 1)
          case measure => omega
          case rel => exact ⟨n + 1, Z, f, A, C, ca, cc, by omega, by go_num, NB, G4, HB5⟩
    · obtain rfl : n = M := by omega
      have nl : ¬ ((n : Int) < (n : Int)) := by omega
      have r1 := S.out.bB.cell
      have E := Lib.hid (show br l = r by unfold br; rw [hl.out, hbm.out])
      go_wp2_with fail
      go_ret
      exact ⟨B, cb, by rw [E.out]; rfl, by rw [E.out]; exact S.out.pb, HB.out⟩
end Go.Proofs.YtemgoikghaiamaaDoor
/-
  What the calls Length and Least of package massey answer.
-/
namespace Go.Proofs.YtemgoikghaiamaaDoor
open Go.RowKit G
set_option linter.unusedVariables false

theorem br_len (l : List Bool) : 0 < len (br l) ∧ len (br l) ≤ l.length + 1 := by
  obtain ⟨f, B⟩ := br_ok l
  exact ⟨len_pos B.rule.1, B.le⟩
theorem br_words {l : List Bool} {M : Nat} (hl : l.length = M) (h : M ≤ 2048) : (wordsOf (br l)).length ≤ 50000 := Nat.le_trans (wlm (k := 40) (by have := (br_len l).2; omega)) (by decide)
section
variable {Al : Option Addr} {M cl : Nat} {l : List Bool} {w : World}
theorem gLeast0 (R : Brs w Al cl l) (T : Tab w) (hl : l.length = M) (h : M ≤ 2048) : Calls Tryd.prog 57 #[.slice Al M cl] w (Ans (br l) w) :=
  leastWalk M cl Al l (Lib.hid hl) h w (Lib.hid R) (Lib.hid T)
/-- An answer that is this number. -/
def Nm (n : Int) (w : World) (e : Ending) (w' : World) : Prop := e = .returned (.int .i64 n) ∧ Below w.heap.size w w'
/-- An answer that is a polynomial in its own form, and true. -/
def AnsY (N : Nat) (w : World) (e : Ending) (w' : World) : Prop :=
  ∃ (A : Option Addr) (cap : Nat), e = .returned (.tuple #[.slice A (wordsOf N).length cap, .bool true]) ∧ Pol w' A cap (wordsOf N) ∧ Below w.heap.size w w'
/-- An answer that is nil, and false. -/
def AnsN (w : World) (e : Ending) (w' : World) : Prop := e = .returned (.tuple #[.slice none 0 0, .bool false]) ∧ Below w.heap.size w w'
set_option maxHeartbeats 1000000 in
theorem gLeastYes (N : Nat) (R : Brs w Al cl l) (T : Tab w) (hl : l.length = M) (h : M ≤ 2048) (hN : br l = N) (h2 : 2 * len N ≤ M + 2) : Calls Tryd.prog 42 #[.slice Al M cl] w (AnsY N w) := by
  have O := Lib.hid (gLeast0 R T hl h)
  have HW := br_words hl h
  have hp := (br_len l).1
  rw [hN] at O HW hp
  obtain ⟨d, hd⟩ : ∃ d, len N = d + 1 := ⟨len N - 1, by omega⟩
  have HD := Lib.hid hd
  have h4 : 2 * (d : Int) ≤ (M : Int) := by omega
  have h5 : ¬ ((M : Int) < 2 * (d : Int)) := by omega
  clear R T hl hd hp h2 hN
  have h3 : ¬ ((2048 : Int) < (M : Int)) := by omega
  go_enter Tryd.func42, Tryd.ntmps42
  go_wp2_with fail
  refine O.out.mono ?_
  rintro e w1 ⟨A, c, rfl, P, hb⟩
  have D := Lib.hid (gDeg (d : Int) P rfl (by rw [leN_wordsOf, HD.out]; omega) HW)
  have HB := Lib.hid hb
  have HP := Lib.hid P
  clear P hb O
  go_wp2_with fail
  refine D.out.mono ?_
  rintro e w' ⟨rfl, rfl⟩
  clear D
  go_wp2_with fail
  go_ret2
  exact ⟨A, c, rfl, HP.out, HB.out⟩
set_option maxHeartbeats 1000000 in
theorem gLeastNo (R : Brs w Al cl l) (T : Tab w) (hl : l.length = M) (h : M ≤ 2048) (h2 : M + 2 < 2 * len (br l)) : Calls Tryd.prog 42 #[.slice Al M cl] w (AnsN w) := by
  have O := Lib.hid (gLeast0 R T hl h)
  have HW := br_words hl h
  have hp := br_len l
  rw [hl] at hp
  generalize br l = N at O HW hp h2
  obtain ⟨d, hd⟩ : ∃ d, len N = d + 1 := ⟨len N - 1, by omega⟩
  have HD := Lib.hid hd
  have h5 : (M : Int) < 2 * (d : Int) := by omega
  have h6 : d ≤ 4096 := by omega
  clear R T hl hd hp h2
  have h3 : ¬ ((2048 : Int) < (M : Int)) := by omega
  go_enter Tryd.func42, Tryd.ntmps42
  go_wp2_with fail
  refine O.out.mono ?_
  rintro e w1 ⟨A, c, rfl, P, hb⟩
  have D := Lib.hid (gDeg (d : Int) P rfl (by rw [leN_wordsOf, HD.out]; omega) HW)
  have HB := Lib.hid hb
  clear P hb O
  go_wp2_with fail
  refine D.out.mono ?_
  rintro e w' ⟨rfl, rfl⟩
  clear D
  go_wp2_with fail
  go_ret2
  exact ⟨rfl, HB.out⟩
end
end Go.Proofs.YtemgoikghaiamaaDoor
