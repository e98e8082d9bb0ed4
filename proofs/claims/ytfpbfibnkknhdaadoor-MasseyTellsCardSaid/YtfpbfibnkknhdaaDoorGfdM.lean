/-
  Quotients, rests, greatest parts and inverses of polynomials over the field of two, as numbers of bits. Plain mathematics; nothing of the program.
-/
import Derived.Test.YtfpbfibnkknhdaaDoorGfpM
namespace Go.Proofs.YtfpbfibnkknhdaaDoor.G
set_option linter.unusedVariables false
theorem xor_self_eq {a b : Nat} (h : a ^^^ b = 0) : a = b := by
  have := xor_cancel a b
  rw [h, Nat.zero_xor] at this
  exact this.symm
theorem len_zero_of {a : Nat} (h : len a = 0) : a = 0 := by
  by_cases e : a = 0
  · exact e
  · have := len_pos e; omega
theorem len_one : len 1 = 1 := rfl
theorem one_of_len {a : Nat} (h : len a = 1) : a = 1 := by
  have h0 : a ≠ 0 := by intro e; subst e; rw [len_zero] at h; omega
  have b := len_lt a
  rw [h] at b
  omega
/-- Two of the same degree have a sum of a lesser one. -/
theorem len_xor_top {a b : Nat} (h : len a = len b) (h0 : a ≠ 0) : len (a ^^^ b) < len a := by
  have hb : b ≠ 0 := by intro e; subst e; rw [len_zero] at h; exact h0 (len_zero_of h)
  have up := len_xor_le a b (len a) (Nat.le_refl _) (Nat.le_of_eq h.symm)
  rcases Nat.lt_or_ge (len (a ^^^ b)) (len a) with q | q
  · exact q
  · exfalso
    have e : len (a ^^^ b) = len a := by omega
    have p := len_pos h0
    have n0 : a ^^^ b ≠ 0 := by intro z; rw [z, len_zero] at e; omega
    have t := len_bit n0
    rw [e, Nat.testBit_xor, len_bit h0] at t
    have := len_bit hb
    rw [← h] at this
    rw [this] at t
    cases t
theorem len_xor_lt2 {a b k : Nat} (ha : len a < k) (hb : len b < k) : len (a ^^^ b) < k := by
  have := len_xor_le a b (k - 1) (by omega) (by omega)
  omega
/-- Quotient and rest are the only ones. -/
theorem dm_unique {b q r q' r' : Nat} (hb : b ≠ 0) (h : clm q b ^^^ r = clm q' b ^^^ r') (hr : len r < len b) (hr' : len r' < len b) : q = q' ∧ r = r' := by
  have e : clm (q ^^^ q') b = r ^^^ r' := by
    rw [clm_xor_left]
    have : (clm q b ^^^ r) ^^^ (clm q' b ^^^ r) = (clm q' b ^^^ r') ^^^ (clm q' b ^^^ r) := by rw [h]
    rw [xor4, Nat.xor_self, Nat.xor_zero] at this
    rw [this, xor4, Nat.xor_self, Nat.zero_xor, Nat.xor_comm]
  have l := len_xor_lt2 hr hr'
  by_cases z : q ^^^ q' = 0
  · have := xor_self_eq z
    subst this
    rw [Nat.xor_self, clm_zero_left] at e
    exact ⟨rfl, xor_self_eq e.symm⟩
  · obtain ⟨_, d⟩ := len_clm z hb
    have p := len_pos z
    rw [e] at d
    omega
/-- Quotient and rest, in so many steps. -/
def dm (b : Nat) : Nat → Nat → Nat × Nat
  | 0, a => (0, a)
  | n + 1, a => if len a < len b then (0, a) else ((dm b n (a ^^^ b * 2 ^ (len a - len b))).1 ^^^ 2 ^ (len a - len b), (dm b n (a ^^^ b * 2 ^ (len a - len b))).2)
theorem dm_spec (b : Nat) (hb : b ≠ 0) : ∀ n a, len a ≤ n → clm (dm b n a).1 b ^^^ (dm b n a).2 = a ∧ len (dm b n a).2 < len b := by
  have p := len_pos hb
  intro n
  induction n with
  | zero => intro a h; simp only [dm]; rw [clm_zero_left, Nat.zero_xor]; exact ⟨rfl, by omega⟩
  | succ n ih =>
    intro a h
    unfold dm
    by_cases c : len a < len b
    · rw [if_pos c]; simp only; rw [clm_zero_left, Nat.zero_xor]; exact ⟨rfl, c⟩
    · rw [if_neg c]
      simp only
      have ha : a ≠ 0 := by intro e; subst e; rw [len_zero] at c; omega
      have l1 := len_mul_pow hb (len a - len b)
      have l2 := len_xor_top (a := a) (b := b * 2 ^ (len a - len b)) (by omega) ha
      obtain ⟨i1, i2⟩ := ih (a ^^^ b * 2 ^ (len a - len b)) (by omega)
      refine ⟨?_, i2⟩
      rw [clm_xor_left, clm_comm (2 ^ _), clm_pow, Nat.xor_assoc, Nat.xor_comm (b * _), ← Nat.xor_assoc, i1, xor_cancel]
/-- The quotient; the rest. -/
def qt (a b : Nat) : Nat := (dm b (len a) a).1
def rt (a b : Nat) : Nat := (dm b (len a) a).2
theorem qr {a b : Nat} (hb : b ≠ 0) : clm (qt a b) b ^^^ rt a b = a := (dm_spec b hb _ a (Nat.le_refl _)).1
theorem rt_lt {a b : Nat} (hb : b ≠ 0) : len (rt a b) < len b := (dm_spec b hb _ a (Nat.le_refl _)).2
theorem qr_of {a b q r : Nat} (hb : b ≠ 0) (h : clm q b ^^^ r = a) (hr : len r < len b) : qt a b = q ∧ rt a b = r :=
  dm_unique hb (by rw [qr hb, h]) (rt_lt hb) hr
theorem rt_of {a b : Nat} (q : Nat) {r : Nat} (hb : b ≠ 0) (h : clm q b ^^^ r = a) (hr : len r < len b) : rt a b = r := (qr_of hb h hr).2
theorem rt_small {a b : Nat} (h : len a < len b) : rt a b = a := by
  have hb : b ≠ 0 := by intro e; subst e; rw [len_zero] at h; omega
  exact rt_of 0 hb (by rw [clm_zero_left, Nat.zero_xor]) h
theorem rt_zero_left (b : Nat) : rt 0 b = 0 := rfl
theorem rt_one (a : Nat) : rt a 1 = 0 := by
  have := rt_lt (a := a) (b := 1) (by decide)
  rw [len_one] at this
  exact len_zero_of (by omega)
theorem rt_clm_add {b : Nat} (q r : Nat) (hb : b ≠ 0) : rt (clm q b ^^^ r) b = rt r b := by
  refine rt_of (q ^^^ qt r b) hb ?_ (rt_lt hb)
  rw [clm_xor_left, Nat.xor_assoc, qr hb]
theorem rt_mul {b : Nat} (q : Nat) (hb : b ≠ 0) : rt (clm q b) b = 0 := by
  have := rt_clm_add q 0 hb
  rwa [Nat.xor_zero, rt_zero_left] at this
theorem rt_mul_left {b : Nat} (q : Nat) (hb : b ≠ 0) : rt (clm b q) b = 0 := by rw [clm_comm]; exact rt_mul q hb
theorem rt_xor {a c b : Nat} (hb : b ≠ 0) : rt (a ^^^ c) b = rt a b ^^^ rt c b := by
  refine rt_of (qt a b ^^^ qt c b) hb ?_ (len_xor_lt2 (rt_lt hb) (rt_lt hb))
  rw [clm_xor_left, xor4, qr hb, qr hb]
theorem rt_rt {a b : Nat} (hb : b ≠ 0) : rt (rt a b) b = rt a b := rt_small (rt_lt hb)
theorem rt_clm_left {a c b : Nat} (hb : b ≠ 0) : rt (clm (rt a b) c) b = rt (clm a c) b := by
  have e : clm a c = clm (clm (qt a b) c) b ^^^ clm (rt a b) c := by
    rw [clm_assoc, clm_comm c b, ← clm_assoc, ← clm_xor_left, qr hb]
  rw [e, rt_clm_add _ _ hb]
theorem rt_clm {a c b : Nat} (hb : b ≠ 0) : rt (clm (rt a b) (rt c b)) b = rt (clm a c) b := by
  rw [rt_clm_left hb, clm_comm, rt_clm_left hb, clm_comm]
theorem rt_eq_iff {a c b : Nat} (hb : b ≠ 0) : rt a b = rt c b ↔ rt (a ^^^ c) b = 0 := by
  rw [rt_xor hb]
  exact ⟨fun h => by rw [h, Nat.xor_self], fun h => xor_self_eq h⟩
theorem qt_len {a b : Nat} (hb : b ≠ 0) (h : len b ≤ len a) : len (qt a b) + len b = len a + 1 := by
  have e := qr (a := a) hb
  have l := rt_lt (a := a) hb
  have p := len_pos hb
  have hq : qt a b ≠ 0 := by
    intro z
    rw [z, clm_zero_left, Nat.zero_xor] at e
    rw [e] at l
    omega
  obtain ⟨_, d⟩ := len_clm hq hb
  have pq := len_pos hq
  have := len_xor_lt (a := clm (qt a b) b) (b := rt a b) (by omega)
  rw [e] at this
  omega
/-- b parts a. -/
def Dv (b a : Nat) : Prop := ∃ q, clm q b = a
theorem dv_rt {a b : Nat} (hb : b ≠ 0) : Dv b a ↔ rt a b = 0 := by
  constructor
  · rintro ⟨q, rfl⟩; exact rt_mul q hb
  · intro h
    have := qr (a := a) hb
    rw [h, Nat.xor_zero] at this
    exact ⟨_, this⟩
theorem dv_zero (b : Nat) : Dv b 0 := ⟨0, clm_zero_left b⟩
theorem dv_self (b : Nat) : Dv b b := ⟨1, clm_one_left b⟩
theorem dv_one (a : Nat) : Dv 1 a := ⟨a, clm_one a⟩
theorem dv_xor {b a c : Nat} (h : Dv b a) (k : Dv b c) : Dv b (a ^^^ c) := by
  obtain ⟨q, rfl⟩ := h; obtain ⟨r, rfl⟩ := k
  exact ⟨q ^^^ r, clm_xor_left _ _ _⟩
theorem dv_mul {b a : Nat} (c : Nat) (h : Dv b a) : Dv b (clm c a) := by
  obtain ⟨q, rfl⟩ := h
  exact ⟨clm c q, clm_assoc _ _ _⟩
theorem dv_mul_right {b a : Nat} (c : Nat) (h : Dv b a) : Dv b (clm a c) := by rw [clm_comm]; exact dv_mul c h
theorem dv_trans {a b c : Nat} (h : Dv a b) (k : Dv b c) : Dv a c := by
  obtain ⟨q, rfl⟩ := k
  exact dv_mul q h
theorem dv_len {a b : Nat} (h : Dv b a) (ha : a ≠ 0) : len b ≤ len a := by
  obtain ⟨q, rfl⟩ := h
  have hq : q ≠ 0 := by intro e; subst e; exact ha (clm_zero_left _)
  have hb : b ≠ 0 := by intro e; subst e; exact ha (clm_zero _)
  obtain ⟨_, d⟩ := len_clm hq hb
  have := len_pos hq
  omega
theorem dv_of_zero {a : Nat} (h : Dv 0 a) : a = 0 := by obtain ⟨q, rfl⟩ := h; exact clm_zero _
theorem dv_antisymm {a b : Nat} (h : Dv a b) (k : Dv b a) : a = b := by
  by_cases ha : a = 0
  · subst ha; exact (dv_of_zero h).symm
  by_cases hb : b = 0
  · subst hb; exact dv_of_zero k
  have l1 := dv_len h hb
  have l2 := dv_len k ha
  obtain ⟨q, e⟩ := h
  have hq : q ≠ 0 := by intro z; rw [z, clm_zero_left] at e; exact hb e.symm
  obtain ⟨_, d⟩ := len_clm hq ha
  rw [e] at d
  rw [one_of_len (show len q = 1 by omega), clm_one_left] at e
  exact e
theorem clm_ne {a b : Nat} (ha : a ≠ 0) (hb : b ≠ 0) : clm a b ≠ 0 := (len_clm ha hb).1
theorem clm_cancel {a b c : Nat} (hc : c ≠ 0) (h : clm a c = clm b c) : a = b := by
  by_cases z : a ^^^ b = 0
  · exact xor_self_eq z
  · exfalso
    apply clm_ne z hc
    rw [clm_xor_left, h, Nat.xor_self]
theorem clm_zero_iff {a b : Nat} (h : clm a b = 0) : a = 0 ∨ b = 0 := by
  by_cases ha : a = 0
  · exact .inl ha
  · by_cases hb : b = 0
    · exact .inr hb
    · exact absurd h (clm_ne ha hb)
/-- The greatest part. -/
def gc (a b : Nat) : Nat := if h : b = 0 then a else gc b (rt a b)
  termination_by len b
  decreasing_by exact rt_lt h
theorem gc_zero (a : Nat) : gc a 0 = a := by unfold gc; simp
theorem gc_step {a b : Nat} (h : b ≠ 0) : gc a b = gc b (rt a b) := by rw [gc, dif_neg h]
theorem gc_ind (P : Nat → Nat → Prop) (h0 : ∀ a, P a 0) (h1 : ∀ a b, b ≠ 0 → P b (rt a b) → P a b) : ∀ a b, P a b := by
  have : ∀ n a b, len b ≤ n → P a b := by
    intro n
    induction n with
    | zero => intro a b h; rw [len_zero_of (show len b = 0 by omega)]; exact h0 a
    | succ n ih =>
      intro a b h
      by_cases hb : b = 0
      · subst hb; exact h0 a
      · exact h1 a b hb (ih _ _ (by have := rt_lt (a := a) hb; omega))
  exact fun a b => this _ a b (Nat.le_refl _)
theorem gc_parts (a b : Nat) : Dv (gc a b) a ∧ Dv (gc a b) b := by
  refine gc_ind (fun a b => Dv (gc a b) a ∧ Dv (gc a b) b) (fun a => by rw [gc_zero]; exact ⟨dv_self a, dv_zero a⟩) (fun a b hb ih => ?_) a b
  rw [gc_step hb]
  refine ⟨?_, ih.1⟩
  have := dv_xor (dv_mul (qt a b) ih.1) ih.2
  rwa [qr hb] at this
theorem gc_all {a b c : Nat} : Dv c a → Dv c b → Dv c (gc a b) := by
  refine gc_ind (fun a b => Dv c a → Dv c b → Dv c (gc a b)) (fun a h _ => by rw [gc_zero]; exact h) (fun a b hb ih h k => ?_) a b
  rw [gc_step hb]
  refine ih k ?_
  have := dv_xor h (dv_mul (qt a b) k)
  rwa [show a ^^^ clm (qt a b) b = rt a b from by
    have e := qr (a := a) hb
    calc a ^^^ clm (qt a b) b = (clm (qt a b) b ^^^ rt a b) ^^^ clm (qt a b) b := by rw [e]
      _ = rt a b := by rw [Nat.xor_comm (clm _ _), xor_cancel]] at this
theorem gc_comm (a b : Nat) : gc a b = gc b a :=
  dv_antisymm (gc_all (gc_parts a b).2 (gc_parts a b).1) (gc_all (gc_parts b a).2 (gc_parts b a).1)
theorem gc_zero_left (a : Nat) : gc 0 a = a := by rw [gc_comm, gc_zero]
theorem gc_ne {a b : Nat} (h : a ≠ 0 ∨ b ≠ 0) : gc a b ≠ 0 := by
  intro e
  obtain ⟨p, q⟩ := gc_parts a b
  rw [e] at p q
  rcases h with h | h
  · exact h (dv_of_zero p)
  · exact h (dv_of_zero q)
theorem rt_clm_both {a b c : Nat} (hb : b ≠ 0) (hc : c ≠ 0) : rt (clm a c) (clm b c) = clm (rt a b) c := by
  refine rt_of (qt a b) (clm_ne hb hc) ?_ ?_
  · rw [← clm_assoc, ← clm_xor_left, qr hb]
  · by_cases z : rt a b = 0
    · rw [z, clm_zero_left]
      exact len_pos (clm_ne hb hc)
    · have l := rt_lt (a := a) hb
      have d1 := (len_clm z hc).2
      have d2 := (len_clm hb hc).2
      omega
theorem gc_mul (a b c : Nat) : gc (clm a c) (clm b c) = clm (gc a b) c := by
  by_cases hc : c = 0
  · subst hc; rw [clm_zero, clm_zero, clm_zero, gc_zero]
  · refine gc_ind (fun a b => gc (clm a c) (clm b c) = clm (gc a b) c) (fun a => by rw [clm_zero_left, gc_zero, gc_zero]) (fun a b hb ih => ?_) a b
    rw [gc_step (clm_ne hb hc), rt_clm_both hb hc, ih, gc_step hb]
/-- The factor of the last row: what the row before it is of the first one. -/
def ex (u l a b : Nat) : Nat := if h : b = 0 then u else ex l (u ^^^ clm l (qt a b)) b (rt a b)
  termination_by len b
  decreasing_by exact rt_lt h
theorem ex_zero (u l a : Nat) : ex u l a 0 = u := by unfold ex; simp
theorem ex_step {u l a b : Nat} (h : b ≠ 0) : ex u l a b = ex l (u ^^^ clm l (qt a b)) b (rt a b) := by rw [ex, dif_neg h]
theorem ex_facts (p s : Nat) (hp : p ≠ 0) (a b : Nat) : ∀ u l, len b < len a → rt (clm u s) p = rt a p → rt (clm l s) p = rt b p → len u < len l → len l + len a = len p + 1 →
    rt (clm (ex u l a b) s) p = rt (gc a b) p ∧ len (ex u l a b) + len (gc a b) ≤ len p := by
  refine gc_ind (fun a b => ∀ u l, len b < len a → rt (clm u s) p = rt a p → rt (clm l s) p = rt b p → len u < len l → len l + len a = len p + 1 →
    rt (clm (ex u l a b) s) p = rt (gc a b) p ∧ len (ex u l a b) + len (gc a b) ≤ len p) (fun a u l _ h1 _ h3 h4 => ?_) (fun a b hb ih u l h0 h1 h2 h3 h4 => ?_) a b
  · rw [ex_zero, gc_zero]; exact ⟨h1, by omega⟩
  · rw [ex_step hb, gc_step hb]
    have q := qt_len (a := a) hb (by omega)
    have hl : l ≠ 0 := by intro e; subst e; rw [len_zero] at h3; omega
    have hq : qt a b ≠ 0 := by intro e; rw [e, len_zero] at q; omega
    have d := (len_clm hl hq).2
    have e := len_xor_lt (a := clm l (qt a b)) (b := u) (by omega)
    rw [Nat.xor_comm] at e
    refine ih l (u ^^^ clm l (qt a b)) (rt_lt hb) h2 ?_ (by omega) (by omega)
    have e1 : clm (u ^^^ clm l (qt a b)) s = clm u s ^^^ clm (clm l s) (qt a b) := by
      rw [clm_xor_left, clm_assoc, clm_comm (qt a b), ← clm_assoc]
    have e2 : rt a b = a ^^^ clm b (qt a b) := by
      have := qr (a := a) hb
      rw [clm_comm b]
      calc rt a b = (clm (qt a b) b ^^^ rt a b) ^^^ clm (qt a b) b := by rw [Nat.xor_comm (clm _ _), xor_cancel]
        _ = _ := by rw [this]
    rw [e1, e2, rt_xor hp, rt_xor hp, h1, ← rt_clm_left hp, h2, rt_clm_left hp]
/-- What makes the rest 1, where there is such. -/
def iv (a p : Nat) : Nat := ex 0 1 p (rt a p)
theorem gc_rt {a p : Nat} (hp : p ≠ 0) : gc p (rt a p) = gc a p := (gc_step hp).symm
theorem iv_facts {a p : Nat} (hp : p ≠ 0) (h : gc a p = 1) : rt (clm a (iv a p)) p = rt 1 p ∧ len (iv a p) < len p := by
  have := ex_facts p (rt a p) hp p (rt a p) 0 1 (rt_lt hp) (by rw [clm_zero_left, rt_zero_left]; have := rt_mul 1 hp; rw [clm_one_left] at this; exact this.symm) (by rw [clm_one_left]) (by decide) (by rw [len_one]; omega)
  rw [gc_rt hp, h, len_one] at this
  refine ⟨?_, by unfold iv; omega⟩
  rw [← this.1]
  show rt (clm a (ex 0 1 p (rt a p))) p = _
  rw [clm_comm _ (rt a p), rt_clm_left hp]
theorem qt_lt {a b k : Nat} (hb : b ≠ 0) (h : len a ≤ k) : len (qt a b) ≤ k := by
  by_cases c : len b ≤ len a
  · have := qt_len hb c
    have := len_pos hb
    omega
  · have := (qr_of (q := 0) (r := a) hb (by rw [clm_zero_left, Nat.zero_xor]) (by omega)).1
    rw [this, len_zero]; omega
theorem gc_lt {a b k : Nat} (ha : len a ≤ k) (hb : len b ≤ k) : len (gc a b) ≤ k := by
  by_cases c : b = 0
  · subst c; rw [gc_zero]; exact ha
  · exact Nat.le_trans (dv_len (gc_parts a b).2 c) hb
/-- The product, in so many steps: for numbers that are known. -/
def clmF : Nat → Nat → Nat → Nat
  | 0, _, _ => 0
  | n + 1, a, b => (if b % 2 = 1 then a else 0) ^^^ (2 * clmF n a (b / 2))
theorem clmF_eq : ∀ n a b, b < 2 ^ n → clmF n a b = clm a b
  | 0, a, b, h => by have : b = 0 := by simpa using h
                     subst this; rw [clm_zero]; rfl
  | n + 1, a, b, h => by rw [clmF, clm_step, clmF_eq n a (b / 2) (by rw [Nat.pow_succ] at h; omega)]
theorem clm_by (n : Nat) {a b c : Nat} (h : b < 2 ^ n) (e : clmF n a b = c) : clm a b = c := by rw [← clmF_eq n a b h, e]
end Go.Proofs.YtfpbfibnkknhdaaDoor.G
