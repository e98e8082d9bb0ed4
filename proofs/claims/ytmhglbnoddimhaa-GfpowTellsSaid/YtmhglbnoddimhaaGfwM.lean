/-
  Powers of polynomials over the field of two, as rests; which ones nothing parts; how many roots there are. Plain mathematics; nothing of the program.
-/
import Derived.Test.YtmhglbnoddimhaaGfdM
namespace Go.Proofs.Ytmhglbnoddimhaa.G
set_option linter.unusedVariables false
/-- a times itself, so many times. -/
def pw (a : Nat) : Nat → Nat
  | 0 => 1
  | n + 1 => clm (pw a n) a
theorem pw_zero (a : Nat) : pw a 0 = 1 := rfl
theorem pw_succ (a n : Nat) : pw a (n + 1) = clm (pw a n) a := rfl
theorem pw_1 (a : Nat) : pw a 1 = a := by rw [pw_succ, pw_zero, clm_one_left]
theorem pw_2 (a : Nat) : pw a 2 = clm a a := by rw [pw_succ, pw_1]
theorem pw_add (a m n : Nat) : pw a (m + n) = clm (pw a m) (pw a n) := by
  induction n with
  | zero => rw [pw_zero, clm_one]; rfl
  | succ n ih => rw [← Nat.add_assoc, pw_succ, ih, pw_succ, clm_assoc]
theorem pw_mul (a m n : Nat) : pw a (m * n) = pw (pw a m) n := by
  induction n with
  | zero => rfl
  | succ n ih => rw [Nat.mul_succ, pw_add, ih, pw_succ]
theorem clm4 (a b c d : Nat) : clm (clm a b) (clm c d) = clm (clm a c) (clm b d) := by
  rw [clm_assoc, ← clm_assoc b, clm_comm b c, clm_assoc c, ← clm_assoc a]
theorem pw_clm (a b n : Nat) : pw (clm a b) n = clm (pw a n) (pw b n) := by
  induction n with
  | zero => rw [pw_zero, pw_zero, pw_zero, clm_one]
  | succ n ih => rw [pw_succ, ih, pw_succ, pw_succ, clm4]
theorem pw_one (n : Nat) : pw 1 n = 1 := by
  induction n with
  | zero => rfl
  | succ n ih => rw [pw_succ, ih, clm_one]
theorem pw_frob (a b k : Nat) : pw (a ^^^ b) (2 ^ k) = pw a (2 ^ k) ^^^ pw b (2 ^ k) := by
  induction k with
  | zero => rw [Nat.pow_zero, pw_1, pw_1, pw_1]
  | succ k ih => rw [Nat.pow_succ, pw_mul, pw_mul, pw_mul, ih, pw_2, pw_2, pw_2, sq_xor]
theorem pw_zero_base {n : Nat} (h : n ≠ 0) : pw 0 n = 0 := by
  cases n with
  | zero => exact absurd rfl h
  | succ n => rw [pw_succ, clm_zero]
/-- A power as a rest. -/
def pr (a n p : Nat) : Nat := rt (pw a n) p
theorem pr_zero (a p : Nat) : pr a 0 p = rt 1 p := rfl
theorem pr_1 (a p : Nat) : pr a 1 p = rt a p := by unfold pr; rw [pw_1]
theorem pr_lt {a n p : Nat} (hp : p ≠ 0) : len (pr a n p) < len p := rt_lt hp
theorem pr_add {a m n p : Nat} (hp : p ≠ 0) : pr a (m + n) p = rt (clm (pr a m p) (pr a n p)) p := by
  unfold pr; rw [pw_add, rt_clm hp]
theorem pr_succ {a n p : Nat} (hp : p ≠ 0) : pr a (n + 1) p = rt (clm (pr a n p) a) p := by
  unfold pr; rw [pw_succ, rt_clm_left hp]
theorem pr_rt {a n p : Nat} (hp : p ≠ 0) : pr (rt a p) n p = pr a n p := by
  induction n with
  | zero => rfl
  | succ n ih => rw [pr_succ hp, pr_succ hp, ih, clm_comm, rt_clm_left hp, clm_comm]
theorem pr_mul {a m n p : Nat} (hp : p ≠ 0) : pr a (m * n) p = pr (pr a m p) n p := by
  show rt (pw a (m * n)) p = pr (rt (pw a m) p) n p
  rw [pr_rt hp, pw_mul]; rfl
theorem pr_even {a n p : Nat} (hp : p ≠ 0) : pr a (2 * n) p = rt (clm (pr a n p) (pr a n p)) p := by
  rw [show 2 * n = n + n from by omega, pr_add hp]
theorem pr_odd {a n p : Nat} (hp : p ≠ 0) : pr a (2 * n + 1) p = rt (clm (rt (clm (pr a n p) (pr a n p)) p) (rt a p)) p := by
  rw [pr_add hp, pr_even hp, pr_1]
theorem pr_frob {a k p : Nat} (hp : p ≠ 0) : pr a (2 ^ (k + 1)) p = rt (clm (pr a (2 ^ k) p) (pr a (2 ^ k) p)) p := by
  rw [Nat.pow_succ, Nat.mul_comm, pr_even hp]
/-- The rest by p tells the rest by what parts p. -/
theorem rt_part {a f p : Nat} (hf : f ≠ 0) (hp : p ≠ 0) (h : Dv f p) : rt (rt a p) f = rt a f := by
  have e := qr (a := a) hp
  have z : rt (clm (qt a p) p) f = 0 := (dv_rt hf).1 (dv_mul _ h)
  calc rt (rt a p) f = rt (clm (qt a p) p) f ^^^ rt (rt a p) f := by rw [z, Nat.zero_xor]
    _ = rt (clm (qt a p) p ^^^ rt a p) f := (rt_xor hf).symm
    _ = rt a f := by rw [e]

/-- Nothing parts it. -/
def Irr (p : Nat) : Prop := 2 ≤ len p ∧ ∀ q, Dv q p → q = 1 ∨ q = p
theorem Irr.ne {p : Nat} (h : Irr p) : p ≠ 0 := by intro e; subst e; have := h.1; rw [len_zero] at this; omega
theorem irr_gc {f : Nat} (h : Irr f) (a : Nat) : gc a f = 1 ∨ Dv f a := by
  rcases h.2 _ (gc_parts a f).2 with e | e
  · exact .inl e
  · have := (gc_parts a f).1
    rw [e] at this
    exact .inr this
theorem euclid {f a b : Nat} (h : Irr f) (d : Dv f (clm a b)) : Dv f a ∨ Dv f b := by
  rcases irr_gc h a with e | e
  · right
    have m := gc_mul a f b
    rw [e, clm_one_left] at m
    have := gc_all d (dv_mul_right b (dv_self f))
    rwa [m] at this
  · exact .inl e
theorem dv_small {q p : Nat} (hp : p ≠ 0) (h : Dv q p) (hne : q ≠ p) : len q < len p := by
  have l := dv_len h hp
  rcases Nat.lt_or_ge (len q) (len p) with a | a
  · exact a
  · exfalso
    obtain ⟨c, e⟩ := h
    have hc : c ≠ 0 := by intro z; subst z; rw [clm_zero_left] at e; exact hp e.symm
    have hq : q ≠ 0 := by intro z; subst z; rw [clm_zero] at e; exact hp e.symm
    have d := (len_clm hc hq).2
    rw [e] at d
    have := one_of_len (a := c) (by omega)
    rw [this, clm_one_left] at e
    exact hne e
theorem two_of_ne {q : Nat} (h0 : q ≠ 0) (h1 : q ≠ 1) : 2 ≤ len q := by
  have a := len_pos h0
  have b : len q ≠ 1 := fun e => h1 (one_of_len e)
  omega
theorem not_irr {p : Nat} (hp : 2 ≤ len p) (h : ¬ Irr p) : ∃ q, Dv q p ∧ q ≠ 1 ∧ q ≠ p :=
  Classical.byContradiction fun n => h ⟨hp, fun q d => by
    by_cases a : q = 1
    · exact .inl a
    · by_cases b : q = p
      · exact .inr b
      · exact absurd ⟨q, d, a, b⟩ n⟩
theorem irr_part : ∀ n p, len p ≤ n → 2 ≤ len p → ∃ f, Irr f ∧ Dv f p := by
  intro n
  induction n with
  | zero => intro p a b; omega
  | succ n ih =>
    intro p a b
    by_cases h : Irr p
    · exact ⟨p, h, dv_self p⟩
    · have hp : p ≠ 0 := by intro e; subst e; rw [len_zero] at b; omega
      obtain ⟨q, d, q1, q2⟩ := not_irr b h
      have q0 : q ≠ 0 := by intro z; subst z; exact hp (dv_of_zero d)
      have l := dv_small hp d q2
      obtain ⟨f, hf, df⟩ := ih q (by omega) (two_of_ne q0 q1)
      exact ⟨f, hf, dv_trans df d⟩
/-- What isn't irreducible has a part of half its degree at most. -/
theorem small_part {p : Nat} (hp : 2 ≤ len p) (h : ¬ Irr p) : ∃ s, Dv s p ∧ 2 ≤ len s ∧ 2 * (len s - 1) ≤ len p - 1 := by
  have p0 : p ≠ 0 := by intro e; subst e; rw [len_zero] at hp; omega
  obtain ⟨q, ⟨c, e⟩, q1, q2⟩ := not_irr hp h
  have hc : c ≠ 0 := by intro z; subst z; rw [clm_zero_left] at e; exact p0 e.symm
  have hq : q ≠ 0 := by intro z; subst z; rw [clm_zero] at e; exact p0 e.symm
  have c1 : c ≠ 1 := by intro z; subst z; rw [clm_one_left] at e; exact q2 e
  have d := (len_clm hc hq).2
  rw [e] at d
  have l1 := two_of_ne hc c1
  have l2 := two_of_ne hq q1
  by_cases k : len c ≤ len q
  · exact ⟨c, ⟨q, by rw [clm_comm]; exact e⟩, l1, by omega⟩
  · exact ⟨q, ⟨c, e⟩, l2, by omega⟩
theorem product_not {a b : Nat} (ha : 2 ≤ len a) (hb : 2 ≤ len b) : ¬ Irr (clm a b) := by
  intro h
  have a0 : a ≠ 0 := by intro e; subst e; rw [len_zero] at ha; omega
  have b0 : b ≠ 0 := by intro e; subst e; rw [len_zero] at hb; omega
  have d := (len_clm a0 b0).2
  rcases h.2 a ⟨b, clm_comm b a⟩ with e | e
  · rw [e, len_one] at ha; omega
  · rw [← e] at d; omega

/-- The product of a list. -/
def prd : List Nat → Nat
  | [] => 1
  | x :: r => clm x (prd r)
theorem prd_perm {l m : List Nat} (h : l.Perm m) : prd l = prd m := by
  induction h with
  | nil => rfl
  | cons x _ ih => simp only [prd, ih]
  | swap x y l => simp only [prd]; rw [← clm_assoc, clm_comm y x, clm_assoc]
  | trans _ _ h1 h2 => exact h1.trans h2
theorem perm_of : ∀ (l m : List Nat), l.Nodup → (∀ x ∈ l, x ∈ m) → m.length ≤ l.length → l.Perm m
  | [], m, _, _, h => by
    have : m = [] := List.eq_nil_of_length_eq_zero (by simpa using h)
    subst this; exact List.Perm.nil
  | x :: t, m, hn, hs, hl => by
    have hx := hs x (by simp)
    have hn' := List.nodup_cons.1 hn
    have p := List.perm_cons_erase hx
    have l1 := List.length_erase_of_mem hx
    have := perm_of t (m.erase x) hn'.2 (fun y hy => by
      have ne : y ≠ x := by intro e; subst e; exact hn'.1 hy
      exact (List.mem_erase_of_ne ne).2 (hs y (by simp [hy]))) (by simp only [List.length_cons] at hl; omega)
    exact (this.cons x).trans p.symm
theorem nodup_map : ∀ (l : List Nat) (g : Nat → Nat), l.Nodup → (∀ x ∈ l, ∀ y ∈ l, g x = g y → x = y) → (l.map g).Nodup
  | [], _, _, _ => List.nodup_nil
  | x :: t, g, hn, hi => by
    have hn' := List.nodup_cons.1 hn
    rw [List.map_cons, List.nodup_cons]
    refine ⟨fun h => ?_, nodup_map t g hn'.2 (fun a ha b hb => hi a (by simp [ha]) b (by simp [hb]))⟩
    obtain ⟨y, hy, e⟩ := List.mem_map.1 h
    have := hi y (by simp [hy]) x (by simp) e
    subst this
    exact hn'.1 hy
theorem prd_map {f a : Nat} (hf : f ≠ 0) : ∀ l : List Nat, rt (prd (l.map fun r => rt (clm a r) f)) f = rt (clm (pw a l.length) (prd l)) f
  | [] => by simp [prd, pw, clm_one]
  | x :: t => by
    have ih := prd_map (a := a) hf t
    simp only [List.map_cons, prd, List.length_cons, pw_succ]
    rw [rt_clm_left hf, ← rt_clm hf, ih, rt_clm hf]
    congr 1
    rw [clm_comm (pw a t.length) a, clm4]
theorem prd_not {f : Nat} (h : Irr f) : ∀ l : List Nat, (∀ x ∈ l, ¬ Dv f x) → ¬ Dv f (prd l)
  | [], _ => fun d => by
    have := dv_len d (by simp [prd])
    have l := h.1
    simp only [prd, len_one] at this
    omega
  | x :: t, hx => fun d => by
    rcases euclid h d with e | e
    · exact hx x (by simp) e
    · exact prd_not h t (fun y hy => hx y (by simp [hy])) e
theorem not_dv {f r : Nat} (h0 : r ≠ 0) (hl : len r < len f) : ¬ Dv f r := fun d => by have := dv_len d h0; omega
theorem len_bd {r k : Nat} (h : r < 2 ^ k) : len r ≤ k := len_le h
theorem fermat {f a : Nat} (h : Irr f) (ha : ¬ Dv f a) : pr a (2 ^ (len f - 1) - 1) f = 1 := by
  have f0 := h.ne
  have f1 := h.1
  have hd := Nat.two_pow_pos (len f - 1)
  have mem : ∀ r, r ∈ List.range' 1 (2 ^ (len f - 1) - 1) → r ≠ 0 ∧ len r < len f := fun r hr => by
    have := List.mem_range'_1.1 hr
    exact ⟨by omega, by have := len_bd (r := r) (k := len f - 1) (by omega); omega⟩
  have nm : ∀ r, r ≠ 0 → len r < len f → r ∈ List.range' 1 (2 ^ (len f - 1) - 1) := fun r h0 hl => by
    refine List.mem_range'_1.2 ⟨by omega, ?_⟩
    have := Nat.lt_of_lt_of_le (len_lt r) (Nat.pow_le_pow_right (n := 2) (by decide) (show len r ≤ len f - 1 by omega))
    omega
  have nz : ∀ r, r ≠ 0 → len r < len f → rt (clm a r) f ≠ 0 := fun r h0 hl e => by
    rcases euclid h ((dv_rt f0).2 e) with d | d
    · exact ha d
    · exact not_dv h0 hl d
  have pm : (List.map (fun r => rt (clm a r) f) (List.range' 1 (2 ^ (len f - 1) - 1))).Perm (List.range' 1 (2 ^ (len f - 1) - 1)) := by
    refine perm_of _ _ (nodup_map _ _ List.nodup_range' (fun x hx y hy e => ?_)) (fun x hx => ?_) (by simp)
    · have e1 := (rt_eq_iff f0).1 e
      rw [← clm_xor] at e1
      rcases euclid h ((dv_rt f0).2 e1) with d | d
      · exact absurd d ha
      · by_cases z : x ^^^ y = 0
        · exact xor_self_eq z
        · exact absurd d (not_dv z (len_xor_lt2 (mem x hx).2 (mem y hy).2))
    · obtain ⟨r, hr, rfl⟩ := List.mem_map.1 hx
      exact nm _ (nz r (mem r hr).1 (mem r hr).2) (rt_lt f0)
  have e := prd_map (a := a) f0 (List.range' 1 (2 ^ (len f - 1) - 1))
  rw [prd_perm pm, List.length_range'] at e
  have e2 : rt (prd (List.range' 1 (2 ^ (len f - 1) - 1))) f = rt (clm 1 (prd (List.range' 1 (2 ^ (len f - 1) - 1)))) f := by rw [clm_one_left]
  have e3 := (rt_eq_iff f0).1 (e2.symm.trans e)
  rw [← clm_xor_left] at e3
  rcases euclid h ((dv_rt f0).2 e3) with d | d
  · have := (rt_eq_iff f0).2 ((dv_rt f0).1 d)
    rw [rt_small (show len 1 < len f by rw [len_one]; omega)] at this
    exact this.symm
  · exact absurd d (prd_not h _ (fun x hx => not_dv (mem x hx).1 (mem x hx).2))
theorem fermat2 {f : Nat} (h : Irr f) (a : Nat) : pr a (2 ^ (len f - 1)) f = rt a f := by
  have f0 := h.ne
  have hd := Nat.two_pow_pos (len f - 1)
  obtain ⟨m, hm⟩ : ∃ m, 2 ^ (len f - 1) = m + 1 := ⟨2 ^ (len f - 1) - 1, by omega⟩
  rw [hm, pr_succ f0]
  by_cases ha : Dv f a
  · have z := (dv_rt f0).1 ha
    rw [z]
    exact (dv_rt f0).1 (dv_mul _ ha)
  · have := fermat h ha
    rw [hm, Nat.add_sub_cancel] at this
    rw [this, clm_one_left]

/-- What Irreducible asks. -/
def Asked (p : Nat) : Prop := ∀ i, 1 ≤ i → i ≤ (len p - 1) / 2 → gc (pr 2 (2 ^ i) p ^^^ 2) p = 1
theorem irr_of_asked {p : Nat} (hp : 2 ≤ len p) (h : Asked p) : Irr p := Classical.byContradiction fun n => by
  have p0 : p ≠ 0 := by intro e; subst e; rw [len_zero] at hp; omega
  obtain ⟨s, ds, l1, l2⟩ := small_part hp n
  have s0 : s ≠ 0 := by intro e; subst e; rw [len_zero] at l1; omega
  obtain ⟨f, hf, df⟩ := irr_part _ s (Nat.le_refl _) l1
  have lf := dv_len df s0
  have f1 := hf.1
  have dp := dv_trans df ds
  have g := h (len f - 1) (by omega) (by omega)
  have z : rt (pr 2 (2 ^ (len f - 1)) p ^^^ 2) f = 0 := by
    rw [rt_xor hf.ne]
    unfold pr
    rw [rt_part hf.ne p0 dp]
    have := fermat2 hf 2
    unfold pr at this
    rw [this, Nat.xor_self]
  have := gc_all ((dv_rt hf.ne).2 z) dp
  rw [g] at this
  have := dv_len this (by decide)
  rw [len_one] at this
  omega
/-- A polynomial of degree n over numbers, of which the highest part is 1. -/
def Mp : Nat → (Nat → Nat) → Prop
  | 0, g => ∀ y, g y = 1
  | n + 1, g => ∃ (h : Nat → Nat) (c : Nat), Mp n h ∧ ∀ y, g y = clm y (h y) ^^^ c
theorem mp_div : ∀ (n : Nat) (g : Nat → Nat), Mp (n + 1) g → ∀ r, ∃ q, Mp n q ∧ ∀ y, g y ^^^ g r = clm (y ^^^ r) (q y)
  | 0, g, ⟨h, c, hh, hg⟩, r => ⟨fun _ => 1, fun _ => rfl, fun y => by
    rw [hg, hg, hh, hh, clm_one, clm_one, clm_one, xor4, Nat.xor_self, Nat.xor_zero]⟩
  | n + 1, g, ⟨h, c, hh, hg⟩, r => by
    obtain ⟨k, hk, e⟩ := mp_div n h hh r
    refine ⟨fun y => clm y (k y) ^^^ h r, ⟨k, h r, hk, fun _ => rfl⟩, fun y => ?_⟩
    rw [hg, hg, xor4, Nat.xor_self, Nat.xor_zero, clm_xor, ← clm_assoc, clm_comm (y ^^^ r) y, clm_assoc, ← e, clm_xor, clm_xor_left]
    rw [Nat.xor_assoc, ← Nat.xor_assoc (clm y (h r)), Nat.xor_self, Nat.zero_xor]
theorem mp_roots {p : Nat} (hp : Irr p) : ∀ (n : Nat) (g : Nat → Nat), Mp n g → ∀ l : List Nat, l.Nodup → (∀ y ∈ l, len y < len p ∧ Dv p (g y)) → l.length ≤ n
  | _, _, _, [], _, _ => by simp
  | 0, g, hg, r :: t, _, hr => by
    have d := (hr r (by simp)).2
    rw [hg r] at d
    have := dv_len d (by decide)
    have l := hp.1
    rw [len_one] at this
    omega
  | n + 1, g, hg, r :: t, hn, hr => by
    have hn' := List.nodup_cons.1 hn
    obtain ⟨q, hq, e⟩ := mp_div n g hg r
    have := mp_roots hp n q hq t hn'.2 (fun y hy => by
      have a := hr y (by simp [hy])
      have b := hr r (by simp)
      refine ⟨a.1, ?_⟩
      have d := dv_xor a.2 b.2
      rw [e] at d
      rcases euclid hp d with k | k
      · exfalso
        by_cases z : y ^^^ r = 0
        · have := xor_self_eq z
          subst this
          exact hn'.1 hy
        · exact not_dv z (len_xor_lt2 a.1 b.1) k
      · exact k)
    simp only [List.length_cons]
    omega
theorem mp_pw : ∀ n, Mp n (fun y => pw y n)
  | 0 => fun _ => rfl
  | n + 1 => ⟨fun y => pw y n, 0, mp_pw n, fun y => by show pw y (n + 1) = clm y (pw y n) ^^^ 0; rw [pw_succ, clm_comm, Nat.xor_zero]⟩
theorem mp_frob (n : Nat) : Mp (n + 2) (fun y => pw y (n + 2) ^^^ y) :=
  ⟨fun y => pw y (n + 1) ^^^ 1, 0, ⟨fun y => pw y n, 1, mp_pw n, fun y => by show pw y (n + 1) ^^^ 1 = clm y (pw y n) ^^^ 1; rw [pw_succ, clm_comm]⟩, fun y => by
    show pw y (n + 2) ^^^ y = clm y (pw y (n + 1) ^^^ 1) ^^^ 0
    rw [clm_xor, clm_one, clm_comm y, ← pw_succ, Nat.xor_zero]⟩
theorem frob_all {p i : Nat} (hp : p ≠ 0) (h : Dv p (pw 2 (2 ^ i) ^^^ 2)) : ∀ y, Dv p (pw y (2 ^ i) ^^^ y) := by
  have h1 := (rt_eq_iff hp).2 ((dv_rt hp).1 h)
  have key : ∀ b, rt (pw b (2 ^ i)) p = rt b p → rt (pw (2 * b) (2 ^ i)) p = rt (2 * b) p := fun b ih => by
    have e : 2 * b = clm b 2 := by have := clm_pow b 1; simpa [Nat.mul_comm] using this.symm
    rw [e, pw_clm, ← rt_clm hp, ih, h1, rt_clm hp]
  intro y
  refine (dv_rt hp).2 ((rt_eq_iff hp).1 ?_)
  refine bin (fun y => rt (pw y (2 ^ i)) p = rt y p) ?_ key (fun b ih => ?_) y
  · rw [pw_zero_base (by have := Nat.two_pow_pos i; omega)]
  · rw [odd_xor, pw_frob, pw_one, rt_xor hp, rt_xor hp, key b ih]
theorem asked_of_irr {p : Nat} (h : Irr p) : Asked p := fun i i1 i2 => by
  have p0 := h.ne
  have l := h.1
  rcases h.2 _ (gc_parts (pr 2 (2 ^ i) p ^^^ 2) p).2 with e | e
  · exact e
  · exfalso
    have d := (gc_parts (pr 2 (2 ^ i) p ^^^ 2) p).1
    rw [e] at d
    have d2 : Dv p (pw 2 (2 ^ i) ^^^ 2) := by
      refine (dv_rt p0).2 ?_
      have := (dv_rt p0).1 d
      rw [rt_xor p0] at this ⊢
      unfold pr at this
      rw [rt_rt p0] at this
      exact this
    have all := frob_all p0 d2
    obtain ⟨n, hn⟩ : ∃ n, 2 ^ i = n + 2 := ⟨2 ^ i - 2, by
      have : 2 ^ 1 ≤ 2 ^ i := Nat.pow_le_pow_right (by decide) i1
      omega⟩
    have := mp_roots h (n + 2) (fun y => pw y (n + 2) ^^^ y) (mp_frob n) (List.range (2 ^ (len p - 1))) List.nodup_range (fun y hy => by
      have := List.mem_range.1 hy
      refine ⟨by have := len_bd this; omega, ?_⟩
      have := all y
      rw [hn] at this
      exact this)
    rw [List.length_range, ← hn] at this
    have := (Nat.pow_le_pow_iff_right (a := 2) (by decide)).1 this
    omega
theorem irr_iff {p : Nat} (hp : 2 ≤ len p) : Irr p ↔ Asked p := ⟨asked_of_irr, irr_of_asked hp⟩
/-- What the reference asks, of a degree up to 16. -/
def Tried (p : Nat) : Prop := ∀ n, 2 ≤ n → n < 512 → 2 * (len n - 1) ≤ len p - 1 → rt p n ≠ 0
theorem irr_tried {p : Nat} (hp : 2 ≤ len p) (hl : len p ≤ 17) : Irr p ↔ Tried p := by
  constructor
  · intro h n n1 n2 n3 e
    have n0 : n ≠ 0 := by omega
    rcases h.2 n ((dv_rt n0).2 e) with k | k
    · omega
    · rw [k] at n3; omega
  · intro h
    refine Classical.byContradiction fun n => ?_
    obtain ⟨s, ds, l1, l2⟩ := small_part hp n
    have s0 : s ≠ 0 := by intro e; subst e; rw [len_zero] at l1; omega
    have s1 : s ≠ 1 := by intro e; subst e; rw [len_one] at l1; omega
    have s2 := Nat.lt_of_lt_of_le (len_lt s) (Nat.pow_le_pow_right (n := 2) (by decide) (show len s ≤ 9 by omega))
    exact h s (by omega) s2 l2 ((dv_rt s0).1 ds)
end Go.Proofs.Ytmhglbnoddimhaa.G
