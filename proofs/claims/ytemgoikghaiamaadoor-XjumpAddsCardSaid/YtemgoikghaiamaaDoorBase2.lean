/-
  Part 2 of what the statements of this seat stand on: XjN XjM XjO XjS.
-/
import Derived.Test.YtemgoikghaiamaaDoorBase1
/-
  Prime numbers by Lucas's test: the two primes whose product is 2^128 + 1. Plain mathematics; nothing of the program.
-/
namespace Go.Proofs.YtemgoikghaiamaaDoor.G
set_option linter.unusedVariables false

/-- A prime number. -/
def Pm (p : Nat) : Prop := 2 ≤ p ∧ ∀ d, d ∣ p → d = 1 ∨ d = p
theorem pm_mul {p a b : Nat} (h : Pm p) (d : p ∣ a * b) : p ∣ a ∨ p ∣ b := by
  rcases h.2 (Nat.gcd p a) (Nat.gcd_dvd_left _ _) with e | e
  · right; exact Nat.Coprime.dvd_of_dvd_mul_left e d
  · left; rw [← e]; exact Nat.gcd_dvd_right p a
theorem pm_pow {p a : Nat} (h : Pm p) : ∀ n, p ∣ a ^ n → p ∣ a := by
  intro n
  induction n with
  | zero => intro d; have := h.1; rw [Nat.pow_zero] at d; have := Nat.le_of_dvd (by decide) d; omega
  | succ n ih => intro d; rw [Nat.pow_succ] at d
                 rcases pm_mul h d with e | e
                 · exact ih e
                 · exact e
theorem pm_some : ∀ n, 2 ≤ n → ∃ p, Pm p ∧ p ∣ n := by
  intro n
  induction n using Nat.strongRecOn with
  | _ n ih =>
    intro hn
    by_cases h : Pm n
    · exact ⟨n, h, Nat.dvd_refl n⟩
    · obtain ⟨d, h1, h2, h3⟩ : ∃ d, d ∣ n ∧ d ≠ 1 ∧ d ≠ n := Classical.byContradiction fun k => h ⟨hn, fun d hd => by
        by_cases a : d = 1
        · exact .inl a
        · by_cases b : d = n
          · exact .inr b
          · exact absurd ⟨d, hd, a, b⟩ k⟩
      have d0 : d ≠ 0 := fun e => by subst e; have := Nat.eq_zero_of_zero_dvd h1; omega
      have dl := Nat.le_of_dvd (by omega) h1
      obtain ⟨p, hp, hd⟩ := ih d (by omega) (by omega)
      exact ⟨p, hp, Nat.dvd_trans hd h1⟩
/-- Small ones: nothing up to the root parts them. -/
def tri (p n : Nat) : Bool := (List.range n).all fun d => decide (d < 2) || p % d != 0
theorem pm_tri {p n : Nat} (h2 : 2 ≤ p) (hn : p < n * n) (h : tri p n = true) : Pm p := by
  have h' := List.all_eq_true.1 h
  have key : ∀ d, 2 ≤ d → d < n → ¬ d ∣ p := fun d a b e => by
    have := h' d (List.mem_range.2 b)
    simp only [Bool.or_eq_true, decide_eq_true_eq, bne_iff_ne, ne_eq] at this
    rcases this with k | k
    · omega
    · exact k (Nat.mod_eq_zero_of_dvd e)
  refine ⟨h2, fun d hd => ?_⟩
  by_cases d1 : d = 1
  · exact .inl d1
  · by_cases dp : d = p
    · exact .inr dp
    · exfalso
      have d0 : d ≠ 0 := fun e => by subst e; have := Nat.eq_zero_of_zero_dvd hd; omega
      obtain ⟨c, hc⟩ := hd
      have c0 : c ≠ 0 := fun e => by subst e; rw [Nat.mul_zero] at hc; omega
      have c1 : c ≠ 1 := fun e => by subst e; rw [Nat.mul_one] at hc; exact dp hc.symm
      by_cases hdn : d < n
      · exact key d (by omega) hdn ⟨c, hc⟩
      · by_cases hcn : c < n
        · exact key c (by omega) hcn ⟨d, by rw [Nat.mul_comm]; exact hc⟩
        · have : n * n ≤ d * c := Nat.mul_le_mul (by omega) (by omega)
          omega

theorem least_pos (p : Nat → Prop) : ∀ n, 0 < n → p n → ∃ d, 0 < d ∧ p d ∧ ∀ e, 0 < e → e < d → ¬ p e := by
  intro n
  induction n using Nat.strongRecOn with
  | _ n ih =>
    intro h0 hn
    by_cases h : ∃ e, 0 < e ∧ e < n ∧ p e
    · obtain ⟨e, a, b, c⟩ := h
      exact ih e b a c
    · exact ⟨n, h0, hn, fun e a b c => h ⟨e, a, b, c⟩⟩
theorem pow_one_mod {a n D : Nat} (hn : 2 ≤ n) (h : a ^ D % n = 1) (q : Nat) : a ^ (D * q) % n = 1 := by
  rw [Nat.pow_mul, Nat.pow_mod, h, Nat.one_pow, Nat.mod_eq_of_lt (by omega)]
theorem lucas {n a : Nat} (h2 : 2 ≤ n) (h1 : a ^ (n - 1) % n = 1) (hq : ∀ q, Pm q → q ∣ n - 1 → a ^ ((n - 1) / q) % n ≠ 1) : Pm n := by
  obtain ⟨D, D0, hD, hm⟩ := least_pos (fun e => a ^ e % n = 1) (n - 1) (by omega) h1
  have mulm : ∀ i j, a ^ (i + j) % n = (a ^ i % n) * (a ^ j % n) % n := fun i j => by rw [Nat.pow_add, Nat.mul_mod]
  have per : ∀ e, a ^ e % n = 1 → D ∣ e := fun e he => by
    have e1 : a ^ (e % D) % n = 1 := by
      have := mulm (D * (e / D)) (e % D)
      rw [Nat.div_add_mod, he, pow_one_mod h2 hD, Nat.one_mul, Nat.mod_mod] at this
      exact this.symm
    by_cases z : e % D = 0
    · exact Nat.dvd_of_mod_eq_zero z
    · exact absurd e1 (hm _ (by omega) (Nat.mod_lt _ D0))
  have hDn : D = n - 1 := by
    obtain ⟨c, hc⟩ := per _ h1
    by_cases c1 : c ≤ 1
    · have : c ≠ 0 := fun e => by subst e; rw [Nat.mul_zero] at hc; omega
      obtain rfl : c = 1 := by omega
      omega
    · exfalso
      obtain ⟨q, hp, k, hk⟩ := pm_some c (by omega)
      have q0 : 0 < q := by have := hp.1; omega
      have e : n - 1 = q * (D * k) := by rw [hc, hk]; rw [← Nat.mul_assoc, Nat.mul_comm D q, Nat.mul_assoc]
      refine hq q hp ⟨D * k, e⟩ ?_
      rw [e, Nat.mul_div_cancel_left _ q0]
      exact pow_one_mod h2 hD k
  have inv : ∀ i, i ≤ D → (a ^ i % n) * (a ^ (D - i) % n) % n = 1 := fun i hi => by
    rw [← mulm, show i + (D - i) = D from by omega]; exact hD
  have pm : (List.map (fun i => a ^ i % n) (List.range' 1 D)).Perm (List.range' 1 (n - 1)) := by
    refine perm_of _ _ (nodup_map _ _ List.nodup_range' (fun x hx y hy e => ?_)) (fun x hx => ?_) (by simp [hDn])
    · have a1 := List.mem_range'_1.1 hx
      have a2 := List.mem_range'_1.1 hy
      have aux : ∀ i j, i ≤ D → j ≤ D → 1 ≤ i → i < j → a ^ i % n = a ^ j % n → False := fun i j hi hj h0 hij he => by
        have := inv j hj
        rw [← he, ← mulm] at this
        exact hm (i + (D - j)) (by omega) (by omega) this
      rcases Nat.lt_trichotomy x y with l | l | l
      · exact (aux x y (by omega) (by omega) (by omega) l e).elim
      · exact l
      · exact (aux y x (by omega) (by omega) (by omega) l e.symm).elim
    · obtain ⟨i, hi, rfl⟩ := List.mem_map.1 hx
      have a1 := List.mem_range'_1.1 hi
      have l := Nat.mod_lt (a ^ i) (show 0 < n by omega)
      have z : a ^ i % n ≠ 0 := fun e => by
        have := inv i (by omega)
        rw [e, Nat.zero_mul, Nat.zero_mod] at this
        cases this
      exact List.mem_range'_1.2 ⟨by omega, by omega⟩
  refine ⟨h2, fun d hd => ?_⟩
  by_cases dn : d = n
  · exact .inr dn
  · left
    have d0 : d ≠ 0 := fun e => by subst e; have := Nat.eq_zero_of_zero_dvd hd; omega
    have dl := Nat.le_of_dvd (by omega) hd
    have hm2 := pm.mem_iff.2 (List.mem_range'_1.2 (show 1 ≤ d ∧ d < 1 + (n - 1) from ⟨by omega, by omega⟩))
    obtain ⟨i, hi, e⟩ := List.mem_map.1 hm2
    have a1 := List.mem_range'_1.1 hi
    have := inv i (by omega)
    rw [e] at this
    have dd : d ∣ d * (a ^ (D - i) % n) % n := (Nat.dvd_mod_iff hd).2 (Nat.dvd_mul_right _ _)
    rw [this] at dd
    exact Nat.dvd_one.1 dd
/-- Powers by a number, quickly. -/
def mpow (a n : Nat) : Nat → Nat → Nat
  | 0, _ => 1 % n
  | f + 1, e => if e % 2 = 1 then mpow a n f (e / 2) * mpow a n f (e / 2) % n * a % n else mpow a n f (e / 2) * mpow a n f (e / 2) % n
theorem mpow_eq (a n : Nat) : ∀ f e, e < 2 ^ f → mpow a n f e = a ^ e % n := by
  intro f
  induction f with
  | zero => intro e h; obtain rfl : e = 0 := by simpa using h
            rfl
  | succ f ih =>
    intro e h
    rw [Nat.pow_succ] at h
    have i := ih (e / 2) (by omega)
    have s : a ^ (e / 2) % n * (a ^ (e / 2) % n) % n = a ^ (2 * (e / 2)) % n := by rw [← Nat.mul_mod, ← Nat.pow_add]; congr 2; omega
    rw [mpow, i, s]
    by_cases o : e % 2 = 1
    · rw [if_pos o]
      have : e = 2 * (e / 2) + 1 := by omega
      conv => rhs; rw [this, Nat.pow_succ]
      rw [Nat.mod_mul_mod]
    · rw [if_neg o]
      have : 2 * (e / 2) = e := by omega
      rw [this]
/-- Another order of reckoning: the half power is reckoned once. -/
def mpw (a n : Nat) : Nat → Nat → Nat
  | 0, _ => 1 % n
  | f + 1, e => (fun h => if e % 2 = 1 then h * h % n * a % n else h * h % n) (mpw a n f (e / 2))
theorem mpw_eq (a n : Nat) : ∀ f e, mpw a n f e = mpow a n f e := by
  intro f
  induction f with
  | zero => intro e; rfl
  | succ f ih => intro e; simp only [mpw, mpow, ih]
def prod (l : List (Nat × Nat)) : Nat := l.foldr (fun x r => x.1 ^ x.2 * r) 1
theorem pm_prod {q : Nat} (h : Pm q) : ∀ l : List (Nat × Nat), q ∣ prod l → ∃ x ∈ l, q ∣ x.1
  | [], d => by have := h.1; have := Nat.le_of_dvd (by decide) (show q ∣ 1 from d); omega
  | x :: r, d => by
    rcases pm_mul h (show q ∣ x.1 ^ x.2 * prod r from d) with e | e
    · exact ⟨x, by simp, pm_pow h _ e⟩
    · obtain ⟨y, hy, k⟩ := pm_prod h r e
      exact ⟨y, by simp [hy], k⟩
/-- Lucas's test, all at once. -/
theorem pm_by (n a F : Nat) (l : List (Nat × Nat)) (hl : ∀ x ∈ l, Pm x.1)
    (h : decide (2 ≤ n) && decide (n < 2 ^ F) && decide (prod l = n - 1) && decide (mpw a n F (n - 1) = 1) && l.all (fun x => decide (mpw a n F ((n - 1) / x.1) ≠ 1)) = true) : Pm n := by
  simp only [Bool.and_eq_true, decide_eq_true_eq, List.all_eq_true] at h
  obtain ⟨⟨⟨⟨h2, hF⟩, hp⟩, h1⟩, hc⟩ := h
  rw [mpw_eq, mpow_eq _ _ _ _ (by omega)] at h1
  refine lucas h2 h1 (fun q hq d => ?_)
  obtain ⟨x, hx, e⟩ := pm_prod hq l (by rw [hp]; exact d)
  have hx2 := hl x hx
  rcases hx2.2 q e with k | k
  · have := hq.1; omega
  · have c := hc x hx
    rw [mpw_eq, mpow_eq _ _ _ _ (Nat.lt_of_le_of_lt (Nat.div_le_self _ _) (by omega)), ← k] at c
    exact c
theorem all1 {l : List (Nat × Nat)} (h : ∀ x ∈ l, Pm x.1) : ∀ x ∈ l, Pm x.1 := h
theorem p2_ : Pm 2 := pm_tri (n := 2) (by decide) (by decide) (by decide +kernel)
theorem p3_ : Pm 3 := pm_tri (n := 2) (by decide) (by decide) (by decide +kernel)
theorem p5_ : Pm 5 := pm_tri (n := 3) (by decide) (by decide) (by decide +kernel)
theorem p7_ : Pm 7 := pm_tri (n := 3) (by decide) (by decide) (by decide +kernel)
theorem p139_ : Pm 139 := pm_tri (n := 12) (by decide) (by decide) (by decide +kernel)
theorem p181_ : Pm 181 := pm_tri (n := 14) (by decide) (by decide) (by decide +kernel)
theorem p449_ : Pm 449 := pm_tri (n := 22) (by decide) (by decide) (by decide +kernel)
theorem p1783_ : Pm 1783 := pm_tri (n := 43) (by decide) (by decide) (by decide +kernel)
theorem p2203_ : Pm 2203 := pm_tri (n := 47) (by decide) (by decide) (by decide +kernel)
theorem p12497_ : Pm 12497 := pm_tri (n := 112) (by decide) (by decide) (by decide +kernel)
theorem p52673_ : Pm 52673 := pm_tri (n := 230) (by decide) (by decide) (by decide +kernel)
theorem p1896229_ : Pm 1896229 := pm_by 1896229 2 24 [(2, 2), (3, 2), (52673, 1)] (by
  simp only [List.mem_cons, List.not_mem_nil, or_false]; rintro x (rfl | rfl | rfl); all_goals first | exact p2_ | exact p3_ | exact p52673_) (by decide +kernel)
theorem p6939437_ : Pm 6939437 := pm_by 6939437 2 24 [(2, 2), (7, 1), (139, 1), (1783, 1)] (by
  simp only [List.mem_cons, List.not_mem_nil, or_false]; rintro x (rfl | rfl | rfl | rfl); all_goals first | exact p2_ | exact p7_ | exact p139_ | exact p1783_) (by decide +kernel)
theorem p55515497_ : Pm 55515497 := pm_by 55515497 3 32 [(2, 3), (6939437, 1)] (by
  simp only [List.mem_cons, List.not_mem_nil, or_false]; rintro x (rfl | rfl); all_goals first | exact p2_ | exact p6939437_) (by decide +kernel)
theorem p18533742247_ : Pm 18533742247 := pm_by 18533742247 6 40 [(2, 1), (3, 3), (181, 1), (1896229, 1)] (by
  simp only [List.mem_cons, List.not_mem_nil, or_false]; rintro x (rfl | rfl | rfl | rfl); all_goals first | exact p2_ | exact p3_ | exact p181_ | exact p1896229_) (by decide +kernel)
theorem p733803839347_ : Pm 733803839347 := pm_by 733803839347 2 40 [(2, 1), (3, 1), (2203, 1), (55515497, 1)] (by
  simp only [List.mem_cons, List.not_mem_nil, or_false]; rintro x (rfl | rfl | rfl | rfl); all_goals first | exact p2_ | exact p3_ | exact p2203_ | exact p55515497_) (by decide +kernel)
theorem p116503103764643_ : Pm 116503103764643 := pm_by 116503103764643 2 48 [(2, 1), (7, 1), (449, 1), (18533742247, 1)] (by
  simp only [List.mem_cons, List.not_mem_nil, or_false]; rintro x (rfl | rfl | rfl | rfl); all_goals first | exact p2_ | exact p7_ | exact p449_ | exact p18533742247_) (by decide +kernel)
/-- The one prime that parts 2^128 + 1. -/
theorem pA : Pm 59649589127497217 := pm_by 59649589127497217 3 60 [(2, 9), (116503103764643, 1)] (by
  simp only [List.mem_cons, List.not_mem_nil, or_false]; rintro x (rfl | rfl); all_goals first | exact p2_ | exact p116503103764643_) (by decide +kernel)
/-- The other one. -/
theorem pB : Pm 5704689200685129054721 := pm_by 5704689200685129054721 21 80 [(2, 9), (3, 5), (5, 1), (12497, 1), (733803839347, 1)] (by
  simp only [List.mem_cons, List.not_mem_nil, or_false]; rintro x (rfl | rfl | rfl | rfl | rfl); all_goals first | exact p2_ | exact p3_ | exact p5_ | exact p12497_ | exact p733803839347_) (by decide +kernel)
end Go.Proofs.YtemgoikghaiamaaDoor.G
/-
  The rule of xoshiro256**: a polynomial of degree 256 that nothing parts; x to no number of steps from 1 to 2^128 leaves 1 by it. Plain mathematics; nothing of the program.
-/
namespace Go.Proofs.YtemgoikghaiamaaDoor.G
set_option linter.unusedVariables false

/-- The rule. -/
def rP : Nat := 115798716538066420455068828734077908777090750648323562404903972173143537152001
theorem rP_len : len rP = 257 := by decide +kernel
theorem rP_ne : rP ≠ 0 := by decide
/-- A number is reckoned out before it goes on. -/
def frc (a : Nat) (f : Nat → Nat) : Nat := match a with
  | 0 => f 0
  | k + 1 => f (k + 1)
theorem frc_eq (a : Nat) (f : Nat → Nat) : frc a f = f a := by cases a <;> rfl
/-- A product, from the highest bit on. -/
def clq (a b : Nat) : Nat → Nat → Nat
  | 0, c => c
  | n + 1, c => frc (2 * c ^^^ (if b.testBit n then a else 0)) (clq a b n)
theorem clq_eq (a b : Nat) : ∀ n c, clq a b n c = c * 2 ^ n ^^^ clm a (b % 2 ^ n) := by
  intro n
  induction n with
  | zero => intro c; rw [Nat.pow_zero, Nat.mod_one, clm_zero, Nat.mul_one, Nat.xor_zero]; rfl
  | succ n ih =>
    intro c
    rw [clq, frc_eq, ih, parts_step, xor_shift, show 2 * c * 2 ^ n = c * 2 ^ (n + 1) from by rw [Nat.pow_succ, Nat.mul_comm 2 c, Nat.mul_assoc, Nat.mul_comm 2]]
    by_cases h : b.testBit n = true
    · rw [if_pos h, if_pos h, Nat.xor_assoc, Nat.xor_comm (a * 2 ^ n)]
    · rw [if_neg h, if_neg h, Nat.zero_mul, Nat.xor_zero]
theorem clq_clm {a b n : Nat} (h : b < 2 ^ n) : clq a b n 0 = clm a b := by rw [clq_eq, Nat.zero_mul, Nat.zero_xor, Nat.mod_eq_of_lt h]
/-- What is above x^256, one bit after the other, is put down by the rule. -/
def red : Nat → Nat → Nat
  | 0, a => a
  | n + 1, a => frc (if a.testBit (256 + n) then a ^^^ rP * 2 ^ n else a) (red n)
theorem red_rt : ∀ n a, a < 2 ^ (256 + n) → red n a < 2 ^ 256 ∧ rt (red n a) rP = rt a rP := by
  intro n
  induction n with
  | zero => intro a h; exact ⟨h, rfl⟩
  | succ n ih =>
    intro a h
    rw [red, frc_eq]
    by_cases b : a.testBit (256 + n) = true
    · rw [if_pos b]
      have l1 : len (rP * 2 ^ n) = 256 + n + 1 := by rw [len_mul_pow rP_ne, rP_len]; omega
      have h0 : a ≠ 0 := fun e => by subst e; simp at b
      have l2 : len a = 256 + n + 1 := by
        have := len_le h
        rcases Nat.lt_or_ge (len a) (256 + n + 1) with q | q
        · rw [len_bit_out (by omega)] at b; cases b
        · omega
      have l3 := len_xor_top (a := a) (b := rP * 2 ^ n) (by omega) h0
      have := ih (a ^^^ rP * 2 ^ n) (Nat.lt_of_lt_of_le (len_lt _) (Nat.pow_le_pow_right (by decide) (by omega)))
      refine ⟨this.1, ?_⟩
      rw [this.2, rt_xor rP_ne]
      have z : rt (rP * 2 ^ n) rP = 0 := by rw [← clm_pow]; exact rt_mul_left _ rP_ne
      rw [z, Nat.xor_zero]
    · rw [if_neg b]
      refine ih a ?_
      have l2 : len a ≤ 256 + n := by
        rcases Nat.lt_or_ge (256 + n) (len a) with q | q
        · exfalso
          have l3 := len_le h
          have h0 : a ≠ 0 := fun e => by subst e; rw [len_zero] at q; omega
          have := len_bit h0
          rw [show len a - 1 = 256 + n from by omega] at this
          exact b this
        · exact q
      exact Nat.lt_of_lt_of_le (len_lt _) (Nat.pow_le_pow_right (by decide) l2)
/-- A square, as a rest by the rule. -/
def sqm (a : Nat) : Nat := frc (clq a a 256 0) (red 256)
theorem sqm_eq {a : Nat} (h : a < 2 ^ 256) : sqm a < 2 ^ 256 ∧ sqm a = rt (clm a a) rP := by
  have e := clq_clm (a := a) h
  have l := clm_lt h h
  obtain ⟨r1, r2⟩ := red_rt 256 (clm a a) l
  unfold sqm
  rw [frc_eq, e]
  refine ⟨r1, ?_⟩
  rw [← r2, rt_small]
  have := len_le r1
  rw [rP_len]; omega
theorem dbl {a k m : Nat} (hm : m = k + 1) (h : a < 2 ^ k) : 2 * a < 2 ^ m := by subst hm; rw [Nat.pow_succ]; omega
theorem red_rt' {n m a : Nat} (hm : m = 256 + n) (h : a < 2 ^ m) : red n a < 2 ^ 256 ∧ rt (red n a) rP = rt a rP := by subst hm; exact red_rt n a h
/-- So many squares. -/
def sqs : Nat → Nat → Nat
  | 0, a => a
  | n + 1, a => frc (sqm a) (sqs n)
theorem sqs_eq : ∀ n a, a < 2 ^ 256 → sqs n a = pr a (2 ^ n) rP := by
  intro n
  induction n with
  | zero => intro a h; rw [Nat.pow_zero, pr_1, rt_small]; rfl
            have := len_le h; rw [rP_len]; omega
  | succ n ih =>
    intro a h
    obtain ⟨l, e⟩ := sqm_eq h
    rw [sqs, frc_eq, ih _ l, e, show rt (clm a a) rP = pr a 2 rP from by unfold pr; rw [pw_2], Nat.pow_succ, Nat.mul_comm, pr_mul rP_ne]
/-- x to a power, as a rest by the rule. -/
def xpw : Nat → Nat → Nat
  | 0, _ => 1
  | f + 1, e => frc (xpw f (e / 2)) (fun h => if e % 2 = 1 then frc (2 * sqm h) (red 1) else sqm h)
theorem xpw_eq : ∀ f e, e < 2 ^ f → xpw f e < 2 ^ 256 ∧ xpw f e = pr 2 e rP := by
  intro f
  induction f with
  | zero => intro e h; obtain rfl : e = 0 := by simpa using h
            refine ⟨by decide, ?_⟩
            rw [pr_zero, rt_small (by rw [rP_len]; decide)]; rfl
  | succ f ih =>
    intro e h
    rw [Nat.pow_succ] at h
    obtain ⟨l, i⟩ := ih (e / 2) (by omega)
    obtain ⟨l2, s⟩ := sqm_eq l
    have s2 : sqm (xpw f (e / 2)) = pr 2 (2 * (e / 2)) rP := by rw [s, i, ← pr_even rP_ne]
    simp only [xpw, frc_eq]
    generalize sqm (xpw f (e / 2)) = q at l2 s2
    by_cases o : e % 2 = 1
    · rw [if_pos o]
      obtain ⟨m, hm⟩ : ∃ m, m = 257 := ⟨_, rfl⟩
      obtain ⟨r1, r2⟩ := red_rt' (n := 1) (m := m) hm (dbl (k := 256) hm l2)
      refine ⟨r1, ?_⟩
      have c : clm q 2 = 2 * q := by have := clm_pow q 1; simpa [Nat.mul_comm] using this
      have e2 : e = 2 * (e / 2) + 1 := by omega
      conv => rhs; rw [e2, pr_succ rP_ne, ← s2, c]
      rw [← r2, rt_small]
      have := len_le r1; rw [rP_len]; omega
    · rw [if_neg o]
      refine ⟨l2, ?_⟩
      rw [s2, show 2 * (e / 2) = e from by omega]
theorem far : sqs 256 2 = 2 := by decide +kernel
theorem half : sqs 128 2 = 26085483466146683437729584433416940748010083220905283300336438352164092185274 := by decide +kernel
theorem bez : clq (26085483466146683437729584433416940748010083220905283300336438352164092185274 ^^^ 2) 95841287395213113800978365656531203746689852800771273869572845219438777930315 256 0 ^^^ clq 7904977278690462091150650901452089283527090215837152806590961252340231595017 rP 257 0 = 1 := by decide +kernel
theorem notA : xpw 256 (115792089237316195423570985008687907853269984665640564039457584007913129639935 / 59649589127497217) ≠ 1 := by decide +kernel
theorem notB : xpw 256 (115792089237316195423570985008687907853269984665640564039457584007913129639935 / 5704689200685129054721) ≠ 1 := by decide +kernel
end Go.Proofs.YtemgoikghaiamaaDoor.G
/-
  Nothing parts the rule of xoshiro256**, and x to no number of steps from 1 to 2^128 leaves 1 by it. Plain mathematics; nothing of the program.
-/
namespace Go.Proofs.YtemgoikghaiamaaDoor.G
set_option linter.unusedVariables false

/-- What differences stay within, greatest parts stay within. -/
theorem sub_gcd (S : Nat → Prop) (hs : ∀ m n, m ≤ n → S m → S n → S (n - m)) : ∀ m n, S m → S n → S (Nat.gcd m n) := by
  have md : ∀ m, 0 < m → ∀ n, S m → S n → S (n % m) := by
    intro m hm n
    induction n using Nat.strongRecOn with
    | _ n ih =>
      intro a b
      by_cases h : n < m
      · rw [Nat.mod_eq_of_lt h]; exact b
      · rw [Nat.mod_eq_sub_mod (by omega)]
        exact ih (n - m) (by omega) a (hs m n (by omega) a b)
  intro m n
  induction m, n using Nat.gcd.induction with
  | H0 n => intro _ b; rw [Nat.gcd_zero_left]; exact b
  | H1 m n h ih => intro a b; rw [Nat.gcd_rec]; exact ih (md m h n a b) a
theorem dv_pw {f a : Nat} (hf : Irr f) : ∀ n, Dv f (pw a n) → Dv f a := by
  intro n
  induction n with
  | zero => intro d; rw [pw_zero] at d; have a := dv_len d (by decide); have b := hf.1; rw [len_one] at a; omega
  | succ n ih => intro d; rw [pw_succ] at d
                 rcases euclid hf d with e | e
                 · exact ih e
                 · exact e
/-- x to 2^m is x again, by f. -/
def Fx (f m : Nat) : Prop := Dv f (pw 2 (2 ^ m) ^^^ 2)
theorem fx_sub {f : Nat} (hf : Irr f) (m n : Nat) (h : m ≤ n) (a : Fx f m) (b : Fx f n) : Fx f (n - m) := by
  refine dv_pw hf (2 ^ m) ?_
  rw [pw_frob, ← pw_mul, ← Nat.pow_add, show n - m + m = n from by omega]
  have := dv_xor b a
  rwa [xor4, Nat.xor_self, Nat.xor_zero] at this
theorem fx_mul {f m : Nat} (h0 : f ≠ 0) (a : Fx f m) : ∀ j, Fx f (m * j) := by
  intro j
  induction j with
  | zero => show Dv f (pw 2 (2 ^ (m * 0)) ^^^ 2)
            rw [Nat.mul_zero, Nat.pow_zero, pw_1, Nat.xor_self]; exact dv_zero f
  | succ j ih =>
    have := frob_all h0 a (pw 2 (2 ^ (m * j)))
    rw [← pw_mul, ← Nat.pow_add] at this
    have e := dv_xor this ih
    rw [Nat.xor_assoc, ← Nat.xor_assoc (pw 2 (2 ^ (m * j))), Nat.xor_self, Nat.zero_xor] at e
    exact e
theorem fx_deg {f g : Nat} (hf : Irr f) (g0 : 1 ≤ g) (h : Fx f g) : len f - 1 ≤ g := by
  have all := frob_all hf.ne h
  obtain ⟨n, hn⟩ : ∃ n, 2 ^ g = n + 2 := ⟨2 ^ g - 2, by
    have : 2 ^ 1 ≤ 2 ^ g := Nat.pow_le_pow_right (by decide) g0
    omega⟩
  have := mp_roots hf (n + 2) (fun y => pw y (n + 2) ^^^ y) (mp_frob n) (List.range (2 ^ (len f - 1))) List.nodup_range (fun y hy => by
    have := List.mem_range.1 hy
    have l := hf.1
    refine ⟨by have := len_bd this; omega, ?_⟩
    have := all y
    rw [hn] at this
    exact this)
  rw [List.length_range, ← hn] at this
  exact (Nat.pow_le_pow_iff_right (a := 2) (by decide)).1 this
theorem far_pr : pr 2 (2 ^ 256) rP = 2 := by rw [← sqs_eq 256 2 (by decide)]; exact far
theorem far_dv : Dv rP (pw 2 (2 ^ 256) ^^^ 2) := by
  refine (dv_rt rP_ne).2 ((rt_eq_iff rP_ne).1 ?_)
  have e := far_pr
  unfold pr at e
  rw [e, rt_small]
  rw [rP_len]; decide
theorem d128 : ∀ k, k ≤ 128 → k ∣ 256 → k ∣ 128 := by decide
/-- Nothing parts the rule. -/
theorem rP_irr : Irr rP := Classical.byContradiction fun n => by
  obtain ⟨s, ds, l1, l2⟩ := small_part (by rw [rP_len]; decide) n
  have s0 : s ≠ 0 := by intro e; subst e; rw [len_zero] at l1; omega
  obtain ⟨f, hf, df⟩ := irr_part _ s (Nat.le_refl _) l1
  have lf := dv_len df s0
  have f1 := hf.1
  have f0 := hf.ne
  have dp := dv_trans df ds
  rw [rP_len] at l2
  have a : Fx f 256 := dv_trans dp far_dv
  have b : Fx f (len f - 1) := by
    refine (dv_rt f0).2 ((rt_eq_iff f0).1 ?_)
    exact fermat2 hf 2
  have g := sub_gcd (Fx f) (fun m n h x y => fx_sub hf m n h x y) (len f - 1) 256 b a
  have g1 := Nat.gcd_dvd_left (len f - 1) 256
  have g2 := Nat.gcd_dvd_right (len f - 1) 256
  have gp : 0 < Nat.gcd (len f - 1) 256 := Nat.gcd_pos_of_pos_right _ (by decide)
  have k := fx_deg hf gp g
  have k2 := Nat.le_of_dvd (by omega) g1
  have ke : Nat.gcd (len f - 1) 256 = len f - 1 := by omega
  rw [ke] at g2
  obtain ⟨j, hj⟩ := d128 _ (by omega) g2
  have c := fx_mul f0 b j
  rw [← hj] at c
  have e := half
  rw [sqs_eq 128 2 (by decide)] at e
  have z := (rt_eq_iff f0).2 ((dv_rt f0).1 c)
  unfold pr at e
  have z2 := rt_part (a := pw 2 (2 ^ 128)) f0 rP_ne dp
  rw [e, z] at z2
  have z3 := (dv_rt f0).2 ((rt_eq_iff f0).1 z2)
  have bz := bez
  rw [clq_clm (by decide), clq_clm (by decide +kernel)] at bz
  have one : Dv f 1 := by
    rw [← bz]
    exact dv_xor (dv_mul_right _ z3) (dv_mul _ dp)
  have := dv_len one (by decide)
  rw [len_one] at this
  omega
/-- x to e is 1, by the rule. -/
def Gx (e : Nat) : Prop := Dv rP (pw 2 e ^^^ 1)
theorem two_not : ¬ Dv rP 2 := not_dv (by decide) (by rw [rP_len]; decide)
theorem gx_sub (a b : Nat) (h : a ≤ b) (ha : Gx a) (hb : Gx b) : Gx (b - a) := by
  have e := dv_xor hb ha
  rw [xor4, Nat.xor_self, Nat.xor_zero] at e
  have : pw 2 b ^^^ pw 2 a = clm (pw 2 a) (pw 2 (b - a) ^^^ 1) := by
    rw [clm_xor, clm_one, ← pw_add, show a + (b - a) = b from by omega]
  rw [this] at e
  rcases euclid rP_irr e with d | d
  · exact absurd (dv_pw rP_irr a d) two_not
  · exact d
theorem gx_mul {a : Nat} (h : Gx a) : ∀ j, Gx (a * j) := by
  intro j
  induction j with
  | zero => show Dv rP (pw 2 (a * 0) ^^^ 1)
            rw [Nat.mul_zero, pw_zero, Nat.xor_self]; exact dv_zero _
  | succ j ih =>
    show Dv rP (pw 2 (a * j + a) ^^^ 1)
    have e := dv_xor (dv_mul (pw 2 (a * j)) h) ih
    rw [clm_xor, clm_one, Nat.xor_assoc, ← Nat.xor_assoc (pw 2 (a * j)), Nat.xor_self, Nat.zero_xor, ← pw_add] at e
    exact e
/-- How many steps there are one way round. -/
def rN : Nat := 115792089237316195423570985008687907853269984665640564039457584007913129639935
theorem rN_eq : 2 ^ 256 = rN + 1 := by decide +kernel
theorem gx_all : Gx rN := by
  have e := far_dv
  rw [rN_eq, pw_succ] at e
  have : clm (pw 2 rN) 2 ^^^ 2 = clm (pw 2 rN ^^^ 1) 2 := by rw [clm_xor_left, clm_one_left]
  rw [this] at e
  rcases euclid rP_irr e with d | d
  · exact d
  · exact absurd d two_not
theorem gx_one {e : Nat} (h : Gx e) : pr 2 e rP = 1 := by
  have := (rt_eq_iff rP_ne).2 ((dv_rt rP_ne).1 h)
  rw [rt_small (a := 1) (by rw [rP_len, len_one]; decide)] at this
  exact this
theorem part_of {p g c : Nat} (hp : Pm p) (hN : rN = p * c) (hx : ¬ Gx c) (hg : Gx g) (hd : g ∣ rN) : p ∣ g := by
  rcases hp.2 _ (Nat.gcd_dvd_left p g) with e | e
  · exfalso
    rw [hN] at hd
    have : g ∣ c := Nat.Coprime.dvd_of_dvd_mul_left (by rw [Nat.Coprime, Nat.gcd_comm]; exact e) hd
    obtain ⟨j, rfl⟩ := this
    exact hx (gx_mul hg j)
  · rw [← e]; exact Nat.gcd_dvd_right p g
theorem notGA : ¬ Gx (rN / 59649589127497217) := fun x => by
  have e := gx_one x
  have l : rN / 59649589127497217 < 2 ^ 256 := by decide +kernel
  rw [← (xpw_eq 256 _ l).2] at e
  unfold rN at e
  exact notA e
theorem notGB : ¬ Gx (rN / 5704689200685129054721) := fun x => by
  have e := gx_one x
  have l : rN / 5704689200685129054721 < 2 ^ 256 := by decide +kernel
  rw [← (xpw_eq 256 _ l).2] at e
  unfold rN at e
  exact notB e
/-- No number of steps from 1 to 2^128 leaves 1. -/
theorem rP_order {k : Nat} (h0 : 0 < k) (hk : k ≤ 340282366920938463463374607431768211456) (h : Gx k) : False := by
  have g := sub_gcd Gx gx_sub k rN h gx_all
  have g1 := Nat.gcd_dvd_left k rN
  have g2 := Nat.gcd_dvd_right k rN
  have gp : 0 < Nat.gcd k rN := Nat.gcd_pos_of_pos_left _ h0
  have k2 := Nat.le_of_dvd h0 g1
  generalize Nat.gcd k rN = d at g g1 g2 gp k2
  have hA := part_of pA (c := rN / 59649589127497217) (by decide +kernel) notGA g g2
  have hB := part_of pB (c := rN / 5704689200685129054721) (by decide +kernel) notGB g g2
  have co : Nat.Coprime 59649589127497217 5704689200685129054721 := by decide +kernel
  have z := Nat.le_trans (Nat.le_of_dvd gp (Nat.Coprime.mul_dvd_of_dvd_of_dvd co hA hB)) (Nat.le_trans k2 hk)
  exact absurd z (by decide +kernel)
end Go.Proofs.YtemgoikghaiamaaDoor.G
/-
  States of xoshiro256** as numbers of 256 bits: a polynomial of a state; the rule tells all 0; distinct numbers of steps up to 2^128 lead to distinct states. Plain mathematics; nothing of the program.
-/
namespace Go.Proofs.YtemgoikghaiamaaDoor.G
set_option linter.unusedVariables false

/-- The four words of a state. -/
def wd (i s : Nat) : Nat := s / 2 ^ (64 * i) % 18446744073709551616
/-- Four words as one number. -/
def pk (a b c d : Nat) : Nat := a ^^^ b * 2 ^ 64 ^^^ (c * 2 ^ 128 ^^^ d * 2 ^ 192)
/-- A word that is turned by 45. -/
def rot45 (x : Nat) : Nat := x * 2 ^ 45 % 18446744073709551616 ^^^ x / 2 ^ 19
/-- The next state. -/
def nxt (a b c d : Nat) : Nat := pk (a ^^^ (d ^^^ b)) (b ^^^ (c ^^^ a)) (c ^^^ a ^^^ b * 2 ^ 17 % 18446744073709551616) (rot45 (d ^^^ b))
def stp (s : Nat) : Nat := nxt (wd 0 s) (wd 1 s) (wd 2 s) (wd 3 s)
theorem xor_mod64 (a b : Nat) : (a ^^^ b) % 18446744073709551616 = a % 18446744073709551616 ^^^ b % 18446744073709551616 := xor_mod a b 64
theorem wd_xor (i s t : Nat) : wd i (s ^^^ t) = wd i s ^^^ wd i t := by unfold wd; rw [xor_div, xor_mod64]
theorem rot45_xor (x y : Nat) : rot45 (x ^^^ y) = rot45 x ^^^ rot45 y := by
  unfold rot45; rw [xor_shift, xor_mod64, xor_div, xor4]
theorem pk_xor (a b c d a' b' c' d' : Nat) : pk (a ^^^ a') (b ^^^ b') (c ^^^ c') (d ^^^ d') = pk a b c d ^^^ pk a' b' c' d' := by
  unfold pk; rw [xor_shift, xor_shift, xor_shift, xor4 a a', xor4 (c * 2 ^ 128), xor4 (a ^^^ b * 2 ^ 64)]
theorem nxt_xor (a b c d a' b' c' d' : Nat) : nxt (a ^^^ a') (b ^^^ b') (c ^^^ c') (d ^^^ d') = nxt a b c d ^^^ nxt a' b' c' d' := by
  unfold nxt
  rw [xor4 d d' b b', xor4 c c' a a', xor4 a a', xor4 b b', xor_shift, xor_mod64, xor4 (c ^^^ a), rot45_xor, pk_xor]
theorem stp_xor (s t : Nat) : stp (s ^^^ t) = stp s ^^^ stp t := by
  unfold stp; simp only [wd_xor]; rw [nxt_xor]
theorem stp_zero : stp 0 = 0 := by decide +kernel
theorem wd_lt (i s : Nat) : wd i s < 2 ^ 64 := Nat.mod_lt _ (by decide)
theorem rot45_lt {x : Nat} (h : x < 2 ^ 64) : rot45 x < 2 ^ 64 := xor_lt (Nat.mod_lt _ (by decide)) (Nat.lt_of_le_of_lt (Nat.div_le_self _ _) h)
theorem sh_lt {a k m n : Nat} (h : a < 2 ^ k) (hm : k + n ≤ m) : a * 2 ^ n < 2 ^ m := by
  refine Nat.lt_of_lt_of_le ((Nat.mul_lt_mul_right (Nat.two_pow_pos n)).2 h) ?_
  rw [← Nat.pow_add]; exact Nat.pow_le_pow_right (by decide) hm
theorem pk_lt {a b c d : Nat} (ha : a < 2 ^ 64) (hb : b < 2 ^ 64) (hc : c < 2 ^ 64) (hd : d < 2 ^ 64) : pk a b c d < 2 ^ 256 :=
  xor_lt (xor_lt (Nat.lt_of_lt_of_le ha (Nat.pow_le_pow_right (by decide) (by decide))) (sh_lt hb (by decide))) (xor_lt (sh_lt hc (by decide)) (sh_lt hd (by decide)))
theorem nxt_lt {a b c d : Nat} (ha : a < 2 ^ 64) (hb : b < 2 ^ 64) (hc : c < 2 ^ 64) (hd : d < 2 ^ 64) : nxt a b c d < 2 ^ 256 :=
  pk_lt (xor_lt ha (xor_lt hd hb)) (xor_lt hb (xor_lt hc ha)) (xor_lt (xor_lt hc ha) (Nat.mod_lt _ (by decide))) (rot45_lt (xor_lt hd hb))
theorem stp_lt (s : Nat) : stp s < 2 ^ 256 := nxt_lt (wd_lt 0 s) (wd_lt 1 s) (wd_lt 2 s) (wd_lt 3 s)
/-- So many steps. -/
def itr : Nat → Nat → Nat
  | 0, s => s
  | n + 1, s => stp (itr n s)
theorem itr_succ' (n s : Nat) : itr (n + 1) s = itr n (stp s) := by
  induction n with
  | zero => rfl
  | succ n ih => rw [itr, ih]; rfl
theorem itr_add (m n s : Nat) : itr (m + n) s = itr m (itr n s) := by
  induction m with
  | zero => rw [Nat.zero_add]; rfl
  | succ m ih => rw [Nat.succ_add, itr, ih]; rfl
theorem itr_xor (n s t : Nat) : itr n (s ^^^ t) = itr n s ^^^ itr n t := by
  induction n with
  | zero => rfl
  | succ n ih => rw [itr, ih, stp_xor]; rfl
theorem itr_zero (n : Nat) : itr n 0 = 0 := by
  induction n with
  | zero => rfl
  | succ n ih => rw [itr, ih, stp_zero]
theorem itr_lt {s : Nat} (h : s < 2 ^ 256) : ∀ n, itr n s < 2 ^ 256
  | 0 => h
  | n + 1 => stp_lt _
/-- A polynomial's first n parts of a state. -/
def actN (p s : Nat) : Nat → Nat
  | 0 => 0
  | n + 1 => actN p s n ^^^ (if p.testBit n then itr n s else 0)
/-- A polynomial of a state. -/
def act (p s : Nat) : Nat := actN p s (len p)
theorem actN_more (p s : Nat) : ∀ n, len p ≤ n → actN p s n = act p s := by
  intro n h
  induction n with
  | zero => obtain e : len p = 0 := by omega
            unfold act; rw [e]
  | succ n ih =>
    by_cases e : len p = n + 1
    · unfold act; rw [e]
    · rw [actN, ih (by omega), len_bit_out (by omega), if_neg (by decide), Nat.xor_zero]
theorem actN_xor (p q s : Nat) : ∀ n, actN (p ^^^ q) s n = actN p s n ^^^ actN q s n := by
  intro n
  induction n with
  | zero => simp [actN]
  | succ n ih =>
    simp only [actN, ih, Nat.testBit_xor]
    rw [xor4]
    congr 1
    cases p.testBit n <;> cases q.testBit n <;> simp
theorem act_xor (p q s : Nat) : act (p ^^^ q) s = act p s ^^^ act q s := by
  have h := actN_xor p q s (max (len p) (len q))
  rwa [actN_more _ _ _ (len_xor_le p q _ (Nat.le_max_left _ _) (Nat.le_max_right _ _)), actN_more _ _ _ (Nat.le_max_left _ _), actN_more _ _ _ (Nat.le_max_right _ _)] at h
theorem actN_lin (p s t : Nat) : ∀ n, actN p (s ^^^ t) n = actN p s n ^^^ actN p t n := by
  intro n
  induction n with
  | zero => simp [actN]
  | succ n ih =>
    simp only [actN, ih]
    rw [xor4]
    congr 1
    cases p.testBit n <;> simp [itr_xor]
theorem act_lin (p s t : Nat) : act p (s ^^^ t) = act p s ^^^ act p t := actN_lin p s t _
theorem actN_zero (p : Nat) : ∀ n, actN p 0 n = 0 := by
  intro n
  induction n with
  | zero => rfl
  | succ n ih => rw [actN, ih, itr_zero]; simp
theorem act_zero (p : Nat) : act p 0 = 0 := actN_zero p _
theorem zero_act (s : Nat) : act 0 s = 0 := rfl
theorem actN_up (p s u : Nat) : ∀ n, actN (p * 2 ^ u) s (u + n) = actN p (itr u s) n := by
  have z : ∀ m, m ≤ u → actN (p * 2 ^ u) s m = 0 := by
    intro m hm
    induction m with
    | zero => rfl
    | succ m ih => rw [actN, ih (by omega), bit_shift, show decide (u ≤ m) = false from by simp; omega]; simp
  intro n
  induction n with
  | zero => rw [Nat.add_zero, z u (Nat.le_refl _)]; rfl
  | succ n ih =>
    rw [← Nat.add_assoc, actN, ih, actN, bit_shift, show decide (u ≤ u + n) = true from by simp, Nat.add_sub_cancel_left, ← itr_add, Nat.add_comm n u]; simp
theorem act_up (p s u : Nat) : act (p * 2 ^ u) s = act p (itr u s) := by
  by_cases h : p = 0
  · subst h; rw [Nat.zero_mul]; rfl
  · unfold act; rw [len_mul_pow h, Nat.add_comm, actN_up]
theorem act_clmN (p q s : Nat) : ∀ n, act (clm p (q % 2 ^ n)) s = act p (actN q s n) := by
  intro n
  induction n with
  | zero => rw [Nat.pow_zero, Nat.mod_one, clm_zero]; show _ = act p 0; rw [act_zero]; rfl
  | succ n ih =>
    rw [parts_step, actN]
    by_cases e : q.testBit n = true
    · rw [if_pos e, if_pos e, act_xor, ih, act_up, act_lin]
    · rw [if_neg e, if_neg e, ih, Nat.xor_zero]
theorem act_clm (p q s : Nat) : act (clm p q) s = act p (act q s) := by
  have h := act_clmN p q s (len q)
  rw [Nat.mod_eq_of_lt (len_lt q)] at h
  exact h
theorem act_one (s : Nat) : act 1 s = s := by
  show actN 1 s 1 = s
  rw [actN, actN]; simp [itr]
theorem act_two (s : Nat) : act 2 s = stp s := by
  have := act_up 1 s 1
  rw [act_one] at this
  exact this
theorem act_pw (s : Nat) : ∀ n, act (pw 2 n) s = itr n s := by
  intro n
  induction n with
  | zero => rw [pw_zero, act_one]; rfl
  | succ n ih => rw [pw_succ, clm_comm, act_clm, ih, act_two]; rfl

/-- The next state, reckoned out word by word. -/
def stpF (s : Nat) : Nat := frc (s % 18446744073709551616) fun a => frc (s / 18446744073709551616 % 18446744073709551616) fun b => frc (s / 340282366920938463463374607431768211456 % 18446744073709551616) fun c => frc (s / 6277101735386680763835789423207666416102355444464034512896 % 18446744073709551616) fun d => nxt a b c d
theorem stpF_eq (s : Nat) : stpF s = stp s := by
  unfold stpF stp wd
  simp only [frc_eq]
  rw [show (64 * 0) = 0 from rfl, Nat.pow_zero, Nat.div_one]
/-- A polynomial of a state, reckoned out part by part. -/
def actF (p : Nat) : Nat → Nat → Nat → Nat → Nat
  | 0, _, _, c => c
  | f + 1, k, s, c => frc (stpF s) fun s' => frc (if p.testBit k then c ^^^ s else c) fun c' => actF p f (k + 1) s' c'
theorem actF_eq (p s : Nat) : ∀ f k, actF p f k (itr k s) (actN p s k) = actN p s (k + f) := by
  intro f
  induction f with
  | zero => intro k; rfl
  | succ f ih =>
    intro k
    rw [actF, frc_eq, frc_eq, stpF_eq]
    have e : (if p.testBit k then actN p s k ^^^ itr k s else actN p s k) = actN p s (k + 1) := by
      rw [actN]; cases p.testBit k <;> simp
    rw [e, show stp (itr k s) = itr (k + 1) s from rfl, ih, Nat.add_assoc, Nat.add_comm 1 f]
def chk (i n : Nat) : Bool := (List.range n).all fun j => actF rP 257 0 (2 ^ (i + j)) 0 == 0
theorem chk0 : chk 0 16 = true := by decide +kernel
theorem chk1 : chk 16 16 = true := by decide +kernel
theorem chk2 : chk 32 16 = true := by decide +kernel
theorem chk3 : chk 48 16 = true := by decide +kernel
theorem chk4 : chk 64 16 = true := by decide +kernel
theorem chk5 : chk 80 16 = true := by decide +kernel
theorem chk6 : chk 96 16 = true := by decide +kernel
theorem chk7 : chk 112 16 = true := by decide +kernel
theorem chk8 : chk 128 16 = true := by decide +kernel
theorem chk9 : chk 144 16 = true := by decide +kernel
theorem chk10 : chk 160 16 = true := by decide +kernel
theorem chk11 : chk 176 16 = true := by decide +kernel
theorem chk12 : chk 192 16 = true := by decide +kernel
theorem chk13 : chk 208 16 = true := by decide +kernel
theorem chk14 : chk 224 16 = true := by decide +kernel
theorem chk15 : chk 240 16 = true := by decide +kernel
theorem chk_one {i n j : Nat} (h : chk i n = true) (hj : j < n) : act rP (2 ^ (i + j)) = 0 := by
  have := List.all_eq_true.1 h j (List.mem_range.2 hj)
  have e := actF_eq rP (2 ^ (i + j)) 257 0
  rw [Nat.zero_add, actN_more _ _ 257 (by rw [rP_len]; exact Nat.le_refl _)] at e
  rw [← e]
  show actF rP 257 0 (2 ^ (i + j)) 0 = 0
  simpa using this
theorem chk_all (i : Nat) (h : i < 256) : act rP (2 ^ i) = 0 := by
  by_cases h0 : i < 16
  · have := chk_one chk0 (show i - 0 < 16 by omega); rwa [show 0 + (i - 0) = i from by omega] at this
  by_cases h1 : i < 32
  · have := chk_one chk1 (show i - 16 < 16 by omega); rwa [show 16 + (i - 16) = i from by omega] at this
  by_cases h2 : i < 48
  · have := chk_one chk2 (show i - 32 < 16 by omega); rwa [show 32 + (i - 32) = i from by omega] at this
  by_cases h3 : i < 64
  · have := chk_one chk3 (show i - 48 < 16 by omega); rwa [show 48 + (i - 48) = i from by omega] at this
  by_cases h4 : i < 80
  · have := chk_one chk4 (show i - 64 < 16 by omega); rwa [show 64 + (i - 64) = i from by omega] at this
  by_cases h5 : i < 96
  · have := chk_one chk5 (show i - 80 < 16 by omega); rwa [show 80 + (i - 80) = i from by omega] at this
  by_cases h6 : i < 112
  · have := chk_one chk6 (show i - 96 < 16 by omega); rwa [show 96 + (i - 96) = i from by omega] at this
  by_cases h7 : i < 128
  · have := chk_one chk7 (show i - 112 < 16 by omega); rwa [show 112 + (i - 112) = i from by omega] at this
  by_cases h8 : i < 144
  · have := chk_one chk8 (show i - 128 < 16 by omega); rwa [show 128 + (i - 128) = i from by omega] at this
  by_cases h9 : i < 160
  · have := chk_one chk9 (show i - 144 < 16 by omega); rwa [show 144 + (i - 144) = i from by omega] at this
  by_cases h10 : i < 176
  · have := chk_one chk10 (show i - 160 < 16 by omega); rwa [show 160 + (i - 160) = i from by omega] at this
  by_cases h11 : i < 192
  · have := chk_one chk11 (show i - 176 < 16 by omega); rwa [show 176 + (i - 176) = i from by omega] at this
  by_cases h12 : i < 208
  · have := chk_one chk12 (show i - 192 < 16 by omega); rwa [show 192 + (i - 192) = i from by omega] at this
  by_cases h13 : i < 224
  · have := chk_one chk13 (show i - 208 < 16 by omega); rwa [show 208 + (i - 208) = i from by omega] at this
  by_cases h14 : i < 240
  · have := chk_one chk14 (show i - 224 < 16 by omega); rwa [show 224 + (i - 224) = i from by omega] at this
  by_cases h15 : i < 256
  · have := chk_one chk15 (show i - 240 < 16 by omega); rwa [show 240 + (i - 240) = i from by omega] at this
  omega
/-- Of each state the rule tells all 0. -/
theorem rule_all {s : Nat} (h : s < 2 ^ 256) : act rP s = 0 := by
  have key : ∀ n, n ≤ 256 → act rP (s % 2 ^ n) = 0 := by
    intro n
    induction n with
    | zero => intro _; rw [Nat.pow_zero, Nat.mod_one, act_zero]
    | succ n ih =>
      intro hn
      have e := parts_step 1 s n
      rw [clm_one_left, clm_one_left, Nat.one_mul] at e
      rw [e]
      by_cases b : s.testBit n = true
      · rw [if_pos b, act_lin, ih (by omega), chk_all n (by omega)]; rfl
      · rw [if_neg b]; exact ih (by omega)
  have := key 256 (Nat.le_refl _)
  rwa [Nat.mod_eq_of_lt h] at this
/-- A polynomial and its rest by the rule tell the same. -/
theorem act_rt {s : Nat} (h : s < 2 ^ 256) (p : Nat) : act (rt p rP) s = act p s := by
  have e := qr (a := p) rP_ne
  conv => rhs; rw [← e]
  rw [act_xor, act_clm, rule_all h, act_zero, Nat.zero_xor]
/-- A jump is so many steps. -/
theorem jump_steps {s : Nat} (h : s < 2 ^ 256) (n : Nat) : act (pr 2 n rP) s = itr n s := by
  unfold pr; rw [act_rt h, act_pw]
/-- What no part of the rule has tells a state that isn't 0 no 0. -/
theorem act_ne {s q : Nat} (h : s < 2 ^ 256) (hq : ¬ Dv rP q) (z : act q s = 0) : s = 0 := by
  rcases irr_gc rP_irr q with g | g
  · have e := (iv_facts rP_ne g).1
    rw [rt_small (a := 1) (by rw [rP_len, len_one]; decide)] at e
    have a := act_rt h (clm q (iv q rP))
    rw [e, act_one, clm_comm, act_clm, z, act_zero] at a
    exact a
  · exact absurd g hq
/-- Distinct numbers of steps lead to distinct states. -/
theorem apart {s m n : Nat} (h : s < 2 ^ 256) (h0 : s ≠ 0) (hmn : m < n) (hn : n ≤ 340282366920938463463374607431768211456) : itr m s ≠ itr n s := fun e => by
  obtain ⟨k, rfl⟩ : ∃ k, n = m + k := ⟨n - m, by omega⟩
  refine h0 (act_ne h (q := clm (pw 2 m) (pw 2 k ^^^ 1)) (fun d => ?_) ?_)
  · rcases euclid rP_irr d with a | a
    · exact two_not (dv_pw rP_irr m a)
    · exact rP_order (by omega) (by omega) a
  · rw [act_clm, act_pw, act_xor, act_pw, act_one, itr_xor, ← itr_add, ← e, Nat.xor_self]
theorem itr_ne {s : Nat} (h : s < 2 ^ 256) (h0 : s ≠ 0) (n : Nat) : itr n s ≠ 0 := fun e => h0 (act_ne h (q := pw 2 n) (fun d => two_not (dv_pw rP_irr n d)) (by rw [act_pw, e]))
end Go.Proofs.YtemgoikghaiamaaDoor.G
