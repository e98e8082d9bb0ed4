/-
  Maps that take x to a x + c, many times, by a power of 2: which numbers of times lead to the same. Plain mathematics; nothing of the program.
-/
import Derived.Test.YthnmekieanndgaaGfpJa
namespace Go.Proofs.Ythnmekieanndgaa.A
set_option linter.unusedVariables false

/-- 1 and a and so on, so many. -/
def sg (a : Nat) : Nat → Nat
  | 0 => 0
  | n + 1 => sg a n * a + 1
theorem sg_add (a m n : Nat) : sg a (m + n) = sg a m * a ^ n + sg a n := by
  induction n with
  | zero => rw [Nat.pow_zero, Nat.mul_one, Nat.add_zero]; rfl
  | succ n ih => rw [← Nat.add_assoc, sg, ih, sg, Nat.pow_succ, Nat.add_mul, Nat.mul_assoc, Nat.add_assoc]
theorem sg_pow (b n : Nat) : (b + 1) ^ n = 1 + b * sg (b + 1) n := by
  induction n with
  | zero => rfl
  | succ n ih =>
    rw [Nat.pow_succ, ih, sg]
    generalize sg (b + 1) n = s
    grind
theorem sg_two (a k : Nat) : sg a (2 * k) = sg a k * (a ^ k + 1) := by
  rw [Nat.two_mul, sg_add, Nat.mul_add, Nat.mul_one]
theorem pow_mod4 {a : Nat} (h : a % 4 = 1) (n : Nat) : a ^ n % 4 = 1 := by
  induction n with
  | zero => rfl
  | succ n ih => rw [Nat.pow_succ, Nat.mul_mod, ih, h]
theorem pow_odd {a : Nat} (h : a % 2 = 1) (n : Nat) : a ^ n % 2 = 1 := by
  induction n with
  | zero => rfl
  | succ n ih => rw [Nat.pow_succ, Nat.mul_mod, ih, h]
theorem sg_odd {a : Nat} (h : a % 2 = 1) (n : Nat) : sg a n % 2 = n % 2 := by
  induction n with
  | zero => rfl
  | succ n ih => rw [sg, Nat.add_mod, Nat.mul_mod, ih, h, Nat.mul_one, Nat.mod_mod]; omega
theorem cop {x : Nat} (h : x % 2 = 1) (e : Nat) : Nat.Coprime (2 ^ e) x := by
  refine Nat.Coprime.pow_left e ?_
  rw [Nat.Coprime, Nat.gcd_rec, h]; rfl
/-- A power of 2 parts the sum just where it parts how many there are. -/
theorem sg_dvd {a : Nat} (h : a % 4 = 1) : ∀ e n, 2 ^ e ∣ sg a n ↔ 2 ^ e ∣ n := by
  have ho : a % 2 = 1 := by omega
  intro e
  induction e with
  | zero => intro n; rw [Nat.pow_zero]; exact ⟨fun _ => Nat.one_dvd _, fun _ => Nat.one_dvd _⟩
  | succ e ih =>
    intro n
    rcases Nat.mod_two_eq_zero_or_one n with z | z
    · obtain ⟨k, rfl⟩ : ∃ k, n = 2 * k := ⟨n / 2, by omega⟩
      obtain ⟨j, hj⟩ : ∃ j, a ^ k + 1 = 2 * (2 * j + 1) := ⟨(a ^ k - 1) / 4, by have := pow_mod4 h k; omega⟩
      rw [sg_two, hj, Nat.pow_succ, Nat.mul_comm (2 ^ e) 2, Nat.mul_left_comm, Nat.mul_dvd_mul_iff_left (by decide : 0 < 2), Nat.mul_dvd_mul_iff_left (by decide : 0 < 2)]
      rw [← ih k]
      exact ⟨fun d => Nat.Coprime.dvd_of_dvd_mul_right (cop (by omega) e) d, fun d => Nat.dvd_trans d (Nat.dvd_mul_right _ _)⟩
    · have o := sg_odd ho n
      have no : ∀ x, x % 2 = 1 → ¬ 2 ^ (e + 1) ∣ x := fun x hx d => by
        have : 2 ∣ x := Nat.dvd_trans (by rw [Nat.pow_succ]; exact Nat.dvd_mul_left _ _) d
        omega
      exact ⟨fun d => absurd d (no _ (by omega)), fun d => absurd d (no _ z)⟩
/-- The map, so many times: what x has become, not yet by the power of 2. -/
def aff (a c n x : Nat) : Nat := a ^ n * x + c * sg a n
theorem aff_zero (a c x : Nat) : aff a c 0 x = x := by unfold aff; rw [Nat.pow_zero, Nat.one_mul, sg, Nat.mul_zero, Nat.add_zero]
theorem aff_succ (a c n x : Nat) : aff a c (n + 1) x = a * aff a c n x + c := by
  unfold aff
  rw [Nat.pow_succ, sg, Nat.mul_add, Nat.mul_add, Nat.mul_one, Nat.mul_comm (a ^ n) a, Nat.mul_assoc, Nat.mul_comm (sg a n) a, Nat.mul_left_comm c a, Nat.add_assoc]
theorem aff_more (b c m k x : Nat) : aff (b + 1) c (m + k) x = aff (b + 1) c m x + (b + 1) ^ m * (sg (b + 1) k * (b * x + c)) := by
  unfold aff
  rw [Nat.pow_add, Nat.add_comm m k, sg_add, sg_pow b k]
  generalize (b + 1) ^ m = p
  generalize sg (b + 1) k = s
  generalize sg (b + 1) m = t
  grind
/-- Different numbers of times lead to the same just where their difference is parted by the power of 2. -/
theorem aff_same {a c : Nat} (e m k x : Nat) (h : a % 4 = 1) (hc : c % 2 = 1) : aff a c (m + k) x % 2 ^ e = aff a c m x % 2 ^ e ↔ 2 ^ e ∣ k := by
  obtain ⟨b, rfl⟩ : ∃ b, a = b + 1 := ⟨a - 1, by omega⟩
  have o1 := pow_odd (a := b + 1) (by omega) m
  have o2 : (b * x + c) % 2 = 1 := by
    have : b % 2 = 0 := by omega
    rw [Nat.add_mod, Nat.mul_mod, this, Nat.zero_mul, Nat.zero_mod, Nat.zero_add, Nat.mod_mod]; exact hc
  rw [aff_more, ← sg_dvd h e k]
  generalize aff (b + 1) c m x = y
  generalize (b + 1) ^ m = p at o1
  generalize b * x + c = q at o2
  generalize sg (b + 1) k = s
  have key : 2 ^ e ∣ p * (s * q) ↔ 2 ^ e ∣ s :=
    ⟨fun d => Nat.Coprime.dvd_of_dvd_mul_right (cop o2 e) (Nat.Coprime.dvd_of_dvd_mul_left (cop o1 e) d), fun d => Nat.dvd_trans (Nat.dvd_trans d (Nat.dvd_mul_right _ _)) (Nat.dvd_mul_left _ _)⟩
  rw [← key]
  constructor
  · intro z
    have := Nat.sub_mod_eq_zero_of_mod_eq z
    rw [Nat.add_sub_cancel_left] at this
    exact Nat.dvd_of_mod_eq_zero this
  · rintro ⟨j, hj⟩
    rw [hj, Nat.add_mul_mod_self_left]
/-- Two numbers of times below the power of 2 that lead to the same are one. -/
theorem aff_apart {a c : Nat} (e m n x : Nat) (h : a % 4 = 1) (hc : c % 2 = 1) (hm : m < 2 ^ e) (hn : n < 2 ^ e) (z : aff a c m x % 2 ^ e = aff a c n x % 2 ^ e) : m = n := by
  have aux : ∀ m n, m < n → n < 2 ^ e → aff a c m x % 2 ^ e = aff a c n x % 2 ^ e → False := fun m n hmn hn z => by
    obtain ⟨k, rfl⟩ : ∃ k, n = m + k := ⟨n - m, by omega⟩
    have := Nat.le_of_dvd (by omega) ((aff_same e m k x h hc).1 z.symm)
    omega
  rcases Nat.lt_trichotomy m n with l | l | l
  · exact (aux m n l hn z).elim
  · exact l
  · exact (aux n m l hm z.symm).elim
/-- A number of times counts by its rest alone. -/
theorem aff_rest {a c : Nat} (e n x : Nat) (h : a % 4 = 1) (hc : c % 2 = 1) : aff a c (n % 2 ^ e) x % 2 ^ e = aff a c n x % 2 ^ e := by
  have := (aff_same e (n % 2 ^ e) (2 ^ e * (n / 2 ^ e)) x h hc).2 (Nat.dvd_mul_right _ _)
  rw [Nat.mod_add_div] at this
  exact this.symm
/-- One behind the other. -/
theorem aff_add (a c m n x : Nat) : aff a c (m + n) x = aff a c m (aff a c n x) := by
  induction m with
  | zero => rw [Nat.zero_add, aff_zero]
  | succ m ih => rw [Nat.succ_add, aff_succ, ih, aff_succ]
end Go.Proofs.Ythnmekieanndgaa.A
/-
  Maps modulo 2^128 that multiply and add: one behind the other, powers, and what takes back. Plain mathematics; nothing of the program.
-/
namespace Go.Proofs.Ythnmekieanndgaa
set_option linter.unusedVariables false

/-- How many numbers of 128 bits there are. -/
abbrev Q : Nat := 340282366920938463463374607431768211456
structure Mp where
  A : Nat
  C : Nat
structure Mp.Ok (m : Mp) : Prop where
  a : m.A < Q
  c : m.C < Q
theorem Mp.same {m n : Mp} (a : m.A = n.A) (c : m.C = n.C) : m = n := by
  obtain ⟨x, y⟩ := m
  obtain ⟨u, v⟩ := n
  obtain rfl : x = u := a
  obtain rfl : y = v := c
  rfl
def Mp.one : Mp := ⟨1, 0⟩
def Mp.zero : Mp := ⟨0, 0⟩
theorem Mp.Ok.one : Mp.one.Ok := ⟨by decide, by decide⟩
theorem Mp.Ok.zero : Mp.zero.Ok := ⟨by decide, by decide⟩
def atM (m : Mp) (x : Nat) : Nat := (m.A * x + m.C) % Q
def thenM (m n : Mp) : Mp := ⟨m.A * n.A % Q, (n.A * m.C + n.C) % Q⟩
def powM (m : Mp) (n : Nat) : Mp := ⟨m.A ^ n % Q, m.C * A.sg m.A n % Q⟩
theorem atM_lt (m : Mp) (x : Nat) : atM m x < Q := Nat.mod_lt _ (by decide)
theorem thenM_ok (m n : Mp) : (thenM m n).Ok := ⟨Nat.mod_lt _ (by decide), Nat.mod_lt _ (by decide)⟩
theorem powM_ok (m : Mp) (n : Nat) : (powM m n).Ok := ⟨Nat.mod_lt _ (by decide), Nat.mod_lt _ (by decide)⟩
section
variable {q : Nat}
theorem mdl (a b c : Nat) : (a % q * b + c) % q = (a * b + c) % q := by rw [← Nat.mod_add_mod, Nat.mod_mul_mod, Nat.mod_add_mod]
theorem mdr (a b c : Nat) : (b * (a % q) + c) % q = (b * a + c) % q := by rw [Nat.mul_comm, mdl, Nat.mul_comm]
theorem mda (a b : Nat) : (a + b % q) % q = (a + b) % q := Nat.add_mod_mod _ _ _
end
theorem then_assoc (a b c : Mp) : thenM (thenM a b) c = thenM a (thenM b c) := by
  unfold thenM
  refine Mp.same ?_ ?_
  · show a.A * b.A % Q * c.A % Q = a.A * (b.A * c.A % Q) % Q
    rw [Nat.mod_mul_mod, Nat.mul_mod_mod, Nat.mul_assoc]
  · show (c.A * ((b.A * a.C + b.C) % Q) + c.C) % Q = (b.A * c.A % Q * a.C + (c.A * b.C + c.C) % Q) % Q
    rw [mdr, mdl, mda]
    congr 1
    grind
theorem at_then (a b : Mp) (x : Nat) : atM (thenM a b) x = atM b (atM a x) := by
  unfold atM thenM
  show (a.A * b.A % Q * x + (b.A * a.C + b.C) % Q) % Q = (b.A * ((a.A * x + a.C) % Q) + b.C) % Q
  rw [mdr, mdl, mda]
  congr 1
  grind
theorem then_one {a : Mp} (h : a.Ok) : thenM a Mp.one = a := by
  refine Mp.same ?_ ?_
  · show a.A * 1 % Q = a.A
    rw [Nat.mul_one, Nat.mod_eq_of_lt h.a]
  · show (1 * a.C + 0) % Q = a.C
    rw [Nat.one_mul, Nat.add_zero, Nat.mod_eq_of_lt h.c]
theorem one_then {a : Mp} (h : a.Ok) : thenM Mp.one a = a := by
  refine Mp.same ?_ ?_
  · show 1 * a.A % Q = a.A
    rw [Nat.one_mul, Nat.mod_eq_of_lt h.a]
  · show (a.A * 0 + a.C) % Q = a.C
    rw [Nat.mul_zero, Nat.zero_add, Nat.mod_eq_of_lt h.c]
theorem pow_zero (m : Mp) : powM m 0 = Mp.one := by
  refine Mp.same ?_ ?_
  · show m.A ^ 0 % Q = 1
    rw [Nat.pow_zero]
    rfl
  · show m.C * A.sg m.A 0 % Q = 0
    rw [show A.sg m.A 0 = 0 from rfl, Nat.mul_zero, Nat.zero_mod]
theorem pow_one {m : Mp} (h : m.Ok) : powM m 1 = m := by
  refine Mp.same ?_ ?_
  · show m.A ^ 1 % Q = m.A
    rw [Nat.pow_one, Nat.mod_eq_of_lt h.a]
  · show m.C * A.sg m.A 1 % Q = m.C
    rw [show A.sg m.A 1 = 0 * m.A + 1 from rfl, Nat.zero_mul, Nat.zero_add, Nat.mul_one, Nat.mod_eq_of_lt h.c]
theorem pow_add (m : Mp) (n k : Nat) : thenM (powM m n) (powM m k) = powM m (n + k) := by
  refine Mp.same ?_ ?_
  · show m.A ^ n % Q * (m.A ^ k % Q) % Q = m.A ^ (n + k) % Q
    rw [Nat.mod_mul_mod, Nat.mul_mod_mod, Nat.pow_add]
  · show (m.A ^ k % Q * (m.C * A.sg m.A n % Q) + m.C * A.sg m.A k % Q) % Q = m.C * A.sg m.A (n + k) % Q
    rw [mdl, mdr, mda, A.sg_add]
    congr 1
    grind
theorem pow_succ {m : Mp} (h : m.Ok) (n : Nat) : thenM (powM m n) m = powM m (n + 1) := by
  have := pow_add m n 1
  rwa [pow_one h] at this
theorem pow_pow (m : Mp) (n : Nat) : ∀ k, powM (powM m n) k = powM m (n * k)
  | 0 => by rw [pow_zero, Nat.mul_zero, pow_zero]
  | k + 1 => by rw [← pow_succ (powM_ok m n), pow_pow m n k, pow_add, Nat.mul_succ]
theorem pow_two (m : Mp) (n : Nat) : thenM (powM m n) (powM m n) = powM m (2 * n) := by rw [pow_add, Nat.two_mul]
/-- What makes a number 1: of an odd one there is one. -/
theorem one_pow_odd {n : Nat} (h : n % 2 = 1) : ∀ k, ∃ t, n ^ 2 ^ (k + 1) = 1 + 2 ^ (k + 3) * t
  | 0 => by
    obtain ⟨j, rfl⟩ : ∃ j, n = 2 * j + 1 := ⟨n / 2, by omega⟩
    rcases Nat.mod_two_eq_zero_or_one j with e | e
    · obtain ⟨i, rfl⟩ : ∃ i, j = 2 * i := ⟨j / 2, by omega⟩
      exact ⟨i * (2 * i + 1), by
        show (2 * (2 * i) + 1) ^ 2 ^ 1 = 1 + 2 ^ 3 * (i * (2 * i + 1))
        grind⟩
    · obtain ⟨i, rfl⟩ : ∃ i, j = 2 * i + 1 := ⟨j / 2, by omega⟩
      exact ⟨(i + 1) * (2 * i + 1), by
        show (2 * (2 * i + 1) + 1) ^ 2 ^ 1 = 1 + 2 ^ 3 * ((i + 1) * (2 * i + 1))
        grind⟩
  | k + 1 => by
    obtain ⟨t, e⟩ := one_pow_odd h k
    obtain ⟨u, hu⟩ : ∃ u, 2 ^ (k + 2) = u := ⟨_, rfl⟩
    refine ⟨t + u * (t * t), ?_⟩
    have p3 : 2 ^ (k + 3) = 2 * u := by rw [← hu, Nat.pow_succ, Nat.mul_comm]
    have p4 : 2 ^ (k + 1 + 3) = 4 * u := by rw [← hu, show k + 1 + 3 = k + 2 + 1 + 1 by omega, Nat.pow_succ, Nat.pow_succ, Nat.mul_assoc, Nat.mul_comm]
    rw [Nat.pow_succ 2 (k + 1), Nat.pow_mul, e, p3, p4]
    clear e hu p3 p4 h
    generalize hz : 2 * u * t = z
    have e2 : (1 + z) ^ 2 = 1 + 2 * z + z * z := by grind
    rw [e2, ← hz]
    grind
theorem inv_ex {n : Nat} (h : n % 2 = 1) : ∃ o, o < Q ∧ n * o % Q = 1 := by
  obtain ⟨t, e⟩ := one_pow_odd h 125
  generalize hx : 2 ^ (125 + 1) = x at e
  have x0 : 0 < x := by rw [← hx]; exact Nat.two_pow_pos _
  obtain ⟨y, rfl⟩ : ∃ y, x = y + 1 := ⟨x - 1, by omega⟩
  refine ⟨n ^ y % Q, Nat.mod_lt _ (by decide), ?_⟩
  rw [Nat.mul_mod_mod, Nat.mul_comm, ← Nat.pow_succ, e, show (2 : Nat) ^ (125 + 3) = Q by decide, Nat.add_mul_mod_self_left]
  decide
theorem inv_one {n o p : Nat} (ho : o < Q) (hp : p < Q) (e : n * o % Q = 1) (f : n * p % Q = 1) : o = p := by
  have h1 : o * n * p % Q = p := by rw [Nat.mul_comm o n, ← Nat.mod_mul_mod, e, Nat.one_mul, Nat.mod_eq_of_lt hp]
  have h2 : o * n * p % Q = o := by rw [Nat.mul_assoc, ← Nat.mul_mod_mod, f, Nat.mul_one, Nat.mod_eq_of_lt ho]
  rw [← h2, h1]
noncomputable def invQ (n : Nat) : Nat := Classical.epsilon fun o => o < Q ∧ n * o % Q = 1
theorem invQ_ok {n : Nat} (h : n % 2 = 1) : invQ n < Q ∧ n * invQ n % Q = 1 := Classical.epsilon_spec (inv_ex h)
theorem invQ_is {n o : Nat} (h : n % 2 = 1) (ho : o < Q) (e : n * o % Q = 1) : o = invQ n := inv_one ho (invQ_ok h).1 e (invQ_ok h).2
/-- What makes a number 0. -/
def negQ (x : Nat) : Nat := (Q - x % Q) % Q
theorem negQ_lt (x : Nat) : negQ x < Q := Nat.mod_lt _ (by decide)
theorem neg_ok (x : Nat) : (x + negQ x) % Q = 0 := by
  unfold negQ
  have l : x % Q < Q := Nat.mod_lt _ (by decide)
  have e := Nat.div_add_mod x Q
  rw [mda]
  generalize x % Q = r at l e ⊢
  generalize x / Q = d at e
  have : x + (Q - r) = Q * (d + 1) := by rw [Nat.mul_succ]; omega
  rw [this, Nat.mul_mod_right]
/-- What takes back. -/
noncomputable def invM (m : Mp) : Mp := ⟨invQ m.A, negQ (invQ m.A * m.C)⟩
theorem invM_ok {m : Mp} (h : m.A % 2 = 1) : (invM m).Ok := by
  constructor
  · exact (invQ_ok h).1
  · exact negQ_lt _
theorem invM_A (m : Mp) : (invM m).A = invQ m.A := rfl
theorem invM_C (m : Mp) : (invM m).C = negQ (invQ m.A * m.C) := rfl
theorem thenM_A (m n : Mp) : (thenM m n).A = m.A * n.A % Q := rfl
theorem thenM_C (m n : Mp) : (thenM m n).C = (n.A * m.C + n.C) % Q := rfl
theorem then_inv {m : Mp} (h : m.A % 2 = 1) : thenM m (invM m) = Mp.one := by
  refine Mp.same ?_ ?_
  · rw [thenM_A, invM_A, (invQ_ok h).2]; rfl
  · rw [thenM_C, invM_A, invM_C, neg_ok]; rfl
theorem inv_then {m : Mp} (h : m.A % 2 = 1) (k : m.Ok) : thenM (invM m) m = Mp.one := by
  refine Mp.same ?_ ?_
  · rw [thenM_A, invM_A, Nat.mul_comm, (invQ_ok h).2]; rfl
  · rw [thenM_C, invM_C]
    have e := (invQ_ok h).2
    have z := neg_ok (invQ m.A * m.C)
    generalize negQ (invQ m.A * m.C) = v at z ⊢
    generalize invQ m.A = o at e z ⊢
    have e2 : m.A * o * m.C % Q = m.C % Q := by rw [← Nat.mod_mul_mod, e, Nat.one_mul]
    rw [← mda, ← e2, mda, Nat.mul_assoc, ← Nat.mul_add, Nat.add_comm, ← Nat.mul_mod_mod, z, Nat.mul_zero, Nat.zero_mod]
    rfl
theorem at_one {x : Nat} (h : x < Q) : atM Mp.one x = x := by
  show (1 * x + 0) % Q = x
  rw [Nat.one_mul, Nat.add_zero, Nat.mod_eq_of_lt h]
theorem back_at {m : Mp} (h : m.A % 2 = 1) {x : Nat} (hx : x < Q) : atM (invM m) (atM m x) = x := by rw [← at_then, then_inv h, at_one hx]
theorem at_back {m : Mp} (h : m.A % 2 = 1) (k : m.Ok) {x : Nat} (hx : x < Q) : atM m (atM (invM m) x) = x := by rw [← at_then, inv_then h k, at_one hx]
end Go.Proofs.Ythnmekieanndgaa
/-
  How the document's answer finds what makes an odd number 1, bit by bit; and the power of a map, from the highest bit on. Plain mathematics.
-/
namespace Go.Proofs.Ythnmekieanndgaa
set_option linter.unusedVariables false

theorem at_diff (m : Mp) (h : m.Ok) : (atM m 1 + (Q - atM m 0)) % Q = m.A := by
  have h0 : atM m 0 = m.C := by
    show (m.A * 0 + m.C) % Q = m.C
    rw [Nat.mul_zero, Nat.zero_add, Nat.mod_eq_of_lt h.c]
  have h1 : atM m 1 = (m.A + m.C) % Q := by
    show (m.A * 1 + m.C) % Q = _
    rw [Nat.mul_one]
  rw [h0, h1, Nat.mod_add_mod]
  have := h.a
  have := h.c
  rw [show m.A + m.C + (Q - m.C) = m.A + Q by omega, Nat.add_mod_right, Nat.mod_eq_of_lt h.a]
/-- What makes n 1, its first bits alone. -/
def od1 (n : Nat) : Nat → Nat
  | 0 => 0
  | i + 1 => if n * od1 n i % Q / 2 ^ i % 2 = (if i = 0 then 1 else 0) then od1 n i else od1 n i + 2 ^ i
theorem bit_low {x i : Nat} (h : i < 128) : x % Q / 2 ^ i % 2 = x / 2 ^ i % 2 := by
  have e : Q = 2 ^ i * 2 ^ (128 - i) := by rw [← Nat.pow_add, show i + (128 - i) = 128 by omega]
  rw [e, Nat.mod_mul_right_div_self, show 128 - i = (127 - i) + 1 by omega, Nat.pow_succ, Nat.mod_mul_left_mod]
theorem od1_ok {n : Nat} (h : n % 2 = 1) : ∀ i, i ≤ 128 → od1 n i < 2 ^ i ∧ n * od1 n i % 2 ^ i = 1 % 2 ^ i
  | 0, _ => ⟨(by rw [Nat.pow_zero]; exact Nat.one_pos : od1 n 0 < 2 ^ 0), by rw [Nat.pow_zero, Nat.mod_one, Nat.mod_one]⟩
  | i + 1, hi => by
    obtain ⟨l, e⟩ := od1_ok h i (by omega)
    rw [od1, bit_low (by omega)]
    have p : 2 ^ (i + 1) = 2 * 2 ^ i := by rw [Nat.pow_succ, Nat.mul_comm]
    by_cases i0 : i = 0
    · subst i0
      rw [show od1 n 0 = 0 from rfl, if_pos rfl, if_neg (by rw [Nat.mul_zero]; decide)]
      refine ⟨by decide, ?_⟩
      show n * 1 % 2 = 1 % 2
      omega
    · rw [if_neg i0]
      generalize od1 n i = x at l e ⊢
      have one : 1 < 2 ^ i := by
        obtain ⟨j, rfl⟩ : ∃ j, i = j + 1 := ⟨i - 1, by omega⟩
        rw [Nat.pow_succ]
        have := Nat.two_pow_pos j
        omega
      rw [Nat.mod_eq_of_lt one] at e
      rw [p]
      generalize 2 ^ i = u at l e one ⊢
      have d := Nat.div_add_mod (n * x) u
      rw [e] at d
      have u2 : 1 % (2 * u) = 1 := Nat.mod_eq_of_lt (by omega)
      rw [u2]
      have b := Nat.mod_mul (x := n * x) (a := u) (b := 2)
      rw [Nat.mul_comm 2 u]
      split
      · rename_i z
        refine ⟨by omega, ?_⟩
        rw [b, e, z, Nat.mul_zero]
      · rename_i z
        refine ⟨by omega, ?_⟩
        have z1 : n * x / u % 2 = 1 := by omega
        have c : (n * x + n * u) / u = n * x / u + n := by rw [Nat.add_mul_div_right _ _ (by omega)]
        rw [Nat.mul_add, Nat.mod_mul, Nat.add_mul_mod_self_right, e, c, show (n * x / u + n) % 2 = 0 by omega, Nat.mul_zero]
theorem od1_inv {n : Nat} (h : n % 2 = 1) : od1 n 128 = invQ n := by
  obtain ⟨l, e⟩ := od1_ok h 128 (Nat.le_refl _)
  exact invQ_is h (by rw [show Q = 2 ^ 128 from rfl]; exact l) (by rw [show Q = 2 ^ 128 from rfl, e])
/-- The power of a map, from the highest bit on. -/
theorem pow_down {m : Mp} (h : m.Ok) (n i : Nat) : powM m (n / 2 ^ i) = if n / 2 ^ i % 2 = 1 then thenM (thenM (powM m (n / 2 ^ (i + 1))) (powM m (n / 2 ^ (i + 1)))) m else thenM (powM m (n / 2 ^ (i + 1))) (powM m (n / 2 ^ (i + 1))) := by
  have e : n / 2 ^ (i + 1) = n / 2 ^ i / 2 := by rw [Nat.pow_succ, Nat.div_div_eq_div_mul]
  rw [e, pow_two]
  generalize n / 2 ^ i = k
  split
  · rename_i z
    rw [pow_succ h, show 2 * (k / 2) + 1 = k by omega]
  · rw [show 2 * (k / 2) = k by omega]
end Go.Proofs.Ythnmekieanndgaa
/-
  PCG64-DXSM: states as two numbers of 128 bits, steps both ways, jumps: they add up modulo 2^128, and distinct ones lead apart. Plain mathematics; nothing of the program.
-/
namespace Go.Proofs.Ythnmekieanndgaa
set_option linter.unusedVariables false

structure Ps where
  S : Nat
  I : Nat
structure Ps.Ok (s : Ps) : Prop where
  a : s.S < Q
  c : s.I < Q
theorem Ps.same {s t : Ps} (a : s.S = t.S) (c : s.I = t.I) : s = t := by
  obtain ⟨x, y⟩ := s
  obtain ⟨u, v⟩ := t
  obtain rfl : x = u := a
  obtain rfl : y = v := c
  rfl
def Ps.zero : Ps := ⟨0, 0⟩
/-- The factor. -/
abbrev fac : Nat := 15750249268501108917
theorem fac_is : fac = 0xDA942042E4DD58B5 := rfl
def mapP (s : Ps) : Mp := ⟨fac, s.I⟩
theorem mapP_ok {s : Ps} (h : s.Ok) : (mapP s).Ok := ⟨(by decide : fac < Q), h.c⟩
theorem mapP_odd (s : Ps) : (mapP s).A % 2 = 1 := (by decide : fac % 2 = 1)
def stepP (s : Ps) : Ps := ⟨atM (mapP s) s.S, s.I⟩
noncomputable def backP (s : Ps) : Ps := ⟨atM (invM (mapP s)) s.S, s.I⟩
def jumpP (s : Ps) (n : Nat) : Ps := ⟨atM (powM (mapP s) n) s.S, s.I⟩
theorem stepP_ok {s : Ps} (h : s.Ok) : (stepP s).Ok := ⟨atM_lt _ _, h.c⟩
theorem backP_ok {s : Ps} (h : s.Ok) : (backP s).Ok := ⟨atM_lt _ _, h.c⟩
theorem jumpP_ok {s : Ps} (h : s.Ok) (n : Nat) : (jumpP s n).Ok := ⟨atM_lt _ _, h.c⟩
theorem mapP_step (s : Ps) : mapP (stepP s) = mapP s := rfl
theorem mapP_back (s : Ps) : mapP (backP s) = mapP s := rfl
theorem mapP_jump (s : Ps) (n : Nat) : mapP (jumpP s n) = mapP s := rfl
theorem back_step {s : Ps} (h : s.Ok) : backP (stepP s) = s := by
  refine Ps.same ?_ rfl
  show atM (invM (mapP (stepP s))) (atM (mapP s) s.S) = s.S
  rw [mapP_step]
  exact back_at (mapP_odd s) h.a
theorem step_back {s : Ps} (h : s.Ok) : stepP (backP s) = s := by
  refine Ps.same ?_ rfl
  show atM (mapP (backP s)) (atM (invM (mapP s)) s.S) = s.S
  rw [mapP_back]
  exact at_back (mapP_odd s) (mapP_ok h) h.a
theorem jump_add (s : Ps) (n k : Nat) : jumpP (jumpP s n) k = jumpP s (n + k) := by
  refine Ps.same ?_ rfl
  show atM (powM (mapP (jumpP s n)) k) (atM (powM (mapP s) n) s.S) = atM (powM (mapP s) (n + k)) s.S
  rw [mapP_jump, ← pow_add, at_then]
theorem jump_zero {s : Ps} (h : s.Ok) : jumpP s 0 = s := by
  refine Ps.same ?_ rfl
  show atM (powM (mapP s) 0) s.S = s.S
  rw [pow_zero, at_one h.a]
theorem jump_one {s : Ps} (h : s.Ok) : jumpP s 1 = stepP s := by
  refine Ps.same ?_ rfl
  show atM (powM (mapP s) 1) s.S = atM (mapP s) s.S
  rw [pow_one (mapP_ok h)]
/-- So many single steps. -/
def iterP (s : Ps) : Nat → Ps
  | 0 => s
  | n + 1 => stepP (iterP s n)
theorem iterP_ok {s : Ps} (h : s.Ok) : ∀ n, (iterP s n).Ok
  | 0 => h
  | n + 1 => stepP_ok (iterP_ok h n)
theorem iterP_jump {s : Ps} (h : s.Ok) : ∀ n, iterP s n = jumpP s n
  | 0 => (jump_zero h).symm
  | n + 1 => by
    show stepP (iterP s n) = jumpP s (n + 1)
    rw [iterP_jump h n, ← jump_one (jumpP_ok h n), jump_add]
theorem at_aff (m : Mp) (n x : Nat) : atM (powM m n) x = A.aff m.A m.C n x % Q := by
  show (m.A ^ n % Q * x + m.C * A.sg m.A n % Q) % Q = (m.A ^ n * x + m.C * A.sg m.A n) % Q
  rw [mda, mdl]
theorem q_pow : Q = 2 ^ 128 := by decide
/-- Jumps count modulo 2^128, of a state that may be. -/
theorem jump_mod {s : Ps} (o : s.I % 2 = 1) (n : Nat) : jumpP s (n % Q) = jumpP s n := by
  refine Ps.same ?_ rfl
  show atM (powM (mapP s) (n % Q)) s.S = atM (powM (mapP s) n) s.S
  rw [at_aff, at_aff, q_pow]
  exact A.aff_rest 128 n s.S (by decide : fac % 4 = 1) o
theorem jump_apart {s : Ps} (o : s.I % 2 = 1) {n k : Nat} (hn : n < Q) (hk : k < Q) (e : jumpP s n = jumpP s k) : n = k := by
  have h : atM (powM (mapP s) n) s.S = atM (powM (mapP s) k) s.S := congrArg Ps.S e
  rw [at_aff, at_aff, q_pow] at h
  exact A.aff_apart 128 n k s.S (by decide : fac % 4 = 1) o (by rw [← q_pow]; exact hn) (by rw [← q_pow]; exact hk) h
end Go.Proofs.Ythnmekieanndgaa
