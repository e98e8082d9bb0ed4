/-
  Maps modulo 2^128 that multiply and add: one behind the other, powers, and what takes back. Plain mathematics; nothing of the program.
-/
import Derived.Test.YtfnfjfmkhnofkaaAfM
namespace Go.Proofs.Ytfnfjfmkhnofkaa
set_option linter.unusedVariables false

/-- How many numbers of 128 bits there are. -/
abbrev Q : Nat := 340282366920938463463374607431768211456
structure Mp where
  A : Nat
  C : Nat
structure Mp.Ok (m : Mp) : Prop where
  a : m.A < Q
  c : m.C < Q
theorem Mp.same {m n : Mp} (a : m.A = n.A) (c : m.C = n.C) : m = n := by
  obtain ⟨x, y⟩ := m
  obtain ⟨u, v⟩ := n
  obtain rfl : x = u := a
  obtain rfl : y = v := c
  rfl
def Mp.one : Mp := ⟨1, 0⟩
def Mp.zero : Mp := ⟨0, 0⟩
theorem Mp.Ok.one : Mp.one.Ok := ⟨by decide, by decide⟩
theorem Mp.Ok.zero : Mp.zero.Ok := ⟨by decide, by decide⟩
def atM (m : Mp) (x : Nat) : Nat := (m.A * x + m.C) % Q
def thenM (m n : Mp) : Mp := ⟨m.A * n.A % Q, (n.A * m.C + n.C) % Q⟩
def powM (m : Mp) (n : Nat) : Mp := ⟨m.A ^ n % Q, m.C * A.sg m.A n % Q⟩
theorem atM_lt (m : Mp) (x : Nat) : atM m x < Q := Nat.mod_lt _ (by decide)
theorem thenM_ok (m n : Mp) : (thenM m n).Ok := ⟨Nat.mod_lt _ (by decide), Nat.mod_lt _ (by decide)⟩
theorem powM_ok (m : Mp) (n : Nat) : (powM m n).Ok := ⟨Nat.mod_lt _ (by decide), Nat.mod_lt _ (by decide)⟩
section
variable {q : Nat}
theorem mdl (a b c : Nat) : (a % q * b + c) % q = (a * b + c) % q := by rw [← Nat.mod_add_mod, Nat.mod_mul_mod, Nat.mod_add_mod]
theorem mdr (a b c : Nat) : (b * (a % q) + c) % q = (b * a + c) % q := by rw [Nat.mul_comm, mdl, Nat.mul_comm]
theorem mda (a b : Nat) : (a + b % q) % q = (a + b) % q := Nat.add_mod_mod _ _ _
end
theorem then_assoc (a b c : Mp) : thenM (thenM a b) c = thenM a (thenM b c) := by
  unfold thenM
  refine Mp.same ?_ ?_
  · show a.A * b.A % Q * c.A % Q = a.A * (b.A * c.A % Q) % Q
    rw [Nat.mod_mul_mod, Nat.mul_mod_mod, Nat.mul_assoc]
  · show (c.A * ((b.A * a.C + b.C) % Q) + c.C) % Q = (b.A * c.A % Q * a.C + (c.A * b.C + c.C) % Q) % Q
    rw [mdr, mdl, mda]
    congr 1
    grind
theorem at_then (a b : Mp) (x : Nat) : atM (thenM a b) x = atM b (atM a x) := by
  unfold atM thenM
  show (a.A * b.A % Q * x + (b.A * a.C + b.C) % Q) % Q = (b.A * ((a.A * x + a.C) % Q) + b.C) % Q
  rw [mdr, mdl, mda]
  congr 1
  grind
theorem then_one {a : Mp} (h : a.Ok) : thenM a Mp.one = a := by
  refine Mp.same ?_ ?_
  · show a.A * 1 % Q = a.A
    rw [Nat.mul_one, Nat.mod_eq_of_lt h.a]
  · show (1 * a.C + 0) % Q = a.C
    rw [Nat.one_mul, Nat.add_zero, Nat.mod_eq_of_lt h.c]
theorem one_then {a : Mp} (h : a.Ok) : thenM Mp.one a = a := by
  refine Mp.same ?_ ?_
  · show 1 * a.A % Q = a.A
    rw [Nat.one_mul, Nat.mod_eq_of_lt h.a]
  · show (a.A * 0 + a.C) % Q = a.C
    rw [Nat.mul_zero, Nat.zero_add, Nat.mod_eq_of_lt h.c]
theorem pow_zero (m : Mp) : powM m 0 = Mp.one := by
  refine Mp.same ?_ ?_
  · show m.A ^ 0 % Q = 1
    rw [Nat.pow_zero]
    rfl
  · show m.C * A.sg m.A 0 % Q = 0
    rw [show A.sg m.A 0 = 0 from rfl, Nat.mul_zero, Nat.zero_mod]
theorem pow_one {m : Mp} (h : m.Ok) : powM m 1 = m := by
  refine Mp.same ?_ ?_
  · show m.A ^ 1 % Q = m.A
    rw [Nat.pow_one, Nat.mod_eq_of_lt h.a]
  · show m.C * A.sg m.A 1 % Q = m.C
    rw [show A.sg m.A 1 = 0 * m.A + 1 from rfl, Nat.zero_mul, Nat.zero_add, Nat.mul_one, Nat.mod_eq_of_lt h.c]
theorem pow_add (m : Mp) (n k : Nat) : thenM (powM m n) (powM m k) = powM m (n + k) := by
  refine Mp.same ?_ ?_
  · show m.A ^ n % Q * (m.A ^ k % Q) % Q = m.A ^ (n + k) % Q
    rw [Nat.mod_mul_mod, Nat.mul_mod_mod, Nat.pow_add]
  · show (m.A ^ k % Q * (m.C * A.sg m.A n % Q) + m.C * A.sg m.A k % Q) % Q = m.C * A.sg m.A (n + k) % Q
    rw [mdl, mdr, mda, A.sg_add]
    congr 1
    grind
theorem pow_succ {m : Mp} (h : m.Ok) (n : Nat) : thenM (powM m n) m = powM m (n + 1) := by
  have := pow_add m n 1
  rwa [pow_one h] at this
theorem pow_pow (m : Mp) (n : Nat) : ∀ k, powM (powM m n) k = powM m (n * k)
  | 0 => by rw [pow_zero, Nat.mul_zero, pow_zero]
  | k + 1 => by rw [← pow_succ (powM_ok m n), pow_pow m n k, pow_add, Nat.mul_succ]
theorem pow_two (m : Mp) (n : Nat) : thenM (powM m n) (powM m n) = powM m (2 * n) := by rw [pow_add, Nat.two_mul]
/-- What makes a number 1: of an odd one there is one. -/
theorem one_pow_odd {n : Nat} (h : n % 2 = 1) : ∀ k, ∃ t, n ^ 2 ^ (k + 1) = 1 + 2 ^ (k + 3) * t
  | 0 => by
    obtain ⟨j, rfl⟩ : ∃ j, n = 2 * j + 1 := ⟨n / 2, by omega⟩
    rcases Nat.mod_two_eq_zero_or_one j with e | e
    · obtain ⟨i, rfl⟩ : ∃ i, j = 2 * i := ⟨j / 2, by omega⟩
      exact ⟨i * (2 * i + 1), by
        show (2 * (2 * i) + 1) ^ 2 ^ 1 = 1 + 2 ^ 3 * (i * (2 * i + 1))
        grind⟩
    · obtain ⟨i, rfl⟩ : ∃ i, j = 2 * i + 1 := ⟨j / 2, by omega⟩
      exact ⟨(i + 1) * (2 * i + 1), by
        show (2 * (2 * i + 1) + 1) ^ 2 ^ 1 = 1 + 2 ^ 3 * ((i + 1) * (2 * i + 1))
        grind⟩
  | k + 1 => by
    obtain ⟨t, e⟩ := one_pow_odd h k
    obtain ⟨u, hu⟩ : ∃ u, 2 ^ (k + 2) = u := ⟨_, rfl⟩
    refine ⟨t + u * (t * t), ?_⟩
    have p3 : 2 ^ (k + 3) = 2 * u := by rw [← hu, Nat.pow_succ, Nat.mul_comm]
    have p4 : 2 ^ (k + 1 + 3) = 4 * u := by rw [← hu, show k + 1 + 3 = k + 2 + 1 + 1 by omega, Nat.pow_succ, Nat.pow_succ, Nat.mul_assoc, Nat.mul_comm]
    rw [Nat.pow_succ 2 (k + 1), Nat.pow_mul, e, p3, p4]
    clear e hu p3 p4 h
    generalize hz : 2 * u * t = z
    have e2 : (1 + z) ^ 2 = 1 + 2 * z + z * z := by grind
    rw [e2, ← hz]
    grind
theorem inv_ex {n : Nat} (h : n % 2 = 1) : ∃ o, o < Q ∧ n * o % Q = 1 := by
  obtain ⟨t, e⟩ := one_pow_odd h 125
  generalize hx : 2 ^ (125 + 1) = x at e
  have x0 : 0 < x := by rw [← hx]; exact Nat.two_pow_pos _
  obtain ⟨y, rfl⟩ : ∃ y, x = y + 1 := ⟨x - 1, by omega⟩
  refine ⟨n ^ y % Q, Nat.mod_lt _ (by decide), ?_⟩
  rw [Nat.mul_mod_mod, Nat.mul_comm, ← Nat.pow_succ, e, show (2 : Nat) ^ (125 + 3) = Q by decide, Nat.add_mul_mod_self_left]
  decide
theorem inv_one {n o p : Nat} (ho : o < Q) (hp : p < Q) (e : n * o % Q = 1) (f : n * p % Q = 1) : o = p := by
  have h1 : o * n * p % Q = p := by rw [Nat.mul_comm o n, ← Nat.mod_mul_mod, e, Nat.one_mul, Nat.mod_eq_of_lt hp]
  have h2 : o * n * p % Q = o := by rw [Nat.mul_assoc, ← Nat.mul_mod_mod, f, Nat.mul_one, Nat.mod_eq_of_lt ho]
  rw [← h2, h1]
noncomputable def invQ (n : Nat) : Nat := Classical.epsilon fun o => o < Q ∧ n * o % Q = 1
theorem invQ_ok {n : Nat} (h : n % 2 = 1) : invQ n < Q ∧ n * invQ n % Q = 1 := Classical.epsilon_spec (inv_ex h)
theorem invQ_is {n o : Nat} (h : n % 2 = 1) (ho : o < Q) (e : n * o % Q = 1) : o = invQ n := inv_one ho (invQ_ok h).1 e (invQ_ok h).2
/-- What makes a number 0. -/
def negQ (x : Nat) : Nat := (Q - x % Q) % Q
theorem negQ_lt (x : Nat) : negQ x < Q := Nat.mod_lt _ (by decide)
theorem neg_ok (x : Nat) : (x + negQ x) % Q = 0 := by
  unfold negQ
  have l : x % Q < Q := Nat.mod_lt _ (by decide)
  have e := Nat.div_add_mod x Q
  rw [mda]
  generalize x % Q = r at l e ⊢
  generalize x / Q = d at e
  have : x + (Q - r) = Q * (d + 1) := by rw [Nat.mul_succ]; omega
  rw [this, Nat.mul_mod_right]
/-- What takes back. -/
noncomputable def invM (m : Mp) : Mp := ⟨invQ m.A, negQ (invQ m.A * m.C)⟩
theorem invM_ok {m : Mp} (h : m.A % 2 = 1) : (invM m).Ok := by
  constructor
  · exact (invQ_ok h).1
  · exact negQ_lt _
theorem invM_A (m : Mp) : (invM m).A = invQ m.A := rfl
theorem invM_C (m : Mp) : (invM m).C = negQ (invQ m.A * m.C) := rfl
theorem thenM_A (m n : Mp) : (thenM m n).A = m.A * n.A % Q := rfl
theorem thenM_C (m n : Mp) : (thenM m n).C = (n.A * m.C + n.C) % Q := rfl
theorem then_inv {m : Mp} (h : m.A % 2 = 1) : thenM m (invM m) = Mp.one := by
  refine Mp.same ?_ ?_
  · rw [thenM_A, invM_A, (invQ_ok h).2]; rfl
  · rw [thenM_C, invM_A, invM_C, neg_ok]; rfl
theorem inv_then {m : Mp} (h : m.A % 2 = 1) (k : m.Ok) : thenM (invM m) m = Mp.one := by
  refine Mp.same ?_ ?_
  · rw [thenM_A, invM_A, Nat.mul_comm, (invQ_ok h).2]; rfl
  · rw [thenM_C, invM_C]
    have e := (invQ_ok h).2
    have z := neg_ok (invQ m.A * m.C)
    generalize negQ (invQ m.A * m.C) = v at z ⊢
    generalize invQ m.A = o at e z ⊢
    have e2 : m.A * o * m.C % Q = m.C % Q := by rw [← Nat.mod_mul_mod, e, Nat.one_mul]
    rw [← mda, ← e2, mda, Nat.mul_assoc, ← Nat.mul_add, Nat.add_comm, ← Nat.mul_mod_mod, z, Nat.mul_zero, Nat.zero_mod]
    rfl
theorem at_one {x : Nat} (h : x < Q) : atM Mp.one x = x := by
  show (1 * x + 0) % Q = x
  rw [Nat.one_mul, Nat.add_zero, Nat.mod_eq_of_lt h]
theorem back_at {m : Mp} (h : m.A % 2 = 1) {x : Nat} (hx : x < Q) : atM (invM m) (atM m x) = x := by rw [← at_then, then_inv h, at_one hx]
theorem at_back {m : Mp} (h : m.A % 2 = 1) (k : m.Ok) {x : Nat} (hx : x < Q) : atM m (atM (invM m) x) = x := by rw [← at_then, inv_then h k, at_one hx]
end Go.Proofs.Ytfnfjfmkhnofkaa
