/-
  The mathematics of SplitMix64: a number and its shift, bit by bit, tell the number; a product by a number with an inverse tells the factor; so what is mixed tells what was mixed, and distinct numbers of steps below 2^64 lead to distinct states.
-/
import Derived.Test.YteldmnjgjijocaaGfpM
namespace Go.Proofs.Yteldmnjgjijocaa
open G
set_option linter.unusedVariables false

def sh (k z : Nat) : Nat := z ^^^ z / 2 ^ k
theorem xor_zero_eq {a b : Nat} (h : a ^^^ b = 0) : a = b := by
  have := congrArg (fun x => x ^^^ b) h
  simpa [Nat.xor_assoc, Nat.xor_self, Nat.xor_zero, Nat.zero_xor] using this
theorem sh_lt {k z : Nat} (h : z < 18446744073709551616) : sh k z < 18446744073709551616 :=
  Nat.xor_lt_two_pow (n := 64) h (Nat.lt_of_le_of_lt (Nat.div_le_self _ _) h)
theorem sh_inj {k a b : Nat} (hk : 0 < k) (h : sh k a = sh k b) : a = b := by
  unfold sh at h
  have e : (a ^^^ b) = (a ^^^ b) / 2 ^ k := by
    apply xor_zero_eq
    rw [xor_div]
    have := congrArg (fun x => x ^^^ (b ^^^ b / 2 ^ k)) h
    simp only [Nat.xor_self] at this
    rw [← this]
    rw [Nat.xor_assoc, Nat.xor_assoc, ← Nat.xor_assoc b, Nat.xor_comm b (a / 2 ^ k), Nat.xor_assoc (a / 2 ^ k)]
  have h2 : 1 < 2 ^ k := Nat.one_lt_two_pow (by omega)
  apply xor_zero_eq
  rcases Nat.eq_zero_or_pos (a ^^^ b) with h0 | h0
  · exact h0
  · have := Nat.div_lt_self h0 h2
    omega

/-- So many parts, put together. -/
def un (k w : Nat) : Nat → Nat
  | 0 => w
  | j + 1 => un k w j ^^^ w / 2 ^ (k * (j + 1))
theorem un_lt {k w : Nat} (h : w < 18446744073709551616) : ∀ j, un k w j < 18446744073709551616
  | 0 => h
  | j + 1 => Nat.xor_lt_two_pow (n := 64) (un_lt h j) (Nat.lt_of_le_of_lt (Nat.div_le_self _ _) h)
theorem un_sh (k w : Nat) : ∀ j, un k w j / 2 ^ k ^^^ w = un k w j ^^^ w / 2 ^ (k * (j + 1))
  | 0 => by simp only [un, Nat.zero_add, Nat.mul_one]; exact Nat.xor_comm _ _
  | j + 1 => by
    rw [un, xor_div, Nat.div_div_eq_div_mul, ← Nat.pow_add, show k * (j + 1) + k = k * (j + 1 + 1) from by rw [Nat.mul_add k (j + 1) 1, Nat.mul_one], Nat.xor_assoc, Nat.xor_comm _ w, ← Nat.xor_assoc, un_sh k w j]
theorem un_done {k w : Nat} (j : Nat) (h : w / 2 ^ (k * (j + 1)) = 0) : sh k (un k w j) = w := by
  have := un_sh k w j
  rw [h, Nat.xor_zero] at this
  unfold sh
  have e := congrArg (fun x => x ^^^ w) this
  simp only [Nat.xor_assoc, Nat.xor_self, Nat.xor_zero] at e
  rw [e, ← Nat.xor_assoc, Nat.xor_self, Nat.zero_xor]

theorem back_mul {x A B : Nat} (hx : x < 18446744073709551616) (h : A * B % 18446744073709551616 = 1) : x * A % 18446744073709551616 * B % 18446744073709551616 = x := by
  rw [Nat.mod_mul_mod, Nat.mul_assoc, Nat.mul_mod, h, Nat.mul_one, Nat.mod_mod, Nat.mod_eq_of_lt hx]
theorem mul_inj {x y A B : Nat} (hx : x < 18446744073709551616) (hy : y < 18446744073709551616) (h : A * B % 18446744073709551616 = 1) (e : x * A % 18446744073709551616 = y * A % 18446744073709551616) : x = y := by
  rw [← back_mul hx h, e, back_mul hy h]

def half1 (z : Nat) : Nat := sh 30 z * 13787848793156543929 % 18446744073709551616
def half2 (z : Nat) : Nat := sh 27 z * 10723151780598845931 % 18446744073709551616
def mixN (z : Nat) : Nat := sh 31 (half2 (half1 z))
theorem half1_lt (z : Nat) : half1 z < 18446744073709551616 := Nat.mod_lt _ (by decide)
theorem half2_lt (z : Nat) : half2 z < 18446744073709551616 := Nat.mod_lt _ (by decide)
theorem mix_lt (z : Nat) : mixN z < 18446744073709551616 := sh_lt (half2_lt _)
theorem inv1 : 13787848793156543929 * 10871156337175269513 % 18446744073709551616 = 1 := by decide
theorem inv1' : 10871156337175269513 * 13787848793156543929 % 18446744073709551616 = 1 := by decide
theorem inv2 : 10723151780598845931 * 3573116690164977347 % 18446744073709551616 = 1 := by decide
theorem inv2' : 3573116690164977347 * 10723151780598845931 % 18446744073709551616 = 1 := by decide
theorem invG : 11400714819323198485 * 17428512612931826493 % 18446744073709551616 = 1 := by decide
theorem mix_inj {a b : Nat} (ha : a < 18446744073709551616) (hb : b < 18446744073709551616) (h : mixN a = mixN b) : a = b := by
  have h1 := sh_inj (by decide) h
  have h2 := sh_inj (by decide) (mul_inj (sh_lt (half1_lt a)) (sh_lt (half1_lt b)) inv2 h1)
  exact sh_inj (by decide) (mul_inj (sh_lt ha) (sh_lt hb) inv1 h2)
theorem mix_of {w y x z : Nat} (hy : y < 18446744073709551616) (hx : x < 18446744073709551616) (e1 : sh 31 y = w) (e2 : sh 27 x = y * 3573116690164977347 % 18446744073709551616) (e3 : sh 30 z = x * 10871156337175269513 % 18446744073709551616) : mixN z = w := by
  unfold mixN half1 half2
  rw [e3, back_mul hx inv1', e2, back_mul hy inv2', e1]

def stepN (s : Nat) : Nat := (s + 11400714819323198485) % 18446744073709551616
def backN (s : Nat) : Nat := (s + 7046029254386353131) % 18446744073709551616
def jumpN (s l : Nat) : Nat := (s + l * 11400714819323198485) % 18446744073709551616
theorem step_lt (s : Nat) : stepN s < 18446744073709551616 := Nat.mod_lt _ (by decide)
theorem jump_lt (s l : Nat) : jumpN s l < 18446744073709551616 := Nat.mod_lt _ (by decide)
theorem back_step {s : Nat} (h : s < 18446744073709551616) : backN (stepN s) = s ∧ stepN (backN s) = s := by unfold backN stepN; omega
theorem jump_one (s : Nat) : jumpN s 1 = stepN s := by unfold jumpN stepN; rw [Nat.one_mul]
theorem jump_zero {s : Nat} (h : s < 18446744073709551616) : jumpN s 0 = s := by unfold jumpN; omega
theorem jump_add (s n m : Nat) : jumpN (jumpN s n) m = jumpN s ((n + m) % 18446744073709551616) := by
  unfold jumpN
  rw [Nat.mod_add_mod, Nat.add_assoc, ← Nat.add_mul, Nat.add_mod, Nat.mul_mod (n + m)]
  rw [Nat.add_mod s ((n + m) % 18446744073709551616 * _), Nat.mul_mod ((n + m) % 18446744073709551616), Nat.mod_mod]
theorem jump_step (s n : Nat) : jumpN s (n + 1) = stepN (jumpN s n) := by
  unfold jumpN stepN
  rw [Nat.mod_add_mod, Nat.add_mul, Nat.one_mul, Nat.add_assoc]
theorem add_out (s X Y : Nat) (h : (s + X) % 18446744073709551616 = (s + Y) % 18446744073709551616) : X % 18446744073709551616 = Y % 18446744073709551616 := by omega
theorem jump_inj {s n m : Nat} (hn : n < 18446744073709551616) (hm : m < 18446744073709551616) (h : jumpN s n = jumpN s m) : n = m := by
  refine mul_inj (A := 11400714819323198485) (B := 17428512612931826493) hn hm invG ?_
  exact add_out s _ _ h
def iterN (s : Nat) : Nat → Nat
  | 0 => s
  | n + 1 => stepN (iterN s n)
theorem iter_jump {s : Nat} (h : s < 18446744073709551616) : ∀ n, iterN s n = jumpN s n
  | 0 => (jump_zero h).symm
  | n + 1 => by rw [iterN, iter_jump h n, jump_step]
theorem iter_lt {s : Nat} (h : s < 18446744073709551616) (n : Nat) : iterN s n < 18446744073709551616 := by rw [iter_jump h]; exact jump_lt _ _
/-- So many words, from a state on. -/
def rowN (s : Nat) (n : Nat) : List Nat := (List.range n).map fun i => mixN (stepN (iterN s i))
theorem row_len (s n : Nat) : (rowN s n).length = n := by simp [rowN]
theorem row_wds (s n : Nat) : Wds (rowN s n) := by
  intro x hx
  obtain ⟨i, _, rfl⟩ := List.mem_map.1 hx
  exact mix_lt _
theorem row_succ (s n : Nat) : rowN s (n + 1) = rowN s n ++ [mixN (stepN (iterN s n))] := by simp [rowN, List.range_succ]
end Go.Proofs.Yteldmnjgjijocaa
