/-
  The statement's own walk: distinct numbers of steps below 2^64 lead to distinct states, with distinct words. For every state and two numbers.
-/
import Derived.Test.YteldmnjgjijocaaMixJ
namespace Go.Proofs.Yteldmnjgjijocaa
open Go.RowKit G
set_option linter.unusedVariables false

theorem ofWord (n : Nat) (h : n < 18446744073709551616) (w : World) : Calls Try.prog 17 #[.int .u64 (n : Int)] w (fun e w' => e = .returned (.agg #[.int .u64 0, .int .u64 (n : Int)]) ∧ Below w.heap.size w w') := by
  have := cOf n n rfl h w
  unfold AnsW hiW loW at this
  rw [Nat.div_eq_of_lt h, Nat.mod_eq_of_lt h] at this
  exact this
theorem step_inj {a b : Nat} (ha : a < 18446744073709551616) (hb : b < 18446744073709551616) (h : stepN a = stepN b) : a = b := by unfold stepN at h; omega
theorem eqNat (a b : Nat) : ((a : Int) == (b : Int)) = decide (a = b) := by
  by_cases h : a = b
  · subst h; simp
  · rw [decide_eq_false h]; simp; omega
set_option maxHeartbeats 1000000 in
theorem mixApart (s n m : Nat) (h : s < 18446744073709551616) (hn : n < 18446744073709551616) (hm : m < 18446744073709551616) (w : World) :
    Calls Try.prog 6 #[.int .u64 (s : Int), .int .u64 (n : Int), .int .u64 (m : Int)] w (Bl true w) := by
  have hB : Below w.heap.size w w := Below.refl _ _
  have J1 := Lib.hid (fun W => cJump s h 0 n W)
  have J2 := Lib.hid (fun W => cJump s h 0 m W)
  have W1 := Lib.hid (fun W => cWord (jumpN s n) (jump_lt _ _) W)
  have W2 := Lib.hid (fun W => cWord (jumpN s m) (jump_lt _ _) W)
  have q0 : ((n : Int) == (m : Int)) = decide (n = m) := eqNat n m
  have q1 : (((jumpN s n : Nat) : Int) == ((jumpN s m : Nat) : Int)) = decide (n = m) := by
    rw [eqNat]; exact decide_eq_decide.2 ⟨fun e => jump_inj hn hm e, fun e => by rw [e]⟩
  have q2 : (((mixN (stepN (jumpN s n)) : Nat) : Int) == ((mixN (stepN (jumpN s m)) : Nat) : Int)) = decide (n = m) := by
    rw [eqNat]; exact decide_eq_decide.2 ⟨fun e => jump_inj hn hm (step_inj (jump_lt _ _) (jump_lt _ _) (mix_inj (step_lt _) (step_lt _) e)), fun e => by rw [e]⟩
  generalize mixN (stepN (jumpN s n)) = X at W1 q2
  generalize mixN (stepN (jumpN s m)) = Y at W2 q2
  generalize jumpN s n = a at J1 W1 q1
  generalize jumpN s m = b at J2 W2 q1
  go_enter Try.func6, Try.ntmps6
  go_wp2_with fail
  refine (awake6 _).mono ?_
  rintro e w1 ⟨rfl, hb⟩
  replace hB := below_then hB hb
  clear hb
  go_wp2_with fail
  refine (ofWord n hn _).mono ?_
  rintro e w2 ⟨rfl, hb⟩
  replace hB := below_then hB hb
  clear hb
  go_wp2_with fail
  refine (J1.out _).mono ?_
  rintro e w3 ⟨rfl, hb⟩
  replace hB := below_then hB hb
  clear hb
  go_wp2_with fail
  refine (ofWord m hm _).mono ?_
  rintro e w4 ⟨rfl, hb⟩
  replace hB := below_then hB hb
  clear hb
  go_wp2_with fail
  refine (J2.out _).mono ?_
  rintro e w5 ⟨rfl, hb⟩
  replace hB := below_then hB hb
  clear hb
  go_wp2_with fail
  refine (W1.out _).mono ?_
  rintro e w6 ⟨rfl, hb⟩
  replace hB := below_then hB hb
  clear hb
  go_wp2_with fail
  refine (W2.out _).mono ?_
  rintro e w7 ⟨rfl, hb⟩
  replace hB := below_then hB hb
  clear hb
  go_wp2
  go_ret
  exact ⟨rfl, hB⟩
end Go.Proofs.Yteldmnjgjijocaa
