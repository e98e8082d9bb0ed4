/-
  What the calls of package mix answer: halves, unshift, Mix, Unmix, Step, Back, Word, Jump, for all numbers; and those of the document's answer.
-/
import Derived.Test.YteldmnjgjijocaaUnA
import Derived.Test.YteldmnjgjijocaaMixM
import Derived.Deep.LoopGhost
import Derived.BigQuiet
namespace Go.Proofs.Yteldmnjgjijocaa
open Go.RowKit G
set_option linter.unusedVariables false

/-- An answer that is one word; nothing is turned. -/
def AnsN (n : Nat) (w : World) (e : Ending) (w' : World) : Prop := e = .returned (.int .u64 (n : Int)) ∧ Below w.heap.size w w'
theorem mulI (x y : Nat) : IntKind.u64.wrap ((x : Int) * (y : Int)) = ((x * y % 18446744073709551616 : Nat) : Int) := by rw [IntKind.wrap_u64]; omega
theorem shI {k z : Nat} (h : z < 18446744073709551616) : bits .xor .u64 (z : Int) ((z : Int) / 2 ^ k) = ((sh k z : Nat) : Int) := by
  rw [div_int, xor_int _ _ h (Nat.lt_of_le_of_lt (Nat.div_le_self _ _) h)]; rfl

theorem half1I {z : Nat} (h : z < 18446744073709551616) : IntKind.u64.wrap (bits .xor .u64 (z : Int) ((z : Int) / 1073741824) * 13787848793156543929) = ((half1 z : Nat) : Int) := by
  have := shI (k := 30) h
  rw [show ((2 : Int) ^ 30) = 1073741824 from by decide] at this
  rw [this]
  exact mulI _ 13787848793156543929
theorem half2I {z : Nat} (h : z < 18446744073709551616) : IntKind.u64.wrap (bits .xor .u64 (z : Int) ((z : Int) / 134217728) * 10723151780598845931) = ((half2 z : Nat) : Int) := by
  have := shI (k := 27) h
  rw [show ((2 : Int) ^ 27) = 134217728 from by decide] at this
  rw [this]
  exact mulI _ 10723151780598845931
theorem lastI {z : Nat} (h : z < 18446744073709551616) : bits .xor .u64 (z : Int) ((z : Int) / 2147483648) = ((sh 31 z : Nat) : Int) := by
  have := shI (k := 31) h
  rw [show ((2 : Int) ^ 31) = 2147483648 from by decide] at this
  exact this
/-- What unshift tells. -/
def unN (k x : Nat) : Nat := un k x 3
theorem unN_sh {k x : Nat} (hk : 16 ≤ k) (h : x < 18446744073709551616) : sh k (unN k x) = x := by
  refine un_done 3 (Nat.div_eq_of_lt (Nat.lt_of_lt_of_le h ?_))
  exact Nat.le_trans (show 18446744073709551616 ≤ 2 ^ 64 from Nat.le_refl _) (Nat.pow_le_pow_right (by decide) (by omega))
theorem unN_is {k x z : Nat} (hk : 16 ≤ k) (h : x < 18446744073709551616) (e : sh k z = x) : unN k x = z   := sh_inj (k := k) (by omega) (by rw [unN_sh hk h, e])
theorem unN_lt (k : Nat) {x : Nat} (h : x < 18446744073709551616) : unN k x < 18446744073709551616 := un_lt h 3

theorem cStep (s : Nat) (w : World) : Calls Try.prog 15 #[.int .u64 s] w (fun e w' => e = .returned (.int .u64 ((stepN s : Nat) : Int)) ∧ w' = w) := by
  go_enter Try.func15, Try.ntmps15
  go_wp2
  go_ret
  refine ⟨?_, rfl⟩
  show Ending.returned (.int .u64 _) = _
  rw [IntKind.wrap_u64]; rfl
theorem cHalves (w : World) : Calls Try.prog 22 #[] w (fun e w' => e = .returned (.agg #[.int .i64 30, .int .u64 13787848793156543929, .int .u64 10871156337175269513, .int .i64 27, .int .u64 10723151780598845931, .int .u64 3573116690164977347]) ∧ Below w.heap.size w w') := by
  go_enter Try.func22, Try.ntmps22
  go_wp2
  go_returns
  exact ⟨rfl, below_allocs _ _⟩
theorem cUnshift (x k : Nat) (h : x < 18446744073709551616) (k0 : 20 < k) (k1 : k < 64) (w : World) : Calls Try.prog 23 #[.int .u64 x, .int .i64 k] w (fun e w' => e = .returned (.int .u64 ((unN k x : Nat) : Int)) ∧ w' = w) := by
  go_enter Try.func23, Try.ntmps23
  go_wp2
  go_step3
  go_wp2
  go_step3
  go_wp2
  go_loopg [5, 6] 4 (fun g z p wr => ∃ j : Nat, j + g = 4 ∧ z = .int .u64 ((un k x j : Nat) : Int) ∧ p = .int .u64 ((x / 2 ^ (k * j) : Nat) : Int) ∧ wr = w)
  case atStart => exact ⟨0, by omega, rfl, by simp, rfl⟩
  case round =>
    obtain ⟨j, hg, rfl, rfl, rfl⟩ := hrel
    have hP : x / 2 ^ (k * j) / 2 ^ k = x / 2 ^ (k * (j + 1)) := by rw [Nat.div_div_eq_div_mul, ← Nat.pow_add, Nat.mul_add k j 1, Nat.mul_one]
    generalize x / 2 ^ (k * j) = P at hP ⊢
    generalize hU : un k x j = U
    have HP := Lib.hid hP
    have HU := Lib.hid hU
    clear hP hU
    by_cases h0 : P / 2 ^ k = 0
    · have t0 : ((P : Int) / 2 ^ k == 0) = true := by rw [div_int, h0]; rfl
      have H0 := Lib.hid h0
      clear h0
      go_wp2
      rw [Exit.noGoto_ret]
      go_ret
      refine ⟨?_, rfl⟩
      show Ending.returned (.int .u64 _) = _
      rw [unN_is (by omega) h (z := U) (by rw [← HU.out]; exact un_done j (by rw [← HP.out]; exact H0.out))]
    · have t0 : ((P : Int) / 2 ^ k == 0) = false := by
        have : ((P / 2 ^ k : Nat) : Int) ≠ 0 := by omega
        rw [div_int]; simpa using this
      have H0 := Lib.hid h0
      clear h0
      have hj : j < 3 := by
        rcases Nat.lt_or_ge j 3 with h3 | h3
        · exact h3
        · exfalso
          apply H0.out
          rw [HP.out]
          refine Nat.div_eq_of_lt (Nat.lt_of_lt_of_le h ?_)
          refine Nat.le_trans (show 18446744073709551616 ≤ 2 ^ 64 from Nat.le_refl _) (Nat.pow_le_pow_right (by decide) ?_)
          exact Nat.le_trans (show 64 ≤ 21 * 4 by decide) (Nat.mul_le_mul (by omega) (by omega))
      go_wp2
      go_roundg (gk - 1)
      case measure => omega
      case rel =>
        have u : U < 18446744073709551616 := by rw [← HU.out]; exact un_lt h j
        have v : P / 2 ^ k < 18446744073709551616 := by rw [HP.out]; exact Nat.lt_of_le_of_lt (Nat.div_le_self _ _) h
        refine ⟨j + 1, by omega, ?_, ?_, rfl⟩
        · rw [div_int, xor_int _ _ u v, un, HU.out, HP.out]
        · rw [div_int, HP.out]

theorem cBack (s : Nat) (h : s < 18446744073709551616) (w : World) : Calls Try.prog 20 #[.int .u64 s] w (AnsN (backN s) w) := by
  go_enter Try.func20, Try.ntmps20
  go_wp2
  go_ret
  refine ⟨?_, Below.refl _ _⟩
  show Ending.returned (.int .u64 _) = _
  rw [IntKind.wrap_u64]
  have : ((s : Int) - 11400714819323198485) % 18446744073709551616 = ((backN s : Nat) : Int) := by unfold backN; omega
  rw [this]
theorem cJump (s : Nat) (h : s < 18446744073709551616) (a : Int) (l : Nat) (w : World) : Calls Try.prog 16 #[.int .u64 s, .agg #[.int .u64 a, .int .u64 l]] w (AnsN (jumpN s l) w) := by
  go_enter Try.func16, Try.ntmps16
  go_wp2
  go_ret
  refine ⟨?_, below_allocs _ _⟩
  show Ending.returned (.int .u64 _) = _
  rw [IntKind.wrap_u64, IntKind.wrap_u64]
  have : ((s : Int) + (l : Int) * 11400714819323198485 % 18446744073709551616) % 18446744073709551616 = ((jumpN s l : Nat) : Int) := by unfold jumpN; omega
  rw [this]

theorem idx0 (w : World) : Sem.run Try.prog (Instr.index 44 (.agg #[.int .i64 30, .int .u64 13787848793156543929, .int .u64 10871156337175269513, .int .i64 27, .int .u64 10723151780598845931, .int .u64 3573116690164977347]) (.int .i64 0)) w = .ok (.agg #[.int .i64 30, .int .u64 13787848793156543929, .int .u64 10871156337175269513]) w := by kernel_rfl
theorem idx1 (w : World) : Sem.run Try.prog (Instr.index 44 (.agg #[.int .i64 30, .int .u64 13787848793156543929, .int .u64 10871156337175269513, .int .i64 27, .int .u64 10723151780598845931, .int .u64 3573116690164977347]) (.int .i64 1)) w = .ok (.agg #[.int .i64 27, .int .u64 10723151780598845931, .int .u64 3573116690164977347]) w := by kernel_rfl
/-- The state of a mix behind so many of its halves. -/
def part (z j : Nat) : Nat := if j = 0 then z else if j = 1 then half1 z else half2 (half1 z)
theorem part_zero (z : Nat) : part z 0 = z := by unfold part; rw [if_pos rfl]
theorem part_one (z : Nat) : part z 1 = half1 z := by unfold part; rw [if_neg (by decide), if_pos rfl]
theorem part_two (z : Nat) : part z 2 = half2 (half1 z) := by unfold part; rw [if_neg (by decide), if_neg (by decide)]
theorem cMix (z : Nat) (h : z < 18446744073709551616) (w : World) : Calls Try.prog 12 #[.int .u64 z] w (AnsN (mixN z) w) := by
  go_enter Try.func12, Try.ntmps12
  go_wp2_with fail
  refine (cHalves _).mono ?_
  rintro e w1 ⟨rfl, hb⟩
  have HB := Lib.hid hb
  clear hb
  go_wp2
  go_loopg [0, 6] 2 (fun g z' i wr => ∃ j : Nat, j + g = 2 ∧ z' = .int .u64 ((part z j : Nat) : Int) ∧ i = .int .i64 j ∧ Below w.heap.size w wr)
  case atStart => exact ⟨0, by omega, by rw [part_zero], rfl, HB.out⟩
  case round =>
    obtain ⟨j, hg, rfl, rfl, hw⟩ := hrel
    have hj : j = 0 ∨ j = 1 ∨ j = 2 := by omega
    rcases hj with rfl | rfl | rfl
    · have q0 := idx0 wr
      have q1 := idx1 wr
      go_wp2
      go_region
      go_wp2
      go_roundg (gk - 1)
      case measure => omega
      case rel =>
        refine ⟨1, by omega, ?_, rfl, below_drewN' (below_alloc hw _) 1⟩
        show Value.int .u64 _ = _
        rw [part_zero, part_one, half1I h]
    · have q0 := idx0 wr
      have q1 := idx1 wr
      go_wp2
      go_region
      go_wp2
      go_roundg (gk - 1)
      case measure => omega
      case rel =>
        refine ⟨2, by omega, ?_, rfl, below_drewN' (below_alloc hw _) 1⟩
        show Value.int .u64 _ = _
        rw [part_one, part_two, half2I (half1_lt z)]
    · go_wp2
      go_ret
      refine ⟨?_, hw⟩
      show Ending.returned (.int .u64 _) = _
      rw [part_two, lastI (half2_lt (half1 z)), mixN]

theorem cWord (s : Nat) (h : s < 18446744073709551616) (w : World) : Calls Try.prog 14 #[.int .u64 s] w (AnsN (mixN (stepN s)) w) := by
  go_enter Try.func14, Try.ntmps14
  go_wp2_with fail
  refine (cStep s _).mono ?_
  rintro e w1 ⟨rfl, rfl⟩
  go_wp2_with fail
  refine (cMix _ (step_lt s) _).mono ?_
  rintro e w2 ⟨rfl, b2⟩
  have B2 := Lib.hid b2
  clear b2
  go_wp2
  go_ret
  exact ⟨rfl, B2.out⟩

def Turn (y x' z' : Int) (g : Nat) (u v : Value) : Prop := (g = 2 ∧ u = .int .u64 y ∧ v = .int .i64 1) ∨ (g = 1 ∧ u = .int .u64 x' ∧ v = .int .i64 0) ∨ (g = 0 ∧ u = .int .u64 z' ∧ v = .int .i64 (-1))
theorem cUnmix (x : Nat) (h : x < 18446744073709551616) (w : World) : Calls Try.prog 19 #[.int .u64 x] w (fun e w' => ∃ z : Nat, z < 18446744073709551616 ∧ mixN z = x ∧ AnsN z w e w') := by
  go_enter Try.func19, Try.ntmps19
  go_wp2_with fail
  refine (cHalves _).mono ?_
  rintro e w1 ⟨rfl, hb⟩
  have HB := Lib.hid hb
  clear hb
  go_wp2_with fail
  refine (cUnshift x 31 h (by decide) (by decide) _).mono ?_
  rintro e w2 ⟨rfl, rfl⟩
  go_wp2
  generalize hy : unN 31 x = y
  have hyl : y < 18446744073709551616 := by rw [← hy]; exact unN_lt 31 h
  have hy1 : sh 31 y = x := by rw [← hy]; exact unN_sh (by decide) h
  have HY := Lib.hid hy1
  clear hy hy1
  obtain ⟨B, hB⟩ : ∃ B, B = w1.heap.size := ⟨_, rfl⟩
  generalize hW : w1.alloc _ = W1
  have hc : Hid (∀ i, i < 6 → W1.cell? ⟨w1.heap.size, i, none⟩ = some ((#[.int .i64 30, .int .u64 13787848793156543929, .int .u64 10871156337175269513, .int .i64 27, .int .u64 10723151780598845931, .int .u64 3573116690164977347] : Array Value).getD i (.bool false))) := Lib.hid (by
    intro i hi
    rw [← hW]
    match i, hi with
    | 0, _ => simp
    | 1, _ => simp
    | 2, _ => simp
    | 3, _ => simp
    | 4, _ => simp
    | 5, _ => simp)
  have HA := Lib.hid (hW ▸ below_alloc HB.out _ : Below w.heap.size w W1)
  clear hW
  generalize hx : unN 27 (y * 3573116690164977347 % 18446744073709551616) = X
  have hxl : X < 18446744073709551616 := by rw [← hx]; exact unN_lt 27 (Nat.mod_lt _ (by decide))
  have hx1 : sh 27 X = y * 3573116690164977347 % 18446744073709551616 := by rw [← hx]; exact unN_sh (by decide) (Nat.mod_lt _ (by decide))
  generalize hz : unN 30 (X * 10871156337175269513 % 18446744073709551616) = Z
  have hzl : Z < 18446744073709551616 := by rw [← hz]; exact unN_lt 30 (Nat.mod_lt _ (by decide))
  have hz1 : sh 30 Z = X * 10871156337175269513 % 18446744073709551616 := by rw [← hz]; exact unN_sh (by decide) (Nat.mod_lt _ (by decide))
  have MX := Lib.hid (mix_of hyl hxl HY.out hx1 hz1)
  have C1 : Hid (∀ W : World, Calls Try.prog 23 #[.int .u64 (IntKind.u64.wrap ((y : Int) * 3573116690164977347)), .int .i64 27] W (fun e w' => e = .returned (.int .u64 (X : Int)) ∧ w' = W)) := Lib.hid (by
    intro W
    have := cUnshift (y * 3573116690164977347 % 18446744073709551616) 27 (Nat.mod_lt _ (by decide)) (by decide) (by decide) W
    rw [← mulI, hx] at this
    exact this)
  have C2 : Hid (∀ W : World, Calls Try.prog 23 #[.int .u64 (IntKind.u64.wrap ((X : Int) * 10871156337175269513)), .int .i64 30] W (fun e w' => e = .returned (.int .u64 (Z : Int)) ∧ w' = W)) := Lib.hid (by
    intro W
    have := cUnshift (X * 10871156337175269513 % 18446744073709551616) 30 (Nat.mod_lt _ (by decide)) (by decide) (by decide) W
    rw [← mulI, hz] at this
    exact this)
  clear hx hz hx1 hz1
  go_loopg [4, 5] 2 (fun g z' i wr => Turn y X Z g z' i ∧ ∃ n, wr = W1.drewN n)
  case atStart => exact ⟨Or.inl ⟨rfl, rfl, rfl⟩, 0, rfl⟩
  case round =>
    obtain ⟨ht, n, rfl⟩ := hrel
    have H3 : (W1.drewN n).cell? ⟨w1.heap.size, 3, none⟩ = some (.int .i64 27) := hc.out 3 (by decide)
    have H5 : (W1.drewN n).cell? ⟨w1.heap.size, 5, none⟩ = some (.int .u64 3573116690164977347) := hc.out 5 (by decide)
    have H0 : (W1.drewN n).cell? ⟨w1.heap.size, 0, none⟩ = some (.int .i64 30) := hc.out 0 (by decide)
    have H2 : (W1.drewN n).cell? ⟨w1.heap.size, 2, none⟩ = some (.int .u64 10871156337175269513) := hc.out 2 (by decide)
    generalize hV : W1.drewN n = V at H3 H5 H0 H2 ⊢
    have HV := Lib.hid hV
    clear hV
    rcases ht with ⟨rfl, rfl, rfl⟩ | ⟨rfl, rfl, rfl⟩ | ⟨rfl, rfl, rfl⟩
    · go_wp2
      go_quiet ((go_at_call 23; (with_reducible exact Calls.quiet_of_same (C1.out _))))
      go_wp2
      go_roundg 1
      case measure => omega
      case rel => exact ⟨Or.inr (Or.inl ⟨rfl, rfl, rfl⟩), n + nq, by rw [← HV.out, World.drewN_drewN]⟩
    · go_wp2
      go_quiet ((go_at_call 23; (with_reducible exact Calls.quiet_of_same (C2.out _))))
      go_wp2
      go_roundg 0
      case measure => omega
      case rel => exact ⟨Or.inr (Or.inr ⟨rfl, rfl, rfl⟩), n + nq, by rw [← HV.out, World.drewN_drewN]⟩
    · go_wp2
      go_ret
      exact ⟨Z, hzl, MX.out, rfl, by rw [← HV.out]; exact below_drewN' HA.out n⟩
theorem rStep (s : Nat) (w : World) : Calls Try.prog 10 #[.int .u64 s] w (fun e w' => e = .returned (.int .u64 ((stepN s : Nat) : Int)) ∧ w' = w) := by
  go_enter Try.func10, Try.ntmps10
  go_wp2
  go_ret
  refine ⟨?_, rfl⟩
  show Ending.returned (.int .u64 _) = _
  rw [IntKind.wrap_u64]; rfl
theorem rMix (z : Nat) (h : z < 18446744073709551616) (w : World) : Calls Try.prog 13 #[.int .u64 z] w (fun e w' => e = .returned (.int .u64 ((mixN z : Nat) : Int)) ∧ w' = w) := by
  have e1 := half1I h
  have e2 := half2I (half1_lt z)
  have e3 := lastI (half2_lt (half1 z))
  go_enter Try.func13, Try.ntmps13
  go_wp2
  go_ret
  refine ⟨?_, rfl⟩
  show Ending.returned (.int .u64 _) = _
  rw [mixN]
theorem rWord (s : Nat) (w : World) : Calls Try.prog 9 #[.int .u64 s] w (fun e w' => e = .returned (.int .u64 ((mixN (stepN s) : Nat) : Int)) ∧ w' = w) := by
  have q : IntKind.u64.wrap ((s : Int) + 11400714819323198485) = ((stepN s : Nat) : Int) := by rw [IntKind.wrap_u64]; rfl
  go_enter Try.func9, Try.ntmps9
  go_wp2_with fail
  refine (rMix _ (step_lt s) _).mono ?_
  rintro e w1 ⟨rfl, rfl⟩
  go_wp2
  go_ret
  exact ⟨rfl, rfl⟩
theorem rJump (s n : Nat) (h : s < 18446744073709551616) (hn : n ≤ 100000) (w : World) : Calls Try.prog 18 #[.int .u64 s, .int .i64 n] w (fun e w' => e = .returned (.int .u64 ((jumpN s n : Nat) : Int)) ∧ w' = w) := by
  rw [← iter_jump h]
  go_enter Try.func18, Try.ntmps18
  go_wp2
  go_loopg [0, 5] n (fun g z i wr => ∃ k : Nat, k + g = n ∧ z = .int .u64 ((iterN s k : Nat) : Int) ∧ i = .int .i64 k ∧ wr = w)
  case atStart => exact ⟨0, by omega, rfl, rfl, rfl⟩
  case round =>
    obtain ⟨k, hk, rfl, rfl, rfl⟩ := hrel
    by_cases hlt : k < n
    · have kl : (k : Int) < (n : Int) := by omega
      have k0 : (0 : Int) ≤ (k : Int) := by omega
      go_wp2_with fail
      refine (rStep _ _).mono ?_
      rintro e w1 ⟨rfl, rfl⟩
      go_wp2
      go_roundg (gk - 1)
      case measure => omega
      case rel => exact ⟨k + 1, by omega, rfl, by go_num, rfl⟩
    · obtain rfl : k = n := by omega
      have kl : ¬ (k : Int) < (k : Int) := by omega
      go_wp2
      go_ret
      exact ⟨rfl, rfl⟩
end Go.Proofs.Yteldmnjgjijocaa
