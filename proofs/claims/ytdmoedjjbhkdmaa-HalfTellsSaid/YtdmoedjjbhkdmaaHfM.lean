/-
  Words of what philox counts: states as a number, a key and a half; steps both ways, jumps, blocks. Plain mathematics; nothing of the program.
-/
import Derived.Test.YtdmoedjjbhkdmaaPhM
namespace Go.Proofs.Ytdmoedjjbhkdmaa
set_option linter.unusedVariables false

structure Hs where
  C : Nat
  K : Ky
  s : Bool
structure Hs.Ok (x : Hs) : Prop where
  c : x.C < 340282366920938463463374607431768211456
  k : x.K.Ok
theorem Hs.same {x y : Hs} (h1 : x.C = y.C) (h2 : x.K = y.K) (h3 : x.s = y.s) : x = y := by
  obtain ⟨a, b, c⟩ := x
  obtain ⟨d, e, f⟩ := y
  obtain rfl : a = d := h1
  obtain rfl : b = e := h2
  obtain rfl : c = f := h3
  rfl
def Hs.zero : Hs := ⟨0, Ky.zero, false⟩
/-- Where a state stands: halves are counted. -/
def one (b : Bool) : Nat := if b then 1 else 0
def tick (x : Hs) : Nat := 2 * x.C + one x.s
def atT (K : Ky) (t : Nat) : Hs := ⟨t / 2, K, decide (t % 2 = 1)⟩
theorem one_lt (b : Bool) : one b < 2 := by cases b <;> decide
theorem tick_lt {x : Hs} (h : x.Ok) : tick x < 680564733841876926926749214863536422912 := by
  have := h.c
  have := one_lt x.s
  unfold tick
  omega
theorem tick_at (K : Ky) (t : Nat) : tick (atT K t) = t := by
  show 2 * (t / 2) + one (decide (t % 2 = 1)) = t
  by_cases h : t % 2 = 1
  · rw [decide_eq_true h]
    show 2 * (t / 2) + 1 = t
    omega
  · rw [decide_eq_false h]
    show 2 * (t / 2) + 0 = t
    omega
theorem at_tick (x : Hs) : atT x.K (tick x) = x := by
  obtain ⟨C, K, s⟩ := x
  cases s
  · refine Hs.same ?_ rfl ?_
    · show (2 * C + 0) / 2 = C
      omega
    · show decide ((2 * C + 0) % 2 = 1) = false
      exact decide_eq_false (by omega)
  · refine Hs.same ?_ rfl ?_
    · show (2 * C + 1) / 2 = C
      omega
    · show decide ((2 * C + 1) % 2 = 1) = true
      exact decide_eq_true (by omega)
theorem tick_same {x y : Hs} (k : x.K = y.K) (h : tick x = tick y) : x = y := by rw [← at_tick x, ← at_tick y, k, h]
theorem at_ok {K : Ky} {t : Nat} (k : K.Ok) (h : t < 680564733841876926926749214863536422912) : (atT K t).Ok := ⟨by show t / 2 < _; omega, k⟩
def stepH (x : Hs) : Hs := if x.s then ⟨(x.C + 1) % 340282366920938463463374607431768211456, x.K, false⟩ else ⟨x.C, x.K, true⟩
def backH (x : Hs) : Hs := if x.s then ⟨x.C, x.K, false⟩ else ⟨(x.C + 340282366920938463463374607431768211455) % 340282366920938463463374607431768211456, x.K, true⟩
def jumpH (x : Hs) (n : Nat) : Hs := atT x.K ((tick x + n) % 680564733841876926926749214863536422912)
theorem stepH_K (x : Hs) : (stepH x).K = x.K := by unfold stepH; split <;> rfl
theorem backH_K (x : Hs) : (backH x).K = x.K := by unfold backH; split <;> rfl
theorem jumpH_K (x : Hs) (n : Nat) : (jumpH x n).K = x.K := rfl
theorem tick_step {x : Hs} (h : x.Ok) : tick (stepH x) = (tick x + 1) % 680564733841876926926749214863536422912 := by
  have c := h.c
  obtain ⟨C, K, s⟩ := x
  cases s
  · show 2 * C + 1 = (2 * C + 0 + 1) % _
    have : C < 340282366920938463463374607431768211456 := c
    omega
  · show 2 * ((C + 1) % 340282366920938463463374607431768211456) + 0 = (2 * C + 1 + 1) % _
    have : C < 340282366920938463463374607431768211456 := c
    omega
theorem tick_back {x : Hs} (h : x.Ok) : tick (backH x) = (tick x + 680564733841876926926749214863536422911) % 680564733841876926926749214863536422912 := by
  have c := h.c
  obtain ⟨C, K, s⟩ := x
  cases s
  · show 2 * ((C + 340282366920938463463374607431768211455) % 340282366920938463463374607431768211456) + 1 = (2 * C + 0 + 680564733841876926926749214863536422911) % _
    have : C < 340282366920938463463374607431768211456 := c
    omega
  · show 2 * C + 0 = (2 * C + 1 + 680564733841876926926749214863536422911) % _
    have : C < 340282366920938463463374607431768211456 := c
    omega
theorem tick_jump (x : Hs) (n : Nat) : tick (jumpH x n) = (tick x + n) % 680564733841876926926749214863536422912 := tick_at _ _
theorem stepH_ok {x : Hs} (h : x.Ok) : (stepH x).Ok := by
  have c := h.c
  unfold stepH
  split
  · exact ⟨Nat.mod_lt _ (by decide), h.k⟩
  · exact ⟨c, h.k⟩
theorem backH_ok {x : Hs} (h : x.Ok) : (backH x).Ok := by
  have c := h.c
  unfold backH
  split
  · exact ⟨c, h.k⟩
  · exact ⟨Nat.mod_lt _ (by decide), h.k⟩
theorem jumpH_ok {x : Hs} (h : x.Ok) (n : Nat) : (jumpH x n).Ok := at_ok h.k (Nat.mod_lt _ (by decide))
theorem back_step {x : Hs} (h : x.Ok) : backH (stepH x) = x := by
  refine tick_same (by rw [backH_K, stepH_K]) ?_
  have l := tick_lt h
  rw [tick_back (stepH_ok h), tick_step h]
  omega
theorem step_back {x : Hs} (h : x.Ok) : stepH (backH x) = x := by
  refine tick_same (by rw [stepH_K, backH_K]) ?_
  have l := tick_lt h
  rw [tick_step (backH_ok h), tick_back h]
  omega
theorem jumpH_add (x : Hs) (n m : Nat) : jumpH (jumpH x n) m = jumpH x (n + m) := by
  refine tick_same rfl ?_
  rw [tick_jump, tick_jump, tick_jump]
  omega
theorem jumpH_zero {x : Hs} (h : x.Ok) : jumpH x 0 = x := by
  refine tick_same rfl ?_
  have l := tick_lt h
  rw [tick_jump]
  omega
theorem jumpH_one {x : Hs} (h : x.Ok) : jumpH x 1 = stepH x := by
  refine tick_same (by rw [stepH_K]; rfl) ?_
  rw [tick_jump, tick_step h]
theorem jumpH_apart {x : Hs} {n m : Nat} (hn : n < 340282366920938463463374607431768211456) (hm : m < 340282366920938463463374607431768211456) (e : jumpH x n = jumpH x m) : n = m := by
  have h := congrArg tick e
  rw [tick_jump, tick_jump] at h
  omega
def iterH (x : Hs) : Nat → Hs
  | 0 => x
  | n + 1 => stepH (iterH x n)
theorem iterH_ok {x : Hs} (h : x.Ok) : ∀ n, (iterH x n).Ok
  | 0 => h
  | n + 1 => stepH_ok (iterH_ok h n)
theorem iterH_K (x : Hs) : ∀ n, (iterH x n).K = x.K
  | 0 => rfl
  | n + 1 => by rw [iterH, stepH_K, iterH_K x n]
theorem iterH_jump {x : Hs} (h : x.Ok) : ∀ n, iterH x n = jumpH x n
  | 0 => (jumpH_zero h).symm
  | n + 1 => by rw [iterH, iterH_jump h n, ← jumpH_one (jumpH_ok h n), jumpH_add]
/-- A number's words, and the number of words. -/
def blockH (c : Nat) : Bk := ⟨c % 4294967296, c / 4294967296 % 4294967296, c / 18446744073709551616 % 4294967296, c / 79228162514264337593543950336 % 4294967296⟩
def numH (b : Bk) : Nat := b.a + 4294967296 * b.b + 18446744073709551616 * b.c + 79228162514264337593543950336 * b.d
theorem blockH_ok (c : Nat) : (blockH c).Ok := ⟨Nat.mod_lt _ (by decide), Nat.mod_lt _ (by decide), Nat.mod_lt _ (by decide), Nat.mod_lt _ (by decide)⟩
theorem num_block {c : Nat} (h : c < 340282366920938463463374607431768211456) : numH (blockH c) = c := by
  show c % 4294967296 + 4294967296 * (c / 4294967296 % 4294967296) + 18446744073709551616 * (c / 18446744073709551616 % 4294967296) + 79228162514264337593543950336 * (c / 79228162514264337593543950336 % 4294967296) = c
  omega
theorem block_num {b : Bk} (h : b.Ok) : blockH (numH b) = b := by
  obtain ⟨p, q, r, s⟩ := b
  have h1 : p < 4294967296 := h.a
  have h2 : q < 4294967296 := h.b
  have h3 : r < 4294967296 := h.c
  have h4 : s < 4294967296 := h.d
  refine Bk.same ?_ ?_ ?_ ?_
  · show (p + 4294967296 * q + 18446744073709551616 * r + 79228162514264337593543950336 * s) % 4294967296 = p
    omega
  · show (p + 4294967296 * q + 18446744073709551616 * r + 79228162514264337593543950336 * s) / 4294967296 % 4294967296 = q
    omega
  · show (p + 4294967296 * q + 18446744073709551616 * r + 79228162514264337593543950336 * s) / 18446744073709551616 % 4294967296 = r
    omega
  · show (p + 4294967296 * q + 18446744073709551616 * r + 79228162514264337593543950336 * s) / 79228162514264337593543950336 % 4294967296 = s
    omega
theorem numH_lt {b : Bk} (h : b.Ok) : numH b < 340282366920938463463374607431768211456 := by
  have h1 := h.a
  have h2 := h.b
  have h3 := h.c
  have h4 := h.d
  unfold numH
  omega
def outH (x : Hs) : Bk := mixB (blockH x.C) x.K 10
theorem outH_ok {x : Hs} (h : x.Ok) : (outH x).Ok := mixB_ok (blockH_ok _) h.k 10
def wordH (x : Hs) : Nat := if x.s then (outH x).c + 4294967296 * (outH x).d else (outH x).a + 4294967296 * (outH x).b
theorem wordH_lt {x : Hs} (h : x.Ok) : wordH x < 18446744073709551616 := by
  have o := outH_ok h
  have h1 := o.a
  have h2 := o.b
  have h3 := o.c
  have h4 := o.d
  unfold wordH
  split <;> omega
/-- Both words of a number tell it. -/
theorem words_apart {n m : Nat} {K : Ky} (hK : K.Ok) (hn : n < 340282366920938463463374607431768211456) (hm : m < 340282366920938463463374607431768211456)
    (e1 : wordH ⟨n, K, false⟩ = wordH ⟨m, K, false⟩) (e2 : wordH ⟨n, K, true⟩ = wordH ⟨m, K, true⟩) : n = m := by
  have o1 : (outH ⟨n, K, false⟩).Ok := outH_ok ⟨hn, hK⟩
  have o2 : (outH ⟨m, K, false⟩).Ok := outH_ok ⟨hm, hK⟩
  have f1 : (outH ⟨n, K, false⟩).a + 4294967296 * (outH ⟨n, K, false⟩).b = (outH ⟨m, K, false⟩).a + 4294967296 * (outH ⟨m, K, false⟩).b := e1
  have f2 : (outH ⟨n, K, false⟩).c + 4294967296 * (outH ⟨n, K, false⟩).d = (outH ⟨m, K, false⟩).c + 4294967296 * (outH ⟨m, K, false⟩).d := e2
  have a1 := o1.a
  have a2 := o2.a
  have a3 := o1.c
  have a4 := o2.c
  have s : mixB (blockH n) K 10 = mixB (blockH m) K 10 := by
    show outH ⟨n, K, false⟩ = outH ⟨m, K, false⟩
    exact Bk.same (by omega) (by omega) (by omega) (by omega)
  have := mix_inj (blockH_ok n) (blockH_ok m) hK 10 s
  rw [← num_block hn, this, num_block hm]
def rowH (x : Hs) : Nat → List Nat
  | 0 => []
  | k + 1 => rowH x k ++ [wordH (iterH x k)]
theorem rowH_len (x : Hs) : ∀ k, (rowH x k).length = k
  | 0 => rfl
  | k + 1 => by rw [rowH, List.length_append, rowH_len x k]; rfl
end Go.Proofs.Ytdmoedjjbhkdmaa
