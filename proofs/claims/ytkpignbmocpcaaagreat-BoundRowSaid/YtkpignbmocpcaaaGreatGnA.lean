/-
  The kind Mix: the mathematics of its states and words, and what the calls of package mix answer that a generator of this kind makes.
-/
import Derived.Test.YtkpignbmocpcaaaGreatSpB
import Derived.Deep.LoopGhost
import Derived.BigQuiet
import Derived.Laws.BitsAllLaws
namespace Go.Proofs.YtkpignbmocpcaaaGreat
open Go.RowKit
set_option linter.unusedVariables false

def sh (k z : Nat) : Nat := z ^^^ z / 2 ^ k
theorem sh_lt {k z : Nat} (h : z < 18446744073709551616) : sh k z < 18446744073709551616 :=
  Nat.xor_lt_two_pow (n := 64) h (Nat.lt_of_le_of_lt (Nat.div_le_self _ _) h)
def half1 (z : Nat) : Nat := sh 30 z * 13787848793156543929 % 18446744073709551616
def half2 (z : Nat) : Nat := sh 27 z * 10723151780598845931 % 18446744073709551616
def mixN (z : Nat) : Nat := sh 31 (half2 (half1 z))
theorem half1_lt (z : Nat) : half1 z < 18446744073709551616 := Nat.mod_lt _ (by decide)
theorem half2_lt (z : Nat) : half2 z < 18446744073709551616 := Nat.mod_lt _ (by decide)
theorem mix_lt (z : Nat) : mixN z < 18446744073709551616 := sh_lt (half2_lt _)
def stepN (s : Nat) : Nat := (s + 11400714819323198485) % 18446744073709551616
def jumpN (s l : Nat) : Nat := (s + l * 11400714819323198485) % 18446744073709551616
theorem step_lt (s : Nat) : stepN s < 18446744073709551616 := Nat.mod_lt _ (by decide)
theorem jump_lt (s l : Nat) : jumpN s l < 18446744073709551616 := Nat.mod_lt _ (by decide)
theorem jump_zero {s : Nat} (h : s < 18446744073709551616) : jumpN s 0 = s := by unfold jumpN; omega
theorem jump_step (s n : Nat) : jumpN s (n + 1) = stepN (jumpN s n) := by
  unfold jumpN stepN
  rw [Nat.mod_add_mod, Nat.add_mul, Nat.one_mul, Nat.add_assoc]
def iterN (s : Nat) : Nat → Nat
  | 0 => s
  | n + 1 => stepN (iterN s n)
theorem iter_jump {s : Nat} (h : s < 18446744073709551616) : ∀ n, iterN s n = jumpN s n
  | 0 => (jump_zero h).symm
  | n + 1 => by rw [iterN, iter_jump h n, jump_step]
theorem iter_lt {s : Nat} (h : s < 18446744073709551616) (n : Nat) : iterN s n < 18446744073709551616 := by rw [iter_jump h]; exact jump_lt _ _
/-- So many words, from a state on. -/
def rowN (s : Nat) (n : Nat) : List Nat := (List.range n).map fun i => mixN (stepN (iterN s i))
theorem row_len (s n : Nat) : (rowN s n).length = n := by simp [rowN]
theorem row_succ (s n : Nat) : rowN s (n + 1) = rowN s n ++ [mixN (stepN (iterN s n))] := by simp [rowN, List.range_succ]
theorem row_lt (s n : Nat) : ∀ x ∈ rowN s n, x < 18446744073709551616 := by
  intro x hx
  obtain ⟨i, _, rfl⟩ := List.mem_map.1 hx
  exact mix_lt _
theorem div_int (b k : Nat) : (b : Int) / 2 ^ k = ((b / 2 ^ k : Nat) : Int) := by rw [Int.natCast_ediv, Int.natCast_pow]; rfl
theorem xor_int (x y : Nat) (hx : x < 18446744073709551616) (hy : y < 18446744073709551616) : bits .xor .u64 (x : Int) (y : Int) = ((x ^^^ y : Nat) : Int) := u64_xor_nat x y hx hy
theorem below_drewN' {B : Nat} {a w : World} (h : Below B a w) (n : Nat) : Below B a (w.drewN n) := ⟨h.os, h.tape, h.output, h.size, h.block⟩
theorem below_alloc {w W : World} (h : Below w.heap.size w W) (o : Obj) : Below w.heap.size w (W.alloc o) := h.alloc h.size o
/-- An answer that is one word; nothing is turned. -/
def AnsN (n : Nat) (w : World) (e : Ending) (w' : World) : Prop := e = .returned (.int .u64 (n : Int)) ∧ Below w.heap.size w w'
theorem mulI (x y : Nat) : IntKind.u64.wrap ((x : Int) * (y : Int)) = ((x * y % 18446744073709551616 : Nat) : Int) := by rw [IntKind.wrap_u64]; omega
theorem shI {k z : Nat} (h : z < 18446744073709551616) : bits .xor .u64 (z : Int) ((z : Int) / 2 ^ k) = ((sh k z : Nat) : Int) := by
  rw [div_int, xor_int _ _ h (Nat.lt_of_le_of_lt (Nat.div_le_self _ _) h)]; rfl

theorem half1I {z : Nat} (h : z < 18446744073709551616) : IntKind.u64.wrap (bits .xor .u64 (z : Int) ((z : Int) / 1073741824) * 13787848793156543929) = ((half1 z : Nat) : Int) := by
  have := shI (k := 30) h
  rw [show ((2 : Int) ^ 30) = 1073741824 from by decide] at this
  rw [this]
  exact mulI _ 13787848793156543929
theorem half2I {z : Nat} (h : z < 18446744073709551616) : IntKind.u64.wrap (bits .xor .u64 (z : Int) ((z : Int) / 134217728) * 10723151780598845931) = ((half2 z : Nat) : Int) := by
  have := shI (k := 27) h
  rw [show ((2 : Int) ^ 27) = 134217728 from by decide] at this
  rw [this]
  exact mulI _ 10723151780598845931
theorem lastI {z : Nat} (h : z < 18446744073709551616) : bits .xor .u64 (z : Int) ((z : Int) / 2147483648) = ((sh 31 z : Nat) : Int) := by
  have := shI (k := 31) h
  rw [show ((2 : Int) ^ 31) = 2147483648 from by decide] at this
  exact this
theorem cStep (s : Nat) (w : World) : Calls Tryz.prog 67 #[.int .u64 s] w (fun e w' => e = .returned (.int .u64 ((stepN s : Nat) : Int)) ∧ w' = w) := by
  go_enter Tryz.func67, Tryz.ntmps67
  go_wp2
  go_ret
  refine ⟨?_, rfl⟩
  show Ending.returned (.int .u64 _) = _
  rw [IntKind.wrap_u64]; rfl
theorem cHalves (w : World) : Calls Tryz.prog 69 #[] w (fun e w' => e = .returned (.agg #[.int .i64 30, .int .u64 13787848793156543929, .int .u64 10871156337175269513, .int .i64 27, .int .u64 10723151780598845931, .int .u64 3573116690164977347]) ∧ Below w.heap.size w w') := by
  go_enter Tryz.func69, Tryz.ntmps69
  go_wp2
  go_returns
  exact ⟨rfl, below_allocs _ _⟩
theorem cJump (s : Nat) (h : s < 18446744073709551616) (a : Int) (l : Nat) (w : World) : Calls Tryz.prog 95 #[.int .u64 s, .agg #[.int .u64 a, .int .u64 l]] w (AnsN (jumpN s l) w) := by
  go_enter Tryz.func95, Tryz.ntmps95
  go_wp2
  go_ret
  refine ⟨?_, below_allocs _ _⟩
  show Ending.returned (.int .u64 _) = _
  rw [IntKind.wrap_u64, IntKind.wrap_u64]
  have : ((s : Int) + (l : Int) * 11400714819323198485 % 18446744073709551616) % 18446744073709551616 = ((jumpN s l : Nat) : Int) := by unfold jumpN; omega
  rw [this]

theorem idx0 (w : World) : Sem.run Tryz.prog (Instr.index 138 (.agg #[.int .i64 30, .int .u64 13787848793156543929, .int .u64 10871156337175269513, .int .i64 27, .int .u64 10723151780598845931, .int .u64 3573116690164977347]) (.int .i64 0)) w = .ok (.agg #[.int .i64 30, .int .u64 13787848793156543929, .int .u64 10871156337175269513]) w := by kernel_rfl
theorem idx1 (w : World) : Sem.run Tryz.prog (Instr.index 138 (.agg #[.int .i64 30, .int .u64 13787848793156543929, .int .u64 10871156337175269513, .int .i64 27, .int .u64 10723151780598845931, .int .u64 3573116690164977347]) (.int .i64 1)) w = .ok (.agg #[.int .i64 27, .int .u64 10723151780598845931, .int .u64 3573116690164977347]) w := by kernel_rfl
/-- The state of a mix behind so many of its halves. -/
def part (z j : Nat) : Nat := if j = 0 then z else if j = 1 then half1 z else half2 (half1 z)
theorem part_zero (z : Nat) : part z 0 = z := by unfold part; rw [if_pos rfl]
theorem part_one (z : Nat) : part z 1 = half1 z := by unfold part; rw [if_neg (by decide), if_pos rfl]
theorem part_two (z : Nat) : part z 2 = half2 (half1 z) := by unfold part; rw [if_neg (by decide), if_neg (by decide)]
theorem cMix (z : Nat) (h : z < 18446744073709551616) (w : World) : Calls Tryz.prog 68 #[.int .u64 z] w (AnsN (mixN z) w) := by
  go_enter Tryz.func68, Tryz.ntmps68
  go_wp2_with fail
  refine (cHalves _).mono ?_
  rintro e w1 ⟨rfl, hb⟩
  have HB := Lib.hid hb
  clear hb
  go_wp2
  go_loopg [0, 6] 2 (fun g z' i wr => ∃ j : Nat, j + g = 2 ∧ z' = .int .u64 ((part z j : Nat) : Int) ∧ i = .int .i64 j ∧ Below w.heap.size w wr)
  case atStart => exact ⟨0, by omega, by rw [part_zero], rfl, HB.out⟩
  case round =>
    obtain ⟨j, hg, rfl, rfl, hw⟩ := hrel
    have hj : j = 0 ∨ j = 1 ∨ j = 2 := by omega
    rcases hj with rfl | rfl | rfl
    · have q0 := idx0 wr
      have q1 := idx1 wr
      go_wp2
      go_region
      go_wp2
      go_roundg (gk - 1)
      case measure => omega
      case rel =>
        refine ⟨1, by omega, ?_, rfl, below_drewN' (below_alloc hw _) 1⟩
        show Value.int .u64 _ = _
        rw [part_zero, part_one, half1I h]
    · have q0 := idx0 wr
      have q1 := idx1 wr
      go_wp2
      go_region
      go_wp2
      go_roundg (gk - 1)
      case measure => omega
      case rel =>
        refine ⟨2, by omega, ?_, rfl, below_drewN' (below_alloc hw _) 1⟩
        show Value.int .u64 _ = _
        rw [part_one, part_two, half2I (half1_lt z)]
    · go_wp2
      go_ret
      refine ⟨?_, hw⟩
      show Ending.returned (.int .u64 _) = _
      rw [part_two, lastI (half2_lt (half1 z)), mixN]

theorem cWord (s : Nat) (h : s < 18446744073709551616) (w : World) : Calls Tryz.prog 66 #[.int .u64 s] w (AnsN (mixN (stepN s)) w) := by
  go_enter Tryz.func66, Tryz.ntmps66
  go_wp2_with fail
  refine (cStep s _).mono ?_
  rintro e w1 ⟨rfl, rfl⟩
  go_wp2_with fail
  refine (cMix _ (step_lt s) _).mono ?_
  rintro e w2 ⟨rfl, b2⟩
  have B2 := Lib.hid b2
  clear b2
  go_wp2
  go_ret
  exact ⟨rfl, B2.out⟩

end Go.Proofs.YtkpignbmocpcaaaGreat
