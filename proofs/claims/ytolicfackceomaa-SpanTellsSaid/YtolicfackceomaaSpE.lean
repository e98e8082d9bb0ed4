/-
  Numbers and spans that are compared.
-/
import Derived.Test.YtolicfackceomaaSpL
import Derived.Laws.StructEq
namespace Go.Proofs.Ytolicfackceomaa
open Go.RowKit
set_option linter.unusedVariables false
set_option maxRecDepth 100000

theorem eqU (a b c d : Int) (w : World) : Sem.run Try.prog (Op.equalIn 10000 24 (.agg #[.int .u64 a, .int .u64 b]) (.agg #[.int .u64 c, .int .u64 d])) w = .ok (decide (a = c ∧ b = d)) w := by
  go_simp
  by_cases h1 : a = c <;> by_cases h2 : b = d <;> simp [h1, h2]
theorem eqRU (a b c d : Int) (w : World) : Sem.run Try.prog (Op.equalIn 10000 32 (.agg #[.int .u64 a, .int .u64 b]) (.agg #[.int .u64 c, .int .u64 d])) w = .ok (decide (a = c ∧ b = d)) w := by
  go_simp
  by_cases h1 : a = c <;> by_cases h2 : b = d <;> simp [h1, h2]
theorem eqS (a b c d a' b' c' d' : Int) (w : World) : Sem.run Try.prog (Op.equalIn 10000 26 (.agg #[.int .u64 a, .int .u64 b, .int .u64 c, .int .u64 d]) (.agg #[.int .u64 a', .int .u64 b', .int .u64 c', .int .u64 d'])) w = .ok (decide (a = a' ∧ b = b' ∧ c = c' ∧ d = d')) w := by
  go_simp
  by_cases h1 : a = a' <;> by_cases h2 : b = b' <;> by_cases h3 : c = c' <;> by_cases h4 : d = d' <;> simp [h1, h2, h3, h4]
theorem eqRS (a b c d a' b' c' d' : Int) (w : World) : Sem.run Try.prog (Op.equalIn 10000 34 (.agg #[.int .u64 a, .int .u64 b, .int .u64 c, .int .u64 d]) (.agg #[.int .u64 a', .int .u64 b', .int .u64 c', .int .u64 d'])) w = .ok (decide (a = a' ∧ b = b' ∧ c = c' ∧ d = d')) w := by
  go_simp
  by_cases h1 : a = a' <;> by_cases h2 : b = b' <;> by_cases h3 : c = c' <;> by_cases h4 : d = d' <;> simp [h1, h2, h3, h4]
theorem wn_same {a b c d : Int} {M N : Nat} (i : Wn a b M) (j : Wn c d N) : decide (a = c ∧ b = d) = decide (M = N) := decide_eq_decide.2 (by
  obtain ⟨i0, i1, i2, i3, i4⟩ := i
  obtain ⟨j0, j1, j2, j3, j4⟩ := j
  omega)
theorem ws_same {a b c d a' b' c' d' : Int} {s t : Sp} (i : Ws a b c d s) (j : Ws a' b' c' d' t) : decide (a = a' ∧ b = b' ∧ c = c' ∧ d = d') = decide (s = t) := decide_eq_decide.2 (by
  obtain ⟨⟨i0, i1, i2, i3, i4⟩, ⟨k0, k1, k2, k3, k4⟩⟩ := i
  obtain ⟨⟨j0, j1, j2, j3, j4⟩, ⟨l0, l1, l2, l3, l4⟩⟩ := j
  obtain ⟨f, g⟩ := s
  obtain ⟨f', g'⟩ := t
  simp only [Sp.mk.injEq] at *
  omega)
end Go.Proofs.Ytolicfackceomaa
