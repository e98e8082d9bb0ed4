/-
  Spans as the keys of a map.
-/
import Derived.Test.YtolicfackceomaaSpE
import Derived.DeepKeys4
import Derived.Maps.OwnSet
import Derived.Maps.OwnOps
import Derived.Maps.Views
namespace Go.Proofs.Ytolicfackceomaa
open Go.RowKit Go.Maps
open Go.WideMaps (KeyLaw)
set_option linter.unusedVariables false
set_option maxRecDepth 100000

theorem laidOutP : laidOutB Try.prog = true := by kernel_rfl
theorem rowS : (26 : TypeId) < Try.prog.types.size := of_decide_eq_true (by kernel_rfl)
theorem wideS : (match Try.prog.underlying 26 with | some (.array _ _) | some (.struct _) => true | _ => false) = true := by rw [Try.underlying26]
theorem klawS : KeyLaw Try.prog 26 := deep_law_laid laidOutP (m := 3) (by omega) rowS (by kernel_rfl) wideS
theorem keyedS : Keyed Try.prog 26 := Keyed.of_law klawS
theorem cellsS4 : Try.prog.cellsOf 26 = 4 := by kernel_rfl
theorem cellsU2 : Try.prog.cellsOf 24 = 2 := by kernel_rfl
theorem cells64 : Try.prog.cellsOf 22 = 1 := by kernel_rfl
theorem keyTypeS : Try.prog.keyType 26 = true := by kernel_rfl
theorem keyU (d : Nat) (a b : Int) (ha : (Lit.int .u64 a).wf = true) (hb : (Lit.int .u64 b).wf = true) : Try.prog.keyLits (d + 2) 24 [.int .u64 a, .int .u64 b] = some [.int .u64 a, .int .u64 b] := by
  simp [Program.keyLits, Try.underlying24, Try.underlying22, cellsU2, cells64, ha, hb]
theorem keyS {a b c e : Int} {s : Sp} (h : Ws a b c e s) : ∃ kl, keyOf Try.prog 26 (.agg #[.int .u64 a, .int .u64 b, .int .u64 c, .int .u64 e]) = some kl := by
  have w : ∀ {h l : Int} {N : Nat}, Wn h l N → (Lit.int .u64 h).wf = true ∧ (Lit.int .u64 l).wf = true := fun i => by
    have := i.h0; have := i.h1; have := i.l0; have := i.l1
    exact ⟨WalkArith.wf_u64 (by omega), WalkArith.wf_u64 (by omega)⟩
  have f1 := w h.f
  have f2 := w h.t
  obtain ⟨n, hn⟩ : ∃ n, Try.prog.types.size + 1 = n + 3 := ⟨Try.prog.types.size - 2, by have := rowS; have : 26 < Try.prog.types.size := rowS; omega⟩
  refine ⟨.string (keyBytes [.int .u64 a, .int .u64 b, .int .u64 c, .int .u64 e]), ?_⟩
  unfold keyOf
  rw [Try.underlying26]
  have fm : (Value.agg #[Value.int .u64 a, .int .u64 b, .int .u64 c, .int .u64 e]).formed Try.prog 26 = true := by simp [Value.formed, Try.underlying26, cellsS4]
  simp only [keyTypeS, fm, Bool.and_self, if_true, hn]
  have kl : Try.prog.keyLits (n + 3) 26 [.int .u64 a, .int .u64 b, .int .u64 c, .int .u64 e] = some [.int .u64 a, .int .u64 b, .int .u64 c, .int .u64 e] := by
    have k1 := keyU n a b f1.1 f1.2
    have k2 := keyU n c e f2.1 f2.2
    generalize hk : n + 2 = m at k1 k2
    rw [show n + 3 = m + 1 from by omega]
    simp [Program.keyLits, Try.underlying26, cellsS4, cellsU2, k1, k2]
  show ((Try.prog.keyLits (n + 3) 26 [.int .u64 a, .int .u64 b, .int .u64 c, .int .u64 e]).map fun ls => Lit.string (keyBytes ls)) = _
  rw [kl]; rfl
end Go.Proofs.Ytolicfackceomaa
