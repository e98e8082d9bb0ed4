/-
  A struct of two words among a statement's arguments is opened and shut; the words of such a one in memory; the list 0, 1.
-/
import Derived.Test.YtmhglbnoddimhaaGfpP
import Derived.Test.YtmhglbnoddimhaaGfwV
import Derived.Test.YtmhglbnoddimhaaGfwJ
namespace Go.Proofs.Ytmhglbnoddimhaa
open Go.ChangeShapes Go.WideShapes Go.ChangeAt Go.RowKit Go.Joins G
set_option linter.unusedVariables false

theorem cellsU : Try.prog.cellsOf 26 = 2 := by kernel_rfl
theorem openUN {H : Type} {enc : TypeId × Value → H} {W : World} {base : Nat} {v : Value} {d : DataW H} {p : List MemPlace} (ok : Value.okWide Try.prog W .any base 26 v)
    (h : DataW.Trod enc Try.prog W 0 (fun _ => true) true 26 v d p) :
    ∃ (h l : Int) (N : Nat), Wn h l N ∧ v = .agg #[.int .u64 h, .int .u64 l] ∧ d = .agg [.lit (.int .u64 h), .lit (.int .u64 l)] ∧ p = [] ∧
      ∀ (W' : World) (sp : Nat → Bool), DataW.Trod enc Try.prog W' 0 sp true 26 (.agg #[.int .u64 h, .int .u64 l]) (.agg [.lit (.int .u64 h), .lit (.int .u64 l)]) [] := by
  obtain ⟨c0, c1, y0, y1, m, rfl, rfl, rfl, hy0, hy1⟩ := open_agg2 Try.underlying26 (by kernel_rfl) cellsU ok h
  obtain ⟨a, e0, rfl, wa⟩ := DataW.trod_int Try.underlying24 hy0
  obtain ⟨b, e1, rfl, wb⟩ := DataW.trod_int Try.underlying24 hy1
  simp at e0 e1
  subst e0 e1
  have b1 := bounds_u64 wa
  have b2 := bounds_u64 wb
  refine ⟨a, b, (a * 18446744073709551616 + b).toNat, ⟨by omega, by omega, by omega, by omega, by omega⟩, rfl, rfl, rfl, fun W' sp => ?_⟩
  exact shut_agg2 (y0 := (.lit (.int .u64 a), [])) (y1 := (.lit (.int .u64 b), [])) Try.underlying26 (by kernel_rfl) cellsU ⟨1, by simp [DataW.trod, Try.underlying24, wa]⟩ ⟨1, by simp [DataW.trod, Try.underlying24, wb]⟩
/-- The two words of a number in memory. -/
structure CU (w : World) (b : Nat) (h l : Int) : Prop where
  c : w.cell? ⟨b, 0, none⟩ = some (.int .u64 h) ∧ w.cell? ⟨b, 1, none⟩ = some (.int .u64 l)
theorem CU.below {w w' : World} {b : Nat} {h l : Int} (k : CU w b h l) (hb : Below w.heap.size w w') : CU w' b h l := ⟨two_below k.c hb⟩
theorem CU.alloc {w : World} {b : Nat} {h l : Int} (k : CU w b h l) (o : Obj) : CU (w.alloc o) b h l := k.below (below_allocs w o)
theorem CU.new (w : World) (h l : Int) (t : TypeId) : CU (w.alloc (.cells #[.int .u64 h, .int .u64 l] t)) w.heap.size h l := ⟨cells_new w _ _ t⟩
theorem CU.lt {w : World} {b : Nat} {h l : Int} (k : CU w b h l) : b < w.heap.size := World.block_lt_of_cell? w _ k.c.1
theorem lst01 (w : World) : Lst (w.alloc (.cells #[.int .i64 0, .int .i64 1] 3)) (some ⟨w.heap.size, 0, none⟩) 2 [0, 1] :=
  ⟨fun x hx => by simp at hx; omega, Nat.le_refl _, by decide, fun i hi => ⟨w.heap.size, 0, rfl, by
    have : i = 0 ∨ i = 1 := by simp at hi; omega
    rcases this with rfl | rfl <;> simp⟩⟩
theorem lst01f : [0, 1].length = 2 ∧ leB [0, 1] = 2 := ⟨rfl, rfl⟩
/-- An answer that is no bits. -/
def AnsB0 (w : World) (e : Ending) (w' : World) : Prop := ∃ (A : Option Addr) (cap : Nat), e = .returned (.slice A 0 cap) ∧ Lst w' A cap [] ∧ Below w.heap.size w w'
theorem ansB0 {w : World} {e : Ending} {w' : World} (h : AnsB (bitsOf 0) w e w') : AnsB0 w e w' := by
  rw [bitsOf_zero] at h
  exact h
theorem sameL_self (us : List Nat) : sameL us us = true := by unfold sameL; simp
/-- What stands behind the great test. -/
structure StT (w0 : World) (As : Option Addr) (cs : Nat) (ss : List Nat) (Au : Option Addr) (cu X : Nat) (Av : Option Addr) (cv Y : Nat) (w : World) : Prop where
  ps : Pol w As cs ss
  lu : Lst w Au cu (bitsOf X)
  lv : Lst w Av cv (bitsOf Y)
  below : Below w0.heap.size w0 w
def CutT (w0 : World) (As : Option Addr) (cs : Nat) (ss : List Nat) (Au : Option Addr) (cu X : Nat) (Av : Option Addr) (cv Y : Nat) (v : Value) (w : World) : Prop := v = .bool false ∧ StT w0 As cs ss Au cu X Av cv Y w
end Go.Proofs.Ytmhglbnoddimhaa
