/-
  An argument that is a state (an array of four words), opened and shut.
-/
import Derived.Test.YthohgleklcoglaaXshA
import Derived.Test.YthohgleklcoglaaGfpP
import Derived.Laws.IdiomArrays
namespace Go.Proofs.Ythohgleklcoglaa
open Go.ChangeShapes Go.WideShapes Go.ChangeAt Go.RowKit Go.Joins G
set_option linter.unusedVariables false

theorem cellsSt : Try.prog.cellsOf 24 = 4 := by kernel_rfl
theorem cellsWd : Try.prog.cellsOf 22 = 1 := by kernel_rfl
abbrev St.data {H : Type} (s : St) : DataW H := .agg [.lit (.int .u64 (s.a : Int)), .lit (.int .u64 (s.b : Int)), .lit (.int .u64 (s.c : Int)), .lit (.int .u64 (s.d : Int))]
theorem openSt {H : Type} {enc : TypeId × Value → H} {W : World} {base : Nat} {v : Value} {d : DataW H} {p : List MemPlace} (ok : Value.okWide Try.prog W .any base 24 v)
    (h : DataW.Trod enc Try.prog W 0 (fun _ => true) true 24 v d p) :
    ∃ s : St, s.Ok ∧ v = s.val ∧ d = St.data s ∧ p = [] ∧ ∀ (W' : World) (sp : Nat → Bool), DataW.Trod enc Try.prog W' 0 sp true 24 s.val (St.data s) [] := by
  obtain ⟨cs, rfl, hsz, _⟩ : ∃ cs, v = .agg cs ∧ cs.size = Try.prog.cellsOf 24 ∧ Row.okWide Try.prog W .any base 24 cs := by
    simpa [Value.okWide, Try.underlying24] using ok
  rw [cellsSt] at hsz
  obtain ⟨c0, c1, c2, c3, rfl⟩ : ∃ c0 c1 c2 c3, cs = #[c0, c1, c2, c3] := by
    obtain ⟨l⟩ := cs
    match l, hsz with
    | [a, b, c, d], _ => exact ⟨a, b, c, d, rfl⟩
  obtain ⟨fuel, hf⟩ := h
  obtain ⟨y0, y1, y2, y3, m, hx, hy0, hy1, hy2, hy3⟩ := trod_array4 Try.underlying24 cellsWd hf
  obtain ⟨x0, e0, rfl, w0⟩ := DataW.trod_int Try.underlying22 hy0
  obtain ⟨x1, e1, rfl, w1⟩ := DataW.trod_int Try.underlying22 hy1
  obtain ⟨x2, e2, rfl, w2⟩ := DataW.trod_int Try.underlying22 hy2
  obtain ⟨x3, e3, rfl, w3⟩ := DataW.trod_int Try.underlying22 hy3
  simp at e0 e1 e2 e3
  subst e0 e1 e2 e3
  simp only [Prod.mk.injEq] at hx
  obtain ⟨rfl, rfl⟩ := hx
  have b0 := bounds_u64 w0
  have b1 := bounds_u64 w1
  have b2 := bounds_u64 w2
  have b3 := bounds_u64 w3
  obtain ⟨x0, rfl⟩ := Int.eq_ofNat_of_zero_le b0.1
  obtain ⟨x1, rfl⟩ := Int.eq_ofNat_of_zero_le b1.1
  obtain ⟨x2, rfl⟩ := Int.eq_ofNat_of_zero_le b2.1
  obtain ⟨x3, rfl⟩ := Int.eq_ofNat_of_zero_le b3.1
  refine ⟨⟨x0, x1, x2, x3⟩, ⟨by show x0 < _; omega, by show x1 < _; omega, by show x2 < _; omega, by show x3 < _; omega⟩, rfl, rfl, rfl, fun W' sp => ?_⟩
  exact ⟨2, by simp [DataW.trod, Value.cells, Try.underlying24, Try.underlying22, cellsSt, cellsWd, w0, w1, w2, w3, show List.range 4 = [0, 1, 2, 3] from rfl]⟩
end Go.Proofs.Ythohgleklcoglaa
