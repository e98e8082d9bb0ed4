/-
  Arguments that are a block (an array of four words of 32 bits) or a key (of two), opened and shut; the last step of a statement's proof where nothing of what was there has turned.
-/
import Derived.Test.YtdmoedjjbhkdmaaPhB
import Derived.Test.YtdmoedjjbhkdmaaPhP0
import Derived.Lib.SmallJoins
import Derived.WideKeyArgs
import Derived.ChangeSlices
import Derived.ChangeSame
import Derived.Laws.IdiomArrays
namespace Go.Proofs.Ytdmoedjjbhkdmaa
open Go.ChangeShapes Go.WideShapes Go.ChangeAt Go.RowKit Go.Joins
set_option linter.unusedVariables false
set_option maxRecDepth 100000

theorem cellsBk : Try.prog.cellsOf 47 = 4 := by kernel_rfl
theorem cellsKy : Try.prog.cellsOf 27 = 2 := by kernel_rfl
theorem cells32 : Try.prog.cellsOf 25 = 1 := by kernel_rfl
abbrev Bk.data {H : Type} (s : Bk) : DataW H := .agg [.lit (.int .u32 (s.a : Int)), .lit (.int .u32 (s.b : Int)), .lit (.int .u32 (s.c : Int)), .lit (.int .u32 (s.d : Int))]
abbrev Ky.data {H : Type} (s : Ky) : DataW H := .agg [.lit (.int .u32 (s.k : Int)), .lit (.int .u32 (s.m : Int))]
theorem openBk {H : Type} {enc : TypeId × Value → H} {W : World} {base : Nat} {v : Value} {d : DataW H} {p : List MemPlace} (ok : Value.okWide Try.prog W .any base 47 v)
    (h : DataW.Trod enc Try.prog W 0 (fun _ => true) true 47 v d p) :
    ∃ s : Bk, s.Ok ∧ v = s.val ∧ d = Bk.data s ∧ p = [] ∧ ∀ (W' : World) (sp : Nat → Bool), DataW.Trod enc Try.prog W' 0 sp true 47 s.val (Bk.data s) [] := by
  obtain ⟨cs, rfl, hsz, _⟩ : ∃ cs, v = .agg cs ∧ cs.size = Try.prog.cellsOf 47 ∧ Row.okWide Try.prog W .any base 47 cs := by
    simpa [Value.okWide, Try.underlying47] using ok
  rw [cellsBk] at hsz
  obtain ⟨c0, c1, c2, c3, rfl⟩ : ∃ c0 c1 c2 c3, cs = #[c0, c1, c2, c3] := by
    obtain ⟨l⟩ := cs
    match l, hsz with
    | [a, b, c, d], _ => exact ⟨a, b, c, d, rfl⟩
  obtain ⟨fuel, hf⟩ := h
  obtain ⟨y0, y1, y2, y3, m, hx, hy0, hy1, hy2, hy3⟩ := trod_array4 Try.underlying47 cells32 hf
  obtain ⟨x0, e0, rfl, w0⟩ := DataW.trod_int Try.underlying25 hy0
  obtain ⟨x1, e1, rfl, w1⟩ := DataW.trod_int Try.underlying25 hy1
  obtain ⟨x2, e2, rfl, w2⟩ := DataW.trod_int Try.underlying25 hy2
  obtain ⟨x3, e3, rfl, w3⟩ := DataW.trod_int Try.underlying25 hy3
  simp at e0 e1 e2 e3
  subst e0 e1 e2 e3
  simp only [Prod.mk.injEq] at hx
  obtain ⟨rfl, rfl⟩ := hx
  have b0 := bounds_u32 w0
  have b1 := bounds_u32 w1
  have b2 := bounds_u32 w2
  have b3 := bounds_u32 w3
  obtain ⟨x0, rfl⟩ := Int.eq_ofNat_of_zero_le b0.1
  obtain ⟨x1, rfl⟩ := Int.eq_ofNat_of_zero_le b1.1
  obtain ⟨x2, rfl⟩ := Int.eq_ofNat_of_zero_le b2.1
  obtain ⟨x3, rfl⟩ := Int.eq_ofNat_of_zero_le b3.1
  refine ⟨⟨x0, x1, x2, x3⟩, ⟨by show x0 < _; omega, by show x1 < _; omega, by show x2 < _; omega, by show x3 < _; omega⟩, rfl, rfl, rfl, fun W' sp => ?_⟩
  exact ⟨2, by simp [DataW.trod, Value.cells, Try.underlying47, Try.underlying25, cellsBk, cells32, w0, w1, w2, w3, show List.range 4 = [0, 1, 2, 3] from rfl]⟩
theorem trod_key {H : Type} {enc : TypeId × Value → H} {W : World} {fuel : Nat} {sp : Nat → Bool} {c0 c1 : Value} {x : DataW H × List MemPlace} (h : DataW.trod enc Try.prog W 0 sp true fuel 27 [c0, c1] = some x) :
    ∃ y0 y1 n, x = (.agg [y0.1, y1.1], y0.2 ++ y1.2) ∧ DataW.trod enc Try.prog W 0 sp true n 25 [c0] = some y0 ∧ DataW.trod enc Try.prog W 0 sp true n 25 [c1] = some y1 := by
  rcases fuel with _ | n
  · simp [DataW.trod] at h
  · unfold DataW.trod at h
    rw [Try.underlying27] at h
    simp [show List.range 2 = [0, 1] from rfl, cells32] at h
    obtain ⟨_, h⟩ := h
    rcases h0 : DataW.trod enc Try.prog W 0 sp true n 25 [c0] with _ | y0 <;> rcases h1 : DataW.trod enc Try.prog W 0 sp true n 25 [c1] with _ | y1 <;> simp [h0, h1] at h
    exact ⟨y0, y1, n, h.symm, h0, h1⟩
theorem openKy {H : Type} {enc : TypeId × Value → H} {W : World} {base : Nat} {v : Value} {d : DataW H} {p : List MemPlace} (ok : Value.okWide Try.prog W .any base 27 v)
    (h : DataW.Trod enc Try.prog W 0 (fun _ => true) true 27 v d p) :
    ∃ s : Ky, s.Ok ∧ v = s.val ∧ d = Ky.data s ∧ p = [] ∧ ∀ (W' : World) (sp : Nat → Bool), DataW.Trod enc Try.prog W' 0 sp true 27 s.val (Ky.data s) [] := by
  obtain ⟨cs, rfl, hsz, _⟩ : ∃ cs, v = .agg cs ∧ cs.size = Try.prog.cellsOf 27 ∧ Row.okWide Try.prog W .any base 27 cs := by
    simpa [Value.okWide, Try.underlying27] using ok
  rw [cellsKy] at hsz
  obtain ⟨c0, c1, rfl⟩ : ∃ c0 c1, cs = #[c0, c1] := by
    obtain ⟨l⟩ := cs
    match l, hsz with
    | [a, b], _ => exact ⟨a, b, rfl⟩
  obtain ⟨fuel, hf⟩ := h
  obtain ⟨y0, y1, m, hx, hy0, hy1⟩ := trod_key hf
  obtain ⟨x0, e0, rfl, w0⟩ := DataW.trod_int Try.underlying25 hy0
  obtain ⟨x1, e1, rfl, w1⟩ := DataW.trod_int Try.underlying25 hy1
  simp at e0 e1
  subst e0 e1
  simp only [Prod.mk.injEq] at hx
  obtain ⟨rfl, rfl⟩ := hx
  have b0 := bounds_u32 w0
  have b1 := bounds_u32 w1
  obtain ⟨x0, rfl⟩ := Int.eq_ofNat_of_zero_le b0.1
  obtain ⟨x1, rfl⟩ := Int.eq_ofNat_of_zero_le b1.1
  refine ⟨⟨x0, x1⟩, ⟨by show x0 < _; omega, by show x1 < _; omega⟩, rfl, rfl, rfl, fun W' sp => ?_⟩
  exact ⟨2, by simp [DataW.trod, Value.cells, Try.underlying27, Try.underlying25, cellsKy, cells32, w0, w1, show List.range 2 = [0, 1] from rfl]⟩
end Go.Proofs.Ytdmoedjjbhkdmaa
