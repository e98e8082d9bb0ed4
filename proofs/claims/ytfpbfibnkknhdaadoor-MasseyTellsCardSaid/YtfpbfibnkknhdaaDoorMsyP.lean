/-
  An argument that is a list of bools is opened.
-/
import Derived.Test.YtfpbfibnkknhdaaDoorGfpP
import Derived.Test.YtfpbfibnkknhdaaDoorMsyA
import Derived.Deep.Grids
namespace Go.Proofs.YtfpbfibnkknhdaaDoor
open Go.ChangeShapes Go.WideShapes Go.ChangeAt Go.RowKit Go.Joins G
set_option linter.unusedVariables false

theorem cellsB : Tryd.prog.cellsOf 4 = 1 := by kernel_rfl
section
variable {H : Type} {enc : TypeId × Value → H}
theorem openB {W : World} {base : Nat} {t : TypeId} {v : Value} {d : DataW H} {p : List MemPlace} (ht : Tryd.prog.underlying t = some (.slice 4)) (ok : Value.okWide Tryd.prog W .any base t v)
    (h : DataW.Trod enc Tryd.prog W 0 (fun _ => true) true t v d p) : ∃ (A : Option Addr) (L ca : Nat) (l : List Bool), v = .slice A L ca ∧ l.length = L ∧ Brs W A ca l := by
  obtain ⟨a0, len, cap, rfl⟩ := okWide_slice ht ok
  obtain ⟨fuel, hf⟩ := h
  rcases Go.Deep.open_bools ht Tryd.underlying4 cellsB hf with ⟨hcs, hx⟩ | ⟨a, len', cap', B, hcs, _, hl, hm, hx, hcell⟩
  · simp [Value.cells] at hcs
    obtain ⟨rfl, rfl, rfl⟩ := hcs
    exact ⟨none, 0, 0, [], rfl, rfl, Brs.nil _ _ _ (by decide)⟩
  · simp [Value.cells] at hcs
    obtain ⟨rfl, rfl, rfl⟩ := hcs
    have hl' : ((List.range len).map B).length = len := by simp
    refine ⟨some a, len, cap, (List.range len).map B, rfl, hl', by rw [hl']; exact hl, hm, fun i hi => ?_⟩
    rw [hl'] at hi
    have c := hcell i (by omega)
    obtain ⟨b, off, spot⟩ := a
    have hspot : spot = none := by
      have c0 := World.cell?_spot (hcell 0 (by omega))
      simpa [Addr.add] using c0
    subst hspot
    refine ⟨b, off, rfl, ?_⟩
    rw [Addr.add_lit] at c
    rw [c]
    simp [List.getD_eq_getElem?_getD, List.getElem?_map, List.getElem?_range hi]
end
end Go.Proofs.YtfpbfibnkknhdaaDoor
