/-
  Arguments of layer 19's statements: numbers and lists of acts.
-/
import Derived.Test.YtlimfgmmbkgeeaaTbK
import Derived.Laws.StructEq
import Derived.Lib.SmallJoins
import Derived.WalkArith
import Derived.OpenShut
import Derived.ProofKit
namespace Go.Proofs.Ytlimfgmmbkgeeaa
open Go.ChangeShapes Go.WideShapes Go.ChangeAt Go.RowKit Go.Joins
set_option linter.unusedVariables false
set_option maxRecDepth 100000
theorem cellsA3 : Try.prog.cellsOf 32 = 3 := by kernel_rfl
theorem cellsI1 : Try.prog.cellsOf 3 = 1 := by kernel_rfl
theorem cellsU1 : Try.prog.cellsOf 26 = 1 := by kernel_rfl
section
variable {H : Type} {enc : TypeId × Value → H} {P : Program} {w : World} {base : Nat} {spare : Nat → Bool} {held : Bool}
theorem trod_struct3 {t : TypeId} {f0 f1 f2 : Field} {fuel : Nat} {cs : List Value} {x : DataW H × List MemPlace} (ht : P.underlying t = some (.struct #[f0, f1, f2])) (h : DataW.trod enc P w base spare held fuel t cs = some x) :
    ∃ y0 y1 y2 n, cs.length = P.cellsOf t ∧ DataW.trod enc P w base spare held n f0.type ((cs.drop f0.offset).take (P.cellsOf f0.type)) = some y0 ∧
      DataW.trod enc P w base spare held n f1.type ((cs.drop f1.offset).take (P.cellsOf f1.type)) = some y1 ∧ DataW.trod enc P w base spare held n f2.type ((cs.drop f2.offset).take (P.cellsOf f2.type)) = some y2 := by
  obtain ⟨xs, n, _, rfl, hl, hlen, hf⟩ := DataW.trod_struct ht h
  match xs, hlen with
  | [y0, y1, y2], _ => exact ⟨y0, y1, y2, n, hl, by simpa using hf 0 f0 rfl, by simpa using hf 1 f1 rfl, by simpa using hf 2 f2 rfl⟩
end
/-- A list of acts as an argument. -/
theorem openSL {H : Type} {enc : TypeId × Value → H} {W : World} {base : Nat} {v : Value} {d : DataW H} {p : List MemPlace} (ok : Value.okWide Try.prog W .any base 22 v)
    (h : DataW.Trod enc Try.prog W 0 (fun _ => true) true 22 v d p) : ∃ (A : Option Addr) (ca : Nat) (l : List Ac), v = .slice A l.length ca ∧ AL W A ca l ∧ ∀ a ∈ l, (Lit.int .u64 a.v).wf = true := by
  obtain ⟨a0, len, cap, rfl⟩ := okWide_slice Try.underlying22 ok
  obtain ⟨fuel, hf⟩ := h
  rcases Go.Deep.open_slice Try.underlying22 hf with ⟨hcs, hx⟩ | ⟨a, len', cap', m, n, D, Pl, hcs, _, hl, hm, hmm, hx, hcell⟩
  · simp [Value.cells] at hcs
    obtain ⟨rfl, rfl, rfl⟩ := hcs
    exact ⟨none, 0, [], rfl, ⟨Nat.le_refl _, by decide, fun i hi => absurd hi (Nat.not_lt_zero _)⟩, fun a ha => by cases ha⟩
  · simp [Value.cells] at hcs
    obtain ⟨rfl, rfl, rfl⟩ := hcs
    simp only [if_true] at hmm
    obtain rfl : cap = m := hmm.symm
    have spot0 : 0 < len → a.spot = none := fun hi => by
      obtain ⟨cs', hc, ht⟩ := hcell 0 (by omega)
      rw [cellsA3] at hc
      obtain ⟨_, hlen, hget⟩ := World.cells?_some hc
      have h0 := hget 0 (by omega)
      rw [List.getElem?_eq_getElem (by omega)] at h0
      have := World.cell?_spot h0
      simpa [Addr.add] using this
    have each : ∀ i, i < len → ∃ s : Ac, (Lit.int .u64 s.v).wf = true ∧ W.cell? (a.add (i * 3)) = some (.int .i64 s.d) ∧ W.cell? (a.add (i * 3 + 1)) = some (.int .i64 s.h) ∧ W.cell? (a.add (i * 3 + 2)) = some (.int .u64 s.v) := fun i hi => by
      obtain ⟨cs', hc, ht⟩ := hcell i (by omega)
      rw [cellsA3] at hc
      obtain ⟨_, hlen, hget⟩ := World.cells?_some hc
      obtain ⟨e0, e1, e2, rfl⟩ : ∃ e0 e1 e2, cs' = [e0, e1, e2] := by
        match cs', hlen with
        | [e0, e1, e2], _ => exact ⟨e0, e1, e2, rfl⟩
      obtain ⟨y0, y1, y2, n', _, h0, h1, h2⟩ := trod_struct3 Try.underlying32 ht
      have k0 : DataW.trod enc Try.prog W 0 (fun _ => true) true n' 3 [e0] = some y0 := by simpa [cellsI1, Value.cells] using h0
      have k1 : DataW.trod enc Try.prog W 0 (fun _ => true) true n' 3 [e1] = some y1 := by simpa [cellsI1, Value.cells] using h1
      have k2 : DataW.trod enc Try.prog W 0 (fun _ => true) true n' 26 [e2] = some y2 := by simpa [cellsU1, Value.cells] using h2
      obtain ⟨x, q0, _, _⟩ := DataW.trod_int Try.underlying3 k0
      obtain ⟨y, q1, _, _⟩ := DataW.trod_int Try.underlying3 k1
      obtain ⟨z, q2, _, wz⟩ := DataW.trod_int Try.underlying26 k2
      simp at q0 q1 q2
      subst q0 q1 q2
      have g0 := hget 0 (by omega)
      have g1 := hget 1 (by omega)
      have g2 := hget 2 (by omega)
      obtain ⟨b, off, spot⟩ := a
      have hspot : spot = none := spot0 (by omega)
      subst hspot
      rw [Addr.add_lit, Addr.add_lit] at g0 g1 g2
      refine ⟨⟨x, y, z⟩, wz, ?_, ?_, ?_⟩
      · rw [Addr.add_lit]; exact g0
      · rw [Addr.add_lit, ← Nat.add_assoc]; exact g1
      · rw [Addr.add_lit, ← Nat.add_assoc]; exact g2
    obtain ⟨g, hg⟩ : ∃ g : Nat → Ac, ∀ i, i < len → (Lit.int .u64 (g i).v).wf = true ∧ W.cell? (a.add (i * 3)) = some (.int .i64 (g i).d) ∧ W.cell? (a.add (i * 3 + 1)) = some (.int .i64 (g i).h) ∧ W.cell? (a.add (i * 3 + 2)) = some (.int .u64 (g i).v) :=
      ⟨fun i => if h : i < len then Classical.choose (each i h) else default, fun i hi => by
        simp only [hi, dif_pos]
        exact Classical.choose_spec (each i hi)⟩
    have hl' : ((List.range len).map g).length = len := by simp
    refine ⟨some a, cap, (List.range len).map g, by rw [hl'], ⟨by rw [hl']; exact hl, hm, fun i hi => ?_⟩, fun s hs => ?_⟩
    · rw [hl'] at hi
      have e : ((List.range len).map g).getD i default = g i := by simp [List.getD_eq_getElem?_getD, List.getElem?_map, List.getElem?_range hi]
      obtain ⟨b, off, spot⟩ := a
      have hspot : spot = none := spot0 (by omega)
      subst hspot
      obtain ⟨_, c0, c1, c2⟩ := hg i hi
      rw [Addr.add_lit] at c0 c1 c2
      rw [e]
      exact ⟨b, off, rfl, World.block_lt_of_cell? W _ c0, c0, by rw [Nat.add_assoc]; exact c1, by rw [Nat.add_assoc]; exact c2⟩
    · obtain ⟨i, hi, rfl⟩ := List.mem_map.1 hs
      exact (hg i (List.mem_range.1 hi)).1
theorem own : ownKnob Try.prog.godebug = none := by kernel_rfl
theorem laidOut : laidOutB Try.prog = true := by kernel_rfl
section
variable {H : Type} {enc : TypeId × Value → H}
/-- What was read of an argument is read again where nothing of what was there has turned. -/
theorem trod_below {t : TypeId} (hr : Try.prog.readableRec t = true) (hrow : t < Try.prog.types.size) {W W' : World} {sp : Nat → Bool} {v : Value} {d : DataW H} {ps : List MemPlace}
    (h : DataW.Trod enc Try.prog W 0 (fun _ => true) true t v d ps) (hb : Below W.heap.size W W') (hs : ∀ p ∈ ps, sp p.block = true) : DataW.Trod enc Try.prog W' 0 sp true t v d ps := by
  refine WideElems.Trod_stays laidOut hr hrow h (fun p hp => ?_) hs
  have lt : p.block < W.heap.size := by
    have := DataW.TrodAll.lt (trodAll_mk1 h) p hp
    exact this
  cases p with
  | cell b o => exact World.cell?_of_block (w := W) (hb.block b lt)
  | map b => exact hb.block b lt
end
section
variable {H : Type} {enc : TypeId × Value → H} {P : Program}
/-- The last step where of the end's world it is known that nothing of what was there has turned. -/
theorem post_of_below {f : Func} {s : ChangeSpec} {apart fresh handsOn again : Bool} {W W' : World} {args : Array Value} {v : Value} {ds gs : List (DataW H)} {before pa pv : List MemPlace}
    (hW : DataW.Whole enc P f.params.toList s.vars apart W args.toList ds gs before)
    (hres : ∀ (b : Nat) (sp : Nat → Bool) (hd : Bool), DataW.TrodAll enc P W' b sp hd f.resultTypes.toList (v.resultList f.resultTypes.size) (s.fn H (ds ++ gs)).results [])
    (hargs : ∀ sp : Nat → Bool, (∀ p ∈ before, sp p.block = true) → DataW.TrodAll enc P W' 0 sp true f.params.toList args.toList (s.fn H (ds ++ gs)).args pa)
    (hvars : ∀ sp : Nat → Bool, (∀ p ∈ before, sp p.block = true) → DataW.TrodVars enc P W' sp s.vars (s.fn H (ds ++ gs)).vars pv)
    (hps : before = pa ++ pv) (hb : Below W.heap.size W W')
    (hok : ∀ (j : Nat) (t : TypeId) (r : Value), f.resultTypes[j]? = some t → (v.resultList f.resultTypes.size)[j]? = some r → Value.okWide P W' .any 0 t r) :
    s.post enc P f apart fresh handsOn again W args v W' := by
  have lt : ∀ p ∈ before, p.block < W.heap.size := fun p hp => hW.lt p hp
  have old : ∀ p ∈ before, (fun b => decide (b < W.heap.size)) p.block = true := fun p hp => by simpa using lt p hp
  refine ⟨ds, gs, before, [], pa, pv, hW, hres _ _ _, hargs _ old, hvars _ old, World.keptBut_mono (fun p hp => ⟨hp, ?_⟩) (hb.frame (· ∈ before)), fun _ => ?_⟩
  · rw [hps, List.mem_append] at hp
    exact Or.inr hp
  · obtain ⟨_, _, _, _, _, fz, nd⟩ := hW
    refine ⟨hok, _, _, ([] ++ pa) ++ pv, ⟨[] ++ pa, pv, trodAll_append (hargs _ (fun _ _ => rfl)) (hres _ _ _), hvars _ (fun _ _ => rfl), rfl, ?_, ?_⟩, ?_⟩
    · intro b off hp
      have inb : MemPlace.cell b off ∈ before := by rw [hps]; simpa using hp
      rw [hb.frozen (lt _ inb)]
      exact fz b off inb
    · intro ha
      have := nd ha
      rw [hps] at this
      simpa using this
    · intro p hp _
      rw [hps]
      simpa using hp
end
end Go.Proofs.Ytlimfgmmbkgeeaa
