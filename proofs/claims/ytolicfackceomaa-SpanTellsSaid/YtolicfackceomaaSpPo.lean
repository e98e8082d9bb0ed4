/-
  Arguments of the statements that are numbers, spans and lists of spans.
-/
import Derived.Test.YtolicfackceomaaSpX0
import Derived.Laws.StructEq
import Derived.Lib.SmallJoins
import Derived.WalkArith
import Derived.OpenShut
import Derived.ProofKit
namespace Go.Proofs.Ytolicfackceomaa
open Go.ChangeShapes Go.WideShapes Go.ChangeAt Go.RowKit Go.Joins
set_option linter.unusedVariables false
set_option maxRecDepth 100000
theorem openUN {H : Type} {enc : TypeId × Value → H} {W : World} {base : Nat} {v : Value} {d : DataW H} {p : List MemPlace} (ok : Value.okWide Try.prog W .any base 24 v)
    (h : DataW.Trod enc Try.prog W 0 (fun _ => true) true 24 v d p) :
    ∃ (h l : Int) (N : Nat), Wn h l N ∧ v = .agg #[.int .u64 h, .int .u64 l] ∧ d = .agg [.lit (.int .u64 h), .lit (.int .u64 l)] ∧ p = [] ∧
      ∀ (W' : World) (sp : Nat → Bool), DataW.Trod enc Try.prog W' 0 sp true 24 (.agg #[.int .u64 h, .int .u64 l]) (.agg [.lit (.int .u64 h), .lit (.int .u64 l)]) [] := by
  obtain ⟨c0, c1, y0, y1, m, rfl, rfl, rfl, hy0, hy1⟩ := open_agg2 Try.underlying24 (by kernel_rfl) cellsU2 ok h
  obtain ⟨a, e0, rfl, wa⟩ := DataW.trod_int Try.underlying22 hy0
  obtain ⟨b, e1, rfl, wb⟩ := DataW.trod_int Try.underlying22 hy1
  simp at e0 e1
  subst e0 e1
  have b1 := bounds_u64 wa
  have b2 := bounds_u64 wb
  refine ⟨a, b, (a * 18446744073709551616 + b).toNat, ⟨by omega, by omega, by omega, by omega, by omega⟩, rfl, rfl, rfl, fun W' sp => ?_⟩
  exact shut_agg2 (y0 := (.lit (.int .u64 a), [])) (y1 := (.lit (.int .u64 b), [])) Try.underlying24 (by kernel_rfl) cellsU2 ⟨1, by simp [DataW.trod, Try.underlying22, wa]⟩ ⟨1, by simp [DataW.trod, Try.underlying22, wb]⟩
abbrev Sp.data {H : Type} (m : Sp) : DataW H := .agg [.agg [.lit (.int .u64 ((hiW m.f : Nat) : Int)), .lit (.int .u64 ((loW m.f : Nat) : Int))], .agg [.lit (.int .u64 ((hiW m.t : Nat) : Int)), .lit (.int .u64 ((loW m.t : Nat) : Int))]]
theorem trodU {H : Type} {enc : TypeId × Value → H} {W : World} {base n : Nat} {spare : Nat → Bool} {c0 c1 : Value} {x : DataW H × List MemPlace} (h : DataW.trod enc Try.prog W base spare true n 24 [c0, c1] = some x) :
    ∃ (a b : Int) (N : Nat), Wn a b N ∧ c0 = .int .u64 a ∧ c1 = .int .u64 b ∧ x = (.agg [.lit (.int .u64 a), .lit (.int .u64 b)], []) := by
  obtain ⟨y0, y1, m, rfl, _, h0, h1⟩ := trod_struct2 Try.underlying24 h
  have k0 : DataW.trod enc Try.prog W base spare true m 22 [c0] = some y0 := by simpa [cells64] using h0
  have k1 : DataW.trod enc Try.prog W base spare true m 22 [c1] = some y1 := by simpa [cells64] using h1
  obtain ⟨a, e0, rfl, wa⟩ := DataW.trod_int Try.underlying22 k0
  obtain ⟨b, e1, rfl, wb⟩ := DataW.trod_int Try.underlying22 k1
  simp at e0 e1
  subst e0 e1
  have b1 := bounds_u64 wa
  have b2 := bounds_u64 wb
  exact ⟨a, b, (a * 18446744073709551616 + b).toNat, ⟨by omega, by omega, by omega, by omega, by omega⟩, rfl, rfl, rfl⟩
theorem shutU {H : Type} {enc : TypeId × Value → H} {W : World} {base : Nat} {spare : Nat → Bool} {a b : Int} {N : Nat} (i : Wn a b N) :
    DataW.trod enc Try.prog W base spare true 2 24 [.int .u64 a, .int .u64 b] = some (.agg [.lit (.int .u64 a), .lit (.int .u64 b)], []) := by
  have a1 := i.h0
  have a2 := i.h1
  have b1 := i.l0
  have b2 := i.l1
  refine trod_struct2_mk (y0 := (.lit (.int .u64 a), [])) (y1 := (.lit (.int .u64 b), [])) Try.underlying24 (by rw [cellsU2]; rfl) ?_ ?_
  · simpa [cells64] using trod_int_mk (enc := enc) (w := W) (base := base) (spare := spare) (held := true) (k := .u64) (n := a) 0 Try.underlying22 (WalkArith.wf_u64 (by omega))
  · simpa [cells64] using trod_int_mk (enc := enc) (w := W) (base := base) (spare := spare) (held := true) (k := .u64) (n := b) 0 Try.underlying22 (WalkArith.wf_u64 (by omega))
theorem openSp {H : Type} {enc : TypeId × Value → H} {W : World} {base : Nat} {v : Value} {d : DataW H} {p : List MemPlace} (ok : Value.okWide Try.prog W .any base 26 v)
    (h : DataW.Trod enc Try.prog W 0 (fun _ => true) true 26 v d p) :
    ∃ m : Sp, m.Ok ∧ v = m.val ∧ d = Sp.data m ∧ p = [] ∧ ∀ (W' : World) (sp : Nat → Bool), DataW.Trod enc Try.prog W' 0 sp true 26 m.val (Sp.data m) [] := by
  obtain ⟨cs, rfl, hsz⟩ := okWide_struct Try.underlying26 ok
  obtain ⟨c0, c1, c2, c3, rfl⟩ := array4 (hsz.trans cellsS4)
  obtain ⟨fuel, hf⟩ := h
  obtain ⟨y0, y1, n, hx, _, h0, h1⟩ := trod_struct2 Try.underlying26 hf
  have k0 : DataW.trod enc Try.prog W 0 (fun _ => true) true n 24 [c0, c1] = some y0 := by simpa [cellsU2, Value.cells] using h0
  have k1 : DataW.trod enc Try.prog W 0 (fun _ => true) true n 24 [c2, c3] = some y1 := by simpa [cellsU2, Value.cells] using h1
  obtain ⟨a, b, N, i, rfl, rfl, rfl⟩ := trodU k0
  obtain ⟨c, d', M, j, rfl, rfl, rfl⟩ := trodU k1
  obtain ⟨rfl, rfl⟩ := i.of
  obtain ⟨rfl, rfl⟩ := j.of
  simp only [Prod.mk.injEq] at hx
  obtain ⟨rfl, rfl⟩ := hx
  refine ⟨⟨N, M⟩, ⟨i.lt, j.lt⟩, rfl, rfl, rfl, fun W' sp => ⟨3, ?_⟩⟩
  exact trod_struct2_mk (n := 2) (y0 := (.agg [.lit (.int .u64 ((hiW N : Nat) : Int)), .lit (.int .u64 ((loW N : Nat) : Int))], [])) (y1 := (.agg [.lit (.int .u64 ((hiW M : Nat) : Int)), .lit (.int .u64 ((loW M : Nat) : Int))], [])) Try.underlying26 (by rw [cellsS4]; rfl)
    (by simpa [cellsU2, Value.cells] using shutU (enc := enc) (W := W') (base := 0) (spare := sp) i) (by simpa [cellsU2, Value.cells] using shutU (enc := enc) (W := W') (base := 0) (spare := sp) j)
/-- A list of spans as an argument. -/
theorem openSL {H : Type} {enc : TypeId × Value → H} {W : World} {base : Nat} {v : Value} {d : DataW H} {p : List MemPlace} (ok : Value.okWide Try.prog W .any base 27 v)
    (h : DataW.Trod enc Try.prog W 0 (fun _ => true) true 27 v d p) : ∃ (A : Option Addr) (ca : Nat) (l : List Sp), v = .slice A l.length ca ∧ SL W A ca l := by
  obtain ⟨a0, len, cap, rfl⟩ := okWide_slice Try.underlying27 ok
  obtain ⟨fuel, hf⟩ := h
  rcases Go.Deep.open_slice Try.underlying27 hf with ⟨hcs, hx⟩ | ⟨a, len', cap', m, n, D, Pl, hcs, _, hl, hm, hmm, hx, hcell⟩
  · simp [Value.cells] at hcs
    obtain ⟨rfl, rfl, rfl⟩ := hcs
    exact ⟨none, 0, [], rfl, SL.nil _ _ _ (by omega)⟩
  · simp [Value.cells] at hcs
    obtain ⟨rfl, rfl, rfl⟩ := hcs
    simp only [if_true] at hmm
    obtain rfl : cap = m := hmm.symm
    have spot0 : 0 < len → a.spot = none := fun hi => by
      obtain ⟨cs', hc, ht⟩ := hcell 0 (by omega)
      rw [cellsS4] at hc
      obtain ⟨_, hlen, hget⟩ := World.cells?_some hc
      have h0 := hget 0 (by omega)
      rw [List.getElem?_eq_getElem (by omega)] at h0
      have := World.cell?_spot h0
      simpa [Addr.add] using this
    have each : ∀ i, i < len → ∃ s : Sp, s.Ok ∧ ∀ c v, (Go.Proofs.Ytolicfackceomaa.enc s)[c]? = some v → W.cell? (a.add (i * 4 + c)) = some v := fun i hi => by
      obtain ⟨cs', hc, ht⟩ := hcell i (by omega)
      rw [cellsS4] at hc
      obtain ⟨_, hlen, hget⟩ := World.cells?_some hc
      obtain ⟨e0, e1, e2, e3, rfl⟩ : ∃ e0 e1 e2 e3, cs' = [e0, e1, e2, e3] := by
        match cs', hlen with
        | [e0, e1, e2, e3], _ => exact ⟨e0, e1, e2, e3, rfl⟩
      obtain ⟨y0, y1, n', hx', _, h0, h1⟩ := trod_struct2 Try.underlying26 ht
      have k0 : DataW.trod enc Try.prog W 0 (fun _ => true) true n' 24 [e0, e1] = some y0 := by simpa [cellsU2, Value.cells] using h0
      have k1 : DataW.trod enc Try.prog W 0 (fun _ => true) true n' 24 [e2, e3] = some y1 := by simpa [cellsU2, Value.cells] using h1
      obtain ⟨x, y, N, i1, rfl, rfl, rfl⟩ := trodU k0
      obtain ⟨z, u, M, i2, rfl, rfl, rfl⟩ := trodU k1
      refine ⟨⟨N, M⟩, ⟨i1.lt, i2.lt⟩, fun c v hv => ?_⟩
      have w : Ws x y z u ⟨N, M⟩ := ⟨i1, i2⟩
      rw [w.enc] at hv
      have hc4 : c < 4 := (List.getElem?_eq_some_iff.1 hv).1
      have := hget c hc4
      rw [hv] at this
      rw [← this]
      obtain ⟨b, off, spot⟩ := a
      have hspot : spot = none := spot0 (by omega)
      subst hspot
      rw [Addr.add_lit, Addr.add_lit, Addr.add_lit, Nat.add_assoc]
    obtain ⟨g, hg⟩ : ∃ g : Nat → Sp, ∀ i, i < len → (g i).Ok ∧ ∀ c v, (Go.Proofs.Ytolicfackceomaa.enc (g i))[c]? = some v → W.cell? (a.add (i * 4 + c)) = some v :=
      ⟨fun i => if h : i < len then Classical.choose (each i h) else default, fun i hi => by
        simp only [hi, dif_pos]
        exact Classical.choose_spec (each i hi)⟩
    have hl' : ((List.range len).map g).length = len := by simp
    refine ⟨some a, cap, (List.range len).map g, by rw [hl'], fun s hs => ?_, by rw [hl']; exact hl, hm, fun i hi => ?_⟩
    · obtain ⟨i, hi, rfl⟩ := List.mem_map.1 hs
      exact (hg i (List.mem_range.1 hi)).1
    · rw [hl'] at hi
      have e : ((List.range len).map g).getD i default = g i := by simp [List.getD_eq_getElem?_getD, List.getElem?_map, List.getElem?_range hi]
      obtain ⟨b, off, spot⟩ := a
      have c0 := (hg i hi).2 0 _ rfl
      have hspot : spot = none := spot0 (by omega)
      subst hspot
      rw [Addr.add_lit] at c0
      refine ⟨b, off, rfl, ?_, fun c v hv => ?_⟩
      · have := World.block_lt_of_cell? W _ c0
        exact this
      · rw [e] at hv
        have := (hg i hi).2 c v hv
        rw [Addr.add_lit, ← Nat.add_assoc] at this
        exact this
theorem own : ownKnob Try.prog.godebug = none := by kernel_rfl
theorem laidOut : laidOutB Try.prog = true := by kernel_rfl
section
variable {H : Type} {enc : TypeId × Value → H}
/-- What was read of an argument is read again where nothing of what was there has turned. -/
theorem trod_below {t : TypeId} (hr : Try.prog.readableRec t = true) (hrow : t < Try.prog.types.size) {W W' : World} {sp : Nat → Bool} {v : Value} {d : DataW H} {ps : List MemPlace}
    (h : DataW.Trod enc Try.prog W 0 (fun _ => true) true t v d ps) (hb : Below W.heap.size W W') (hs : ∀ p ∈ ps, sp p.block = true) : DataW.Trod enc Try.prog W' 0 sp true t v d ps := by
  refine WideElems.Trod_stays laidOut hr hrow h (fun p hp => ?_) hs
  have lt : p.block < W.heap.size := by
    have := DataW.TrodAll.lt (trodAll_mk1 h) p hp
    exact this
  cases p with
  | cell b o => exact World.cell?_of_block (w := W) (hb.block b lt)
  | map b => exact hb.block b lt
end
section
variable {H : Type} {enc : TypeId × Value → H} {P : Program}
/-- The last step where of the end's world it is known that nothing of what was there has turned. -/
theorem post_of_below {f : Func} {s : ChangeSpec} {apart fresh handsOn again : Bool} {W W' : World} {args : Array Value} {v : Value} {ds gs : List (DataW H)} {before pa pv : List MemPlace}
    (hW : DataW.Whole enc P f.params.toList s.vars apart W args.toList ds gs before)
    (hres : ∀ (b : Nat) (sp : Nat → Bool) (hd : Bool), DataW.TrodAll enc P W' b sp hd f.resultTypes.toList (v.resultList f.resultTypes.size) (s.fn H (ds ++ gs)).results [])
    (hargs : ∀ sp : Nat → Bool, (∀ p ∈ before, sp p.block = true) → DataW.TrodAll enc P W' 0 sp true f.params.toList args.toList (s.fn H (ds ++ gs)).args pa)
    (hvars : ∀ sp : Nat → Bool, (∀ p ∈ before, sp p.block = true) → DataW.TrodVars enc P W' sp s.vars (s.fn H (ds ++ gs)).vars pv)
    (hps : before = pa ++ pv) (hb : Below W.heap.size W W')
    (hok : ∀ (j : Nat) (t : TypeId) (r : Value), f.resultTypes[j]? = some t → (v.resultList f.resultTypes.size)[j]? = some r → Value.okWide P W' .any 0 t r) :
    s.post enc P f apart fresh handsOn again W args v W' := by
  have lt : ∀ p ∈ before, p.block < W.heap.size := fun p hp => hW.lt p hp
  have old : ∀ p ∈ before, (fun b => decide (b < W.heap.size)) p.block = true := fun p hp => by simpa using lt p hp
  refine ⟨ds, gs, before, [], pa, pv, hW, hres _ _ _, hargs _ old, hvars _ old, World.keptBut_mono (fun p hp => ⟨hp, ?_⟩) (hb.frame (· ∈ before)), fun _ => ?_⟩
  · rw [hps, List.mem_append] at hp
    exact Or.inr hp
  · obtain ⟨_, _, _, _, _, fz, nd⟩ := hW
    refine ⟨hok, _, _, ([] ++ pa) ++ pv, ⟨[] ++ pa, pv, trodAll_append (hargs _ (fun _ _ => rfl)) (hres _ _ _), hvars _ (fun _ _ => rfl), rfl, ?_, ?_⟩, ?_⟩
    · intro b off hp
      have inb : MemPlace.cell b off ∈ before := by rw [hps]; simpa using hp
      rw [hb.frozen (lt _ inb)]
      exact fz b off inb
    · intro ha
      have := nd ha
      rw [hps] at this
      simpa using this
    · intro p hp _
      rw [hps]
      simpa using hp
end
end Go.Proofs.Ytolicfackceomaa
