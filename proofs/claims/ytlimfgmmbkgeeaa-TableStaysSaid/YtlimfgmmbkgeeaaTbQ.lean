/-
  One, two and three tables that lie apart; function values; a literal list of numbers, whatever slots the frame has.
-/
import Derived.Test.YtlimfgmmbkgeeaaTbO
import Derived.Test.YtlimfgmmbkgeeaaTbE
import Derived.Great.BuildSlice
import Derived.BigFrame
namespace Go.Proofs.Ytlimfgmmbkgeeaa
open Go.RowKit
set_option linter.unusedVariables false
set_option maxRecDepth 100000

structure One (w V : World) (p : Nat) (t : Tb) : Prop where
  ex : ∃ F, At V p F t ∧ ∀ b, F b → w.heap.size ≤ b
  below : Below w.heap.size w V
structure Duo (w V : World) (p : Nat) (t : Tb) (q : Nat) (o : Tb) : Prop where
  ex : ∃ F G, At V p F t ∧ At V q G o ∧ Apart F G ∧ (∀ b, F b → w.heap.size ≤ b) ∧ ∀ b, G b → w.heap.size ≤ b
  below : Below w.heap.size w V
structure Trio (w V : World) (p : Nat) (t : Tb) (q : Nat) (o : Tb) (r : Nat) (u : Tb) : Prop where
  ex : ∃ F G H, At V p F t ∧ At V q G o ∧ At V r H u ∧ Apart F G ∧ Apart F H ∧ Apart G H ∧ (∀ b, F b → w.heap.size ≤ b) ∧ (∀ b, G b → w.heap.size ≤ b) ∧ ∀ b, H b → w.heap.size ≤ b
  below : Below w.heap.size w V
section
variable {w V w' : World} {p q r : Nat} {t t' o u : Tb} {F G : Nat → Prop}
theorem ext_low (hF : ∀ b, F b → w.heap.size ≤ b) (hV : w.heap.size ≤ V.heap.size) : ∀ b, Ext F V w' b → w.heap.size ≤ b := fun b e => e.elim (hF b) (fun e => Nat.le_trans hV e.1)
theorem At.frame (h : At V q G o) (X : Post F V p t' w') (d : Apart F G) : At w' q G o := h.kept X.kept d.symm
theorem One.act (h : One w V p t) : ∃ F, At V p F t ∧ ∀ t' w', Post F V p t' w' → One w w' p t' := by
  obtain ⟨F, a, l⟩ := h.ex
  exact ⟨F, a, fun t' w' X => ⟨⟨_, X.at', ext_low l h.below.size⟩, h.below.trans (X.kept.below l h.below.size)⟩⟩
theorem One.still (h : One w V p t) (hb : Below V.heap.size V w') : One w w' p t := by
  obtain ⟨F, a, l⟩ := h.ex
  exact ⟨⟨F, a.below hb, l⟩, below_then h.below hb⟩
theorem One.copy (h : One w V p t) (X : Post (fun _ => False) V q o w') : Duo w w' p t q o := by
  obtain ⟨F, a, l⟩ := h.ex
  have hb : Below w.heap.size w w' := h.below.trans (X.kept.below (fun b e => e.elim) h.below.size)
  exact ⟨⟨F, _, a.kept X.kept (fun _ _ e => e), X.at', fun b f e => e.elim id (fun e => by have := a.lt b f; omega), l, ext_low (fun b e => e.elim) h.below.size⟩, hb⟩
theorem Duo.act1 (h : Duo w V p t q o) : ∃ F, At V p F t ∧ ∀ t' w', Post F V p t' w' → Duo w w' p t' q o := by
  obtain ⟨F, G, a, b, d, l, m⟩ := h.ex
  exact ⟨F, a, fun t' w' X => ⟨⟨_, G, X.at', b.frame X d, d.ext b.lt, ext_low l h.below.size, m⟩, h.below.trans (X.kept.below l h.below.size)⟩⟩
theorem Duo.at2 (h : Duo w V p t q o) : ∃ G, At V q G o := by obtain ⟨_, G, _, b, _⟩ := h.ex; exact ⟨G, b⟩
theorem Duo.still (h : Duo w V p t q o) (hb : Below V.heap.size V w') : Duo w w' p t q o := by
  obtain ⟨F, G, a, b, d, l, m⟩ := h.ex
  exact ⟨⟨F, G, a.below hb, b.below hb, d, l, m⟩, below_then h.below hb⟩
theorem Duo.copy (h : Duo w V p t q o) (X : Post (fun _ => False) V r u w') : Trio w w' p t q o r u := by
  obtain ⟨F, G, a, b, d, l, m⟩ := h.ex
  have hb : Below w.heap.size w w' := h.below.trans (X.kept.below (fun b e => e.elim) h.below.size)
  exact ⟨⟨F, G, _, a.kept X.kept (fun _ _ e => e), b.kept X.kept (fun _ _ e => e), X.at', d, fun c f e => e.elim id (fun e => by have := a.lt c f; omega), fun c f e => e.elim id (fun e => by have := b.lt c f; omega), l, m, ext_low (fun b e => e.elim) h.below.size⟩, hb⟩
theorem Trio.at1 (h : Trio w V p t q o r u) : ∃ F, At V p F t := by obtain ⟨F, _, _, a, _⟩ := h.ex; exact ⟨F, a⟩
theorem Trio.act2 (h : Trio w V p t q o r u) : ∃ F, At V q F o ∧ ∀ t' w', Post F V q t' w' → Trio w w' p t q t' r u := by
  obtain ⟨F, G, H, a, b, c, d1, d2, d3, l, m, n⟩ := h.ex
  exact ⟨G, b, fun t' w' X => ⟨⟨F, _, H, a.frame X d1.symm, X.at', c.frame X d3, (d1.symm.ext a.lt).symm, d2, d3.ext c.lt, l, ext_low m h.below.size, n⟩, h.below.trans (X.kept.below m h.below.size)⟩⟩
theorem Trio.act3 (h : Trio w V p t q o r u) : ∃ F, At V r F u ∧ ∀ t' w', Post F V r t' w' → Trio w w' p t q o r t' := by
  obtain ⟨F, G, H, a, b, c, d1, d2, d3, l, m, n⟩ := h.ex
  exact ⟨H, c, fun t' w' X => ⟨⟨F, G, _, a.frame X d2.symm, b.frame X d3.symm, X.at', d1, (d2.symm.ext a.lt).symm, (d3.symm.ext b.lt).symm, l, m, ext_low n h.below.size⟩, h.below.trans (X.kept.below n h.below.size)⟩⟩
theorem Trio.still (h : Trio w V p t q o r u) (hb : Below V.heap.size V w') : Trio w w' p t q o r u := by
  obtain ⟨F, G, H, a, b, c, d1, d2, d3, l, m, n⟩ := h.ex
  exact ⟨⟨F, G, H, a.below hb, b.below hb, c.below hb, d1, d2, d3, l, m, n⟩, below_then h.below hb⟩
end
theorem tGetB {w : World} {p : Nat} {F : Nat → Prop} {t : Tb} (h : At w p F t) (x : Int) :
    Calls Try.prog 13 #[.pointer (some ⟨p, 0, none⟩), .int .i64 x] w (fun e w' => e = .returned (.tuple #[.int .u64 (getT t x), .bool (hasT t x)]) ∧ Below w.heap.size w w') :=
  (tGet h x).mono fun _ _ k => ⟨k.1, by obtain ⟨q, e⟩ := k.2; rw [e]; exact below_drewN _ q⟩
theorem ownMore : Own 25 (fun x => IntKind.u64.wrap (x + 1)) := by
  refine ⟨fun args w => enters_of Try.func25 (by kernel_rfl) rfl args w, fun x w => ?_⟩
  go_enter Try.func25, Try.ntmps25
  go_wp2
  go_ret
  exact ⟨rfl, rfl⟩
theorem ownSame : Own 19 (fun x => x) := by
  refine ⟨fun args w => enters_of Try.func19 (by kernel_rfl) rfl args w, fun x w => ?_⟩
  go_enter Try.func19, Try.ntmps19
  go_wp2
  go_ret
  exact ⟨rfl, rfl⟩
theorem wpList_lit {P : Program} {ops : Array Oper} {K : Exit → Act → World → Prop} {a : Act} {w : World} {rest : List Oper} {d : Option Tmp} {ty t : TypeId} {pos : String} {after : Array Edge} {gd : Option (Nat × Bool)} {len : Nat} {parts : Array (Nat × Operand)}
    (e : TypeId) (vs : List Value) (cells : Array Value) (z : Value)
    (hu : P.underlying t = some (.slice e)) (hie : (P.info? e).map (fun i => (i.zero, i.size, i.bytes)) = some (some z, 1, 8)) (hn : vs.length = len) (hl : 0 < len ∧ len ≤ 100) (hv : ∀ v ∈ vs, v.cells.size = 1)
    (hw : Region.wanted { dst := d, op := .buildSlice t len parts, type := ty, pos := pos, after := after, guard := gd } (yielded ops a.tmps) = true)
    (hf : parts.toList.map (fun (i, x) => (i, a.eval x)) = (vs.zipIdx 0).map fun x => (x.2, x.1)) (hc : (vs.flatMap fun v => v.cells.toList).toArray = cells)
    (h : wpList P ops K rest (a.put d (.slice (some ⟨w.heap.size, 0, none⟩) len len)) (w.alloc (.cells cells e))) :
    wpList P ops K ({ dst := d, op := .buildSlice t len parts, type := ty, pos := pos, after := after, guard := gd } :: rest) a w := by
  cases hi : P.info? e with
  | none => rw [hi] at hie; cases hie
  | some ie =>
    rw [hi] at hie
    simp only [Option.map_some, Option.some.injEq, Prod.mk.injEq] at hie
    obtain ⟨h2, h1, _⟩ := hie
    refine BigFrame.wpList_want hw fun _ hK => wp_buildSlice t e len parts rfl cells ie z hu hi h2 ?_ ?_ ?_ (hK _ _ h)
    · rw [h1]; omega
    · rw [h1]; omega
    · rw [h1, Array.toList_map]
      rw [hf, Great.fill_whole (by omega) vs _ hv (by simp [hn]), hc]
end Go.Proofs.Ytlimfgmmbkgeeaa
