/-
  A list of acts in memory; a table beside the document's own, and beside the block of an act.
-/
import Derived.Test.YtlimfgmmbkgeeaaTbJ
import Derived.Test.YtlimfgmmbkgeeaaTbT
namespace Go.Proofs.Ytlimfgmmbkgeeaa
open Go.RowKit
set_option linter.unusedVariables false
set_option maxRecDepth 100000

instance : Inhabited Ac := ⟨⟨0, 0, 0⟩⟩
/-- A slice that holds these acts. -/
structure AL (w : World) (A : Option Addr) (cap : Nat) (l : List Ac) : Prop where
  cap1 : l.length ≤ cap
  cap2 : cap ≤ 9223372036854775807
  cell : ∀ i, i < l.length → ∃ b o, A = some ⟨b, o, none⟩ ∧ b < w.heap.size ∧ w.cell? ⟨b, o + i * 3, none⟩ = some (.int .i64 (l.getD i default).d) ∧ w.cell? ⟨b, o + i * 3 + 1, none⟩ = some (.int .i64 (l.getD i default).h) ∧ w.cell? ⟨b, o + i * 3 + 2, none⟩ = some (.int .u64 (l.getD i default).v)
theorem AL.below {w w' : World} {A : Option Addr} {cap : Nat} {l : List Ac} (h : AL w A cap l) (hb : Below w.heap.size w w') : AL w' A cap l :=
  ⟨h.cap1, h.cap2, fun i hi => by
    obtain ⟨b, o, e, hl, c0, c1, c2⟩ := h.cell i hi
    exact ⟨b, o, e, Nat.lt_of_lt_of_le hl hb.size, (hb.cell (p := ⟨b, _, none⟩) hl).trans c0, (hb.cell (p := ⟨b, _, none⟩) hl).trans c1, (hb.cell (p := ⟨b, _, none⟩) hl).trans c2⟩⟩
abbrev acC (a : Ac) : Array Value := #[.int .i64 a.d, .int .i64 a.h, .int .u64 a.v]
abbrev KB (V : World) (x : Nat) (a : Ac) : Prop := Blk 32 V x (acC a)
theorem KB.cells {V : World} {x : Nat} {a : Ac} (h : KB V x a) : V.cell? ⟨x, 0, none⟩ = some (.int .i64 a.d) ∧ V.cell? ⟨x, 1, none⟩ = some (.int .i64 a.h) ∧ V.cell? ⟨x, 2, none⟩ = some (.int .u64 a.v) := ⟨h.cell 0 _ rfl, h.cell 1 _ rfl, h.cell 2 _ rfl⟩
/-- A table and the document's own, of the same. -/
structure Pair (w V : World) (p q : Nat) (t o : Tb) : Prop where
  ex : ∃ F G, At V p F t ∧ RT V q G o ∧ Apart F G ∧ (∀ b, F b → w.heap.size ≤ b) ∧ ∀ b, G b → w.heap.size ≤ b
  below : Below w.heap.size w V
/-- And the block of an act beside them. -/
structure KPair (w V : World) (p q : Nat) (t o : Tb) (x : Nat) (a : Ac) : Prop where
  ex : ∃ F G, At V p F t ∧ RT V q G o ∧ Apart F G ∧ (∀ b, F b → w.heap.size ≤ b) ∧ (∀ b, G b → w.heap.size ≤ b) ∧ ¬ F x ∧ ¬ G x
  k : KB V x a
  below : Below w.heap.size w V
section
variable {w V w' : World} {p q x : Nat} {t t' o : Tb} {F G : Nat → Prop} {a : Ac}
theorem Pair.act (h : Pair w V p q t o) (a : Ac) : KPair w (V.alloc (.cells (acC a) 32)) p q t o V.heap.size a := by
  obtain ⟨F, G, k, r, d, l, m⟩ := h.ex
  have b := below_allocs V (.cells (acC a) 32)
  exact ⟨⟨F, G, k.below b, r.below b, d, l, m, fun e => Nat.lt_irrefl _ (k.lt _ e), fun e => Nat.lt_irrefl _ (r.lt _ e)⟩, Blk.new V _ _, below_then h.below b⟩
theorem KPair.pair (h : KPair w V p q t o x a) : Pair w V p q t o := by
  obtain ⟨F, G, k, r, d, l, m, _⟩ := h.ex
  exact ⟨⟨F, G, k, r, d, l, m⟩, h.below⟩
theorem ext_no (h : ¬ F x) (k : x < V.heap.size) : ¬ Ext F V w' x := fun e => e.elim h (fun e => by omega)
theorem KPair.act1 (h : KPair w V p q t o x a) : ∃ F, At V p F t ∧ ∀ t' w', Post F V p t' w' → KPair w w' p q t' o x a := by
  obtain ⟨F, G, k, r, d, l, m, nf, ng⟩ := h.ex
  exact ⟨F, k, fun t' w' X => ⟨⟨_, G, X.at', r.kept X.kept d.symm, d.ext r.lt, ext_low l h.below.size, m, ext_no nf h.k.lt, ng⟩, h.k.kept X.kept nf, h.below.trans (X.kept.below l h.below.size)⟩⟩
theorem KPair.act2 (h : KPair w V p q t o x a) : ∃ G, RT V q G o ∧ ∀ t' w', RPost G V q t' w' → KPair w w' p q t t' x a := by
  obtain ⟨F, G, k, r, d, l, m, nf, ng⟩ := h.ex
  exact ⟨G, r, fun t' w' X => ⟨⟨F, _, k.kept X.kept d, X.at', (d.symm.ext k.lt).symm, l, ext_low m h.below.size, nf, ext_no ng h.k.lt⟩, h.k.kept X.kept ng, h.below.trans (X.kept.below m h.below.size)⟩⟩
theorem KPair.still (h : KPair w V p q t o x a) (hb : Below V.heap.size V w') : KPair w w' p q t o x a := by
  obtain ⟨F, G, k, r, d, l, m, n⟩ := h.ex
  exact ⟨⟨F, G, k.below hb, r.below hb, d, l, m, n⟩, h.k.below hb, below_then h.below hb⟩
theorem KPair.at1 (h : KPair w V p q t o x a) : ∃ F, At V p F t := by obtain ⟨F, _, k, _⟩ := h.ex; exact ⟨F, k⟩
theorem KPair.at2 (h : KPair w V p q t o x a) : ∃ G, RT V q G o := by obtain ⟨_, G, _, r, _⟩ := h.ex; exact ⟨G, r⟩
end
end Go.Proofs.Ytlimfgmmbkgeeaa
