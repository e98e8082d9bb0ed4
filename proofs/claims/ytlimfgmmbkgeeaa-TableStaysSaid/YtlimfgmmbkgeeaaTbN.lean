/-
  One table, and three, beside blocks that stay as they are.
-/
import Derived.Test.YtlimfgmmbkgeeaaTbK
namespace Go.Proofs.Ytlimfgmmbkgeeaa
open Go.RowKit
set_option linter.unusedVariables false
set_option maxRecDepth 100000

structure OneN (w V : World) (N : Nat → Prop) (p : Nat) (t : Tb) : Prop where
  ex : ∃ F, At V p F t ∧ (∀ b, F b → w.heap.size ≤ b) ∧ Apart F N
  nlt : ∀ b, N b → b < V.heap.size
  below : Below w.heap.size w V
structure TrioN (w V : World) (N : Nat → Prop) (p : Nat) (t : Tb) (q : Nat) (o : Tb) (r : Nat) (u : Tb) : Prop where
  ex : ∃ F G H, At V p F t ∧ At V q G o ∧ At V r H u ∧ Apart F G ∧ Apart F H ∧ Apart G H ∧ (∀ b, F b → w.heap.size ≤ b) ∧ (∀ b, G b → w.heap.size ≤ b) ∧ (∀ b, H b → w.heap.size ≤ b) ∧ Apart F N ∧ Apart G N ∧ Apart H N
  nlt : ∀ b, N b → b < V.heap.size
  below : Below w.heap.size w V
section
variable {w V w' : World} {N M : Nat → Prop} {p q r : Nat} {t t' o u : Tb} {F G : Nat → Prop}
theorem kept_not (X : Kept F V w') (d : Apart F N) : Kept (fun b => ¬ N b) V w' := X.mono fun b _ e => d b e
theorem One.non (h : One w V p t) : OneN w V (fun _ => False) p t := by
  obtain ⟨F, a, l⟩ := h.ex
  exact ⟨⟨F, a, l, fun _ _ => id⟩, fun _ => False.elim, h.below⟩
theorem OneN.one (h : OneN w V N p t) : One w V p t := by
  obtain ⟨F, a, l, _⟩ := h.ex
  exact ⟨⟨F, a, l⟩, h.below⟩
theorem OneN.less (h : OneN w V N p t) (k : ∀ b, M b → N b) : OneN w V M p t := by
  obtain ⟨F, a, l, d⟩ := h.ex
  exact ⟨⟨F, a, l, fun b e f => d b e (k b f)⟩, fun b e => h.nlt b (k b e), h.below⟩
theorem OneN.more (h : OneN w V N p t) (hb : Below V.heap.size V w') (k : ∀ b, M b → N b ∨ (V.heap.size ≤ b ∧ b < w'.heap.size)) : OneN w w' M p t := by
  obtain ⟨F, a, l, d⟩ := h.ex
  exact ⟨⟨F, a.below hb, l, fun b e f => (k b f).elim (d b e) fun f => by have := a.lt b e; omega⟩, fun b e => (k b e).elim (fun e => Nat.lt_of_lt_of_le (h.nlt b e) hb.size) (fun e => e.2), below_then h.below hb⟩
theorem OneN.act (h : OneN w V N p t) : ∃ F, At V p F t ∧ ∀ t' w', Post F V p t' w' → OneN w w' N p t' ∧ Kept (fun b => ¬ N b) V w' := by
  obtain ⟨F, a, l, d⟩ := h.ex
  exact ⟨F, a, fun t' w' X => ⟨⟨⟨_, X.at', ext_low l h.below.size, d.ext h.nlt⟩, fun b e => Nat.lt_of_lt_of_le (h.nlt b e) X.kept.size, h.below.trans (X.kept.below l h.below.size)⟩, kept_not X.kept d⟩⟩
theorem Trio.non (h : Trio w V p t q o r u) : TrioN w V (fun _ => False) p t q o r u := by
  obtain ⟨F, G, H, a, b, c, d1, d2, d3, l, m, n⟩ := h.ex
  exact ⟨⟨F, G, H, a, b, c, d1, d2, d3, l, m, n, fun _ _ => id, fun _ _ => id, fun _ _ => id⟩, fun _ => False.elim, h.below⟩
theorem TrioN.less (h : TrioN w V N p t q o r u) (k : ∀ b, M b → N b) : TrioN w V M p t q o r u := by
  obtain ⟨F, G, H, a, b, c, d1, d2, d3, l, m, n, e1, e2, e3⟩ := h.ex
  exact ⟨⟨F, G, H, a, b, c, d1, d2, d3, l, m, n, fun b e f => e1 b e (k b f), fun b e f => e2 b e (k b f), fun b e f => e3 b e (k b f)⟩, fun b e => h.nlt b (k b e), h.below⟩
theorem TrioN.more (h : TrioN w V N p t q o r u) (hb : Below V.heap.size V w') (k : ∀ b, M b → N b ∨ (V.heap.size ≤ b ∧ b < w'.heap.size)) : TrioN w w' M p t q o r u := by
  obtain ⟨F, G, H, a, b, c, d1, d2, d3, l, m, n, e1, e2, e3⟩ := h.ex
  exact ⟨⟨F, G, H, a.below hb, b.below hb, c.below hb, d1, d2, d3, l, m, n, fun x e f => (k x f).elim (e1 x e) (fun f => by have := a.lt x e; omega), fun x e f => (k x f).elim (e2 x e) (fun f => by have := b.lt x e; omega), fun x e f => (k x f).elim (e3 x e) (fun f => by have := c.lt x e; omega)⟩, fun b e => (k b e).elim (fun e => Nat.lt_of_lt_of_le (h.nlt b e) hb.size) (fun e => e.2), below_then h.below hb⟩
theorem TrioN.still (h : TrioN w V N p t q o r u) (hb : Below V.heap.size V w') : TrioN w w' N p t q o r u := h.more hb fun _ => .inl
theorem TrioN.at1 (h : TrioN w V N p t q o r u) : ∃ F, At V p F t := by obtain ⟨F, _, _, a, _⟩ := h.ex; exact ⟨F, a⟩
theorem TrioN.act2 (h : TrioN w V N p t q o r u) : ∃ F, At V q F o ∧ ∀ t' w', Post F V q t' w' → TrioN w w' N p t q t' r u ∧ Kept (fun b => ¬ N b) V w' := by
  obtain ⟨F, G, H, a, b, c, d1, d2, d3, l, m, n, e1, e2, e3⟩ := h.ex
  exact ⟨G, b, fun t' w' X => ⟨⟨⟨F, _, H, a.frame X d1.symm, X.at', c.frame X d3, (d1.symm.ext a.lt).symm, d2, d3.ext c.lt, l, ext_low m h.below.size, n, e1, e2.ext h.nlt, e3⟩, fun b e => Nat.lt_of_lt_of_le (h.nlt b e) X.kept.size, h.below.trans (X.kept.below m h.below.size)⟩, kept_not X.kept e2⟩⟩
theorem TrioN.act3 (h : TrioN w V N p t q o r u) : ∃ F, At V r F u ∧ ∀ t' w', Post F V r t' w' → TrioN w w' N p t q o r t' ∧ Kept (fun b => ¬ N b) V w' := by
  obtain ⟨F, G, H, a, b, c, d1, d2, d3, l, m, n, e1, e2, e3⟩ := h.ex
  exact ⟨H, c, fun t' w' X => ⟨⟨⟨F, G, _, a.frame X d2.symm, b.frame X d3.symm, X.at', d1, (d2.symm.ext a.lt).symm, (d3.symm.ext b.lt).symm, l, m, ext_low n h.below.size, e1, e2, e3.ext h.nlt⟩, fun b e => Nat.lt_of_lt_of_le (h.nlt b e) X.kept.size, h.below.trans (X.kept.below n h.below.size)⟩, kept_not X.kept e3⟩⟩
theorem KB.keep {x : Nat} {a : Ac} (h : KB V x a) (k : Kept (fun b => ¬ N b) V w') (hn : N x) : KB w' x a := h.kept k (fun e => e hn)
theorem il_keep {B : Nat} {v : Value} {l : List Int} (h : IL B V v l) (k : Kept (fun b => ¬ N b) V w') (hn : ∀ b, v.ownBlock = some b → N b) : IL B w' v l := owns_kept h k (fun b e f => f (hn b e))
end
end Go.Proofs.Ytlimfgmmbkgeeaa
