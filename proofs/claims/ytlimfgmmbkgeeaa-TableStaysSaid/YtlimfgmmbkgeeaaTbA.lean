/-
  A table in memory: its block, and the two lists that it owns; which blocks a call may turn.
-/
import Derived.Test.YtlimfgmmbkgeeaaTbM
import Derived.Test.YtlimfgmmbkgeeaaRows
import Derived.WalkKit
import Derived.ProofKit
import Derived.OpenShut
import Derived.Handy
import Derived.Outline
import Derived.WalkMore
import Derived.LoopTactic
import Derived.Deep.Cut
import Derived.Deep.LoopGhost
import Derived.Deep.AppendLies
import Derived.Deep.QuietTactic
import Derived.Laws.OwnMore
import Derived.Lib.OwnBridge
namespace Go.Proofs.Ytlimfgmmbkgeeaa
open Go.RowKit
set_option linter.unusedVariables false
set_option maxRecDepth 100000

/-- A block and its cells. -/
def Blk (t : TypeId) (w : World) (b : Nat) (cs : Array Value) : Prop := w.heap[b]? = some (.cells cs t (0, 0))
section
variable {t : TypeId} {w w' : World} {b : Nat} {cs : Array Value}
theorem Blk.lt (h : Blk t w b cs) : b < w.heap.size := (Array.getElem?_eq_some_iff.1 h).1
theorem Blk.below (h : Blk t w b cs) (hb : Below w.heap.size w w') : Blk t w' b cs := (hb.block b h.lt).trans h
theorem Blk.new (w : World) (cs : Array Value) (t : TypeId) : Blk t (w.alloc (.cells cs t)) w.heap.size cs := show (w.heap.push _)[w.heap.size]? = some _ by simp
theorem Blk.far (h : Blk t w b cs) {a : Addr} (hne : b ≠ a.block) (u : Value) : Blk t (w.setCell a u) b cs := (Below.heap_setCell w a u b hne).trans h
theorem Blk.cell (h : Blk t w b cs) (i : Nat) (v : Value) (hi : cs[i]? = some v) : w.cell? ⟨b, i, none⟩ = some v := by
  unfold Blk at h
  simp [World.cell?, h, hi]
theorem Blk.free (h : Blk t w b cs) (i : Nat) : w.frozen? ⟨b, i, none⟩ = false := by
  unfold Blk at h
  simp [World.frozen?, h]
theorem Blk.set (h : Blk t w b cs) (i : Nat) (v : Value) : Blk t (w.setCell ⟨b, i, none⟩ v) b (cs.setIfInBounds i v) := by
  unfold Blk at h ⊢
  simp [World.setCell, Array.getElem?_modify, h]
theorem Blk.drewN (h : Blk t w b cs) (q : Nat) : Blk t (w.drewN q) b cs := h
end
theorem below_allocs (w : World) (o : Obj) : Below w.heap.size w (w.alloc o) := (Below.refl _ w).alloc (Nat.le_refl _) _
theorem below_then {w V w' : World} (h : Below w.heap.size w V) (k : Below V.heap.size V w') : Below w.heap.size w w' := h.trans (k.mono h.size)

/-- Which blocks may have turned: those of F, no others. -/
structure Kept (F : Nat → Prop) (w w' : World) : Prop where
  os : w'.os = w.os
  tape : w'.tape = w.tape
  output : w'.output = w.output
  size : w.heap.size ≤ w'.heap.size
  block : ∀ b, b < w.heap.size → ¬ F b → w'.heap[b]? = w.heap[b]?
/-- F, and what was made since. -/
def Ext (F : Nat → Prop) (w w' : World) : Nat → Prop := fun b => F b ∨ (w.heap.size ≤ b ∧ b < w'.heap.size)
section
variable {F G : Nat → Prop} {w V w' : World}
theorem Kept.refl (F : Nat → Prop) (w : World) : Kept F w w := ⟨rfl, rfl, rfl, Nat.le_refl _, fun _ _ _ => rfl⟩
theorem Kept.of_below (h : Below w.heap.size w w') : Kept F w w' := ⟨h.os, h.tape, h.output, h.size, fun b hb _ => h.block b hb⟩
theorem Kept.trans (h : Kept F w V) (k : Kept (Ext F w V) V w') : Kept F w w' :=
  ⟨k.os.trans h.os, k.tape.trans h.tape, k.output.trans h.output, Nat.le_trans h.size k.size, fun b hb hn => (k.block b (Nat.lt_of_lt_of_le hb h.size) (fun e => e.elim hn (fun e => by omega))).trans (h.block b hb hn)⟩
theorem Kept.mono (h : Kept F w w') (k : ∀ b, b < w.heap.size → F b → G b) : Kept G w w' := ⟨h.os, h.tape, h.output, h.size, fun b hb hn => h.block b hb (fun e => hn (k b hb e))⟩
theorem Kept.then (h : Kept F w V) (k : Kept F V w') : Kept F w w' := h.trans (k.mono fun _ _ e => .inl e)
theorem Kept.below {B : Nat} (h : Kept F w w') (hF : ∀ b, F b → B ≤ b) (hB : B ≤ w.heap.size) : Below B w w' := ⟨h.os, h.tape, h.output, h.size, fun b hb => h.block b (Nat.lt_of_lt_of_le hb hB) (fun e => by have := hF b e; omega)⟩
theorem Kept.set (h : Kept F w w') {a : Addr} (hF : F a.block ∨ w.heap.size ≤ a.block) (u : Value) : Kept F w (w'.setCell a u) :=
  ⟨h.os, h.tape, h.output, by simpa [World.setCell] using h.size, fun b hb hn => (Below.heap_setCell w' a u b (fun e => by subst e; exact hF.elim hn (by omega))).trans (h.block b hb hn)⟩
theorem Kept.drewN (h : Kept F w w') (q : Nat) : Kept F w (w'.drewN q) := ⟨h.os, h.tape, h.output, h.size, h.block⟩
theorem Kept.grown {row : Option Nat} (h : w.grownBy w' row) (k : ∀ b, row = some b → F b) : Kept F w w' := ⟨h.os, h.tape, h.output, h.size, fun b hb hn => h.block b hb (fun e => hn (k b e.symm))⟩
theorem Blk.kept {t : TypeId} {b : Nat} {cs : Array Value} (h : Blk t w b cs) (k : Kept F w w') (hn : ¬ F b) : Blk t w' b cs := (k.block b h.lt hn).trans h
theorem owns_kept {base : Nat} {e : TypeId} {size : Nat} {v : Value} {n : Nat} {xs : List Value} (h : w.ownsRow base e size v n xs) (k : Kept F w w') (hn : ∀ b, v.ownBlock = some b → ¬ F b) : w'.ownsRow base e size v n xs := by
  refine ⟨h.1, ?_⟩
  rcases h.2 with hz | ⟨g, cap, cur, rfl, hg, hh, rest⟩
  · exact .inl hz
  · exact .inr ⟨g, cap, cur, rfl, hg, by rw [k.block g (Array.getElem?_eq_some_iff.1 hh).1 (hn g rfl)]; exact hh, rest⟩
end
theorem owns_base {w : World} {base base' : Nat} {e : TypeId} {size : Nat} {v : Value} {n : Nat} {xs : List Value} (h : w.ownsRow base e size v n xs) (hb : ∀ b, v.ownBlock = some b → base' ≤ b) : w.ownsRow base' e size v n xs := by
  refine ⟨h.1, ?_⟩
  rcases h.2 with hz | ⟨g, cap, cur, rfl, hg, rest⟩
  · exact .inl hz
  · exact .inr ⟨g, cap, cur, rfl, hb g rfl, rest⟩

/-- A table's block p and its lists sh and sv. -/
structure TG (w : World) (p : Nat) (sh sv : Value) (hs vs : List Int) (n : Int) : Prop where
  blk : Blk 55 w p #[sh, sv, .int .i64 n]
  hs : w.ownsRow 0 3 1 sh hs.length (hs.map (Value.int .i64))
  vs : w.ownsRow 0 26 1 sv vs.length (vs.map (Value.int .u64))
  n1 : sh.ownBlock ≠ some p
  n2 : sv.ownBlock ≠ some p
  n3 : ∀ b, sh.ownBlock = some b → sv.ownBlock ≠ some b
structure Foot (F : Nat → Prop) (p : Nat) (sh sv : Value) : Prop where
  p : F p
  h : ∀ b, sh.ownBlock = some b → F b
  v : ∀ b, sv.ownBlock = some b → F b
def Tb.v (t : Tb) : List Int := t.l.map Prod.snd
/-- A table whose blocks all are of F. -/
structure At (w : World) (p : Nat) (F : Nat → Prop) (t : Tb) : Prop where
  ex : ∃ sh sv, TG w p sh sv t.h t.v t.n ∧ Foot F p sh sv
  lt : ∀ b, F b → b < w.heap.size
  ok : t.Ok
section
variable {F G : Nat → Prop} {w w' : World} {p : Nat} {t : Tb} {sh sv : Value} {hs vs : List Int} {n : Int}
theorem At.self (h : At w p F t) : F p := by obtain ⟨_, _, _, k⟩ := h.ex; exact k.p
theorem At.plt (h : At w p F t) : p < w.heap.size := h.lt p h.self
theorem TG.kept (h : TG w p sh sv hs vs n) (k : Kept F w w') (hp : ¬ F p) (h1 : ∀ b, sh.ownBlock = some b → ¬ F b) (h2 : ∀ b, sv.ownBlock = some b → ¬ F b) : TG w' p sh sv hs vs n :=
  ⟨h.blk.kept k hp, owns_kept h.hs k h1, owns_kept h.vs k h2, h.n1, h.n2, h.n3⟩
theorem TG.below (h : TG w p sh sv hs vs n) (hb : Below w.heap.size w w') : TG w' p sh sv hs vs n := h.kept (F := fun _ => False) (Kept.of_below hb) id (fun _ _ => id) (fun _ _ => id)
theorem At.kept (h : At w p F t) (k : Kept G w w') (hd : ∀ b, F b → ¬ G b) : At w' p F t := by
  obtain ⟨sh, sv, T, f⟩ := h.ex
  exact ⟨⟨sh, sv, T.kept k (hd _ f.p) (fun b e => hd _ (f.h b e)) (fun b e => hd _ (f.v b e)), f⟩, fun b e => Nat.lt_of_lt_of_le (h.lt b e) k.size, h.ok⟩
theorem At.below (h : At w p F t) (hb : Below w.heap.size w w') : At w' p F t := h.kept (G := fun _ => False) (Kept.of_below hb) (fun _ _ e => e)
theorem own_slice {e : TypeId} {size k : Nat} {v : Value} {xs : List Value} (h : w.ownsRow 0 e size v k xs) : ∃ A cap, v = .slice A k cap ∧ k ≤ cap ∧ cap ≤ 9223372036854775807 := by
  rcases h.2 with ⟨e, rfl⟩ | ⟨g, cap, cur, e, _, _, h1, h2, _⟩
  · exact ⟨none, 0, e, Nat.le_refl _, by decide⟩
  · exact ⟨_, _, e, h1, h2⟩
/-- A table on its way, since w0. -/
structure Mv (F : Nat → Prop) (w0 w : World) (p : Nat) (sh sv : Value) (hs vs : List Int) (n : Int) : Prop where
  tg : TG w p sh sv hs vs n
  foot : Foot (Ext F w0 w) p sh sv
  kept : Kept F w0 w
  lt : ∀ b, F b → b < w0.heap.size
theorem At.mv (h : At w p F t) : ∃ sh sv, Mv F w w p sh sv t.h t.v t.n := by
  obtain ⟨sh, sv, T, f⟩ := h.ex
  exact ⟨sh, sv, T, ⟨.inl f.p, fun b e => .inl (f.h b e), fun b e => .inl (f.v b e)⟩, Kept.refl _ _, h.lt⟩
end
/-- What a call that turns a table leaves behind. -/
structure Post (F : Nat → Prop) (w : World) (p : Nat) (t : Tb) (w' : World) : Prop where
  at' : At w' p (Ext F w w') t
  kept : Kept F w w'
section
variable {F : Nat → Prop} {w0 w w1 : World} {p : Nat} {sh sv v' : Value} {hs vs hs' vs' : List Int} {n : Int}
theorem Mv.post {t : Tb} (h : Mv F w0 w p sh sv t.h t.v t.n) (k : t.Ok) : Post F w0 p t w :=
  ⟨⟨⟨sh, sv, h.tg, h.foot⟩, fun b e => e.elim (fun e => Nat.lt_of_lt_of_le (h.lt b e) h.kept.size) (fun e => e.2), k⟩, h.kept⟩
theorem ext_more {b : Nat} (hs : w.heap.size ≤ w1.heap.size) (h : Ext F w0 w b) : Ext F w0 w1 b := h.elim .inl fun e => .inr ⟨e.1, Nat.lt_of_lt_of_le e.2 hs⟩
/-- The handles' list is another one, or of other numbers. -/
theorem Mv.setH (h : Mv F w0 w p sh sv hs vs n) (hk : Kept (fun b => sh.ownBlock = some b) w w1) (ho : w1.ownsRow 0 3 1 v' hs'.length (hs'.map (Value.int .i64))) (hat : ∀ b, v'.ownBlock = some b → sh.ownBlock = some b ∨ w.heap.size ≤ b) :
    Mv F w0 (w1.setCell ⟨p, 0, none⟩ v') p v' sv hs' vs n := by
  have hp : p < w.heap.size := h.tg.blk.lt
  have hv : ∀ b, v'.ownBlock = some b → b < w1.heap.size := fun b e => (ho.lt b e).2
  have nv : v'.ownBlock ≠ some p := fun e => (hat p e).elim h.tg.n1 (fun q => by omega)
  have ss : (w1.setCell ⟨p, 0, none⟩ v').heap.size = w1.heap.size := by simp [World.setCell]
  have b1 : Blk 55 w1 p #[sh, sv, .int .i64 n] := h.tg.blk.kept hk h.tg.n1
  have v1 := owns_kept h.tg.vs hk (fun b e f => h.tg.n3 b f e)
  have k2 : Kept (fun b => b = p) w1 (w1.setCell ⟨p, 0, none⟩ v') := (Kept.refl (fun b => b = p) w1).set (a := ⟨p, _, none⟩) (.inl rfl) _
  have hx : ∀ b, Ext F w0 w b → Ext F w0 (w1.setCell ⟨p, 0, none⟩ v') b := fun b e => ext_more (by rw [ss]; exact hk.size) e
  refine ⟨⟨b1.set 0 v', owns_kept ho k2 (fun b e f => nv (f ▸ e)), owns_kept v1 k2 (fun b e f => h.tg.n2 (f ▸ e)), nv, h.tg.n2, fun b e f => ?_⟩, ⟨hx p h.foot.p, fun b e => ?_, fun b e => hx b (h.foot.v b e)⟩, ?_, h.lt⟩
  · rcases hat b e with q | q
    · exact h.tg.n3 b q f
    · have := (h.tg.vs.lt b f).2; omega
  · rcases hat b e with q | q
    · exact hx b (h.foot.h b q)
    · exact .inr ⟨Nat.le_trans h.kept.size q, by rw [ss]; exact hv b e⟩
  · refine h.kept.trans ((hk.mono fun b _ e => h.foot.h b e).set (.inl h.foot.p) _)
/-- The values' list is another one, or of other numbers. -/
theorem Mv.setV (h : Mv F w0 w p sh sv hs vs n) (hk : Kept (fun b => sv.ownBlock = some b) w w1) (ho : w1.ownsRow 0 26 1 v' vs'.length (vs'.map (Value.int .u64))) (hat : ∀ b, v'.ownBlock = some b → sv.ownBlock = some b ∨ w.heap.size ≤ b) :
    Mv F w0 (w1.setCell ⟨p, 1, none⟩ v') p sh v' hs vs' n := by
  have hp : p < w.heap.size := h.tg.blk.lt
  have hv : ∀ b, v'.ownBlock = some b → b < w1.heap.size := fun b e => (ho.lt b e).2
  have nv : v'.ownBlock ≠ some p := fun e => (hat p e).elim h.tg.n2 (fun q => by omega)
  have ss : (w1.setCell ⟨p, 1, none⟩ v').heap.size = w1.heap.size := by simp [World.setCell]
  have b1 : Blk 55 w1 p #[sh, sv, .int .i64 n] := h.tg.blk.kept hk h.tg.n2
  have v1 := owns_kept h.tg.hs hk (fun b e f => h.tg.n3 b e f)
  have k2 : Kept (fun b => b = p) w1 (w1.setCell ⟨p, 1, none⟩ v') := (Kept.refl (fun b => b = p) w1).set (a := ⟨p, _, none⟩) (.inl rfl) _
  have hx : ∀ b, Ext F w0 w b → Ext F w0 (w1.setCell ⟨p, 1, none⟩ v') b := fun b e => ext_more (by rw [ss]; exact hk.size) e
  refine ⟨⟨b1.set 1 v', owns_kept v1 k2 (fun b e f => h.tg.n1 (f ▸ e)), owns_kept ho k2 (fun b e f => nv (f ▸ e)), h.tg.n1, nv, fun b e f => ?_⟩, ⟨hx p h.foot.p, fun b e => hx b (h.foot.h b e), fun b e => ?_⟩, ?_, h.lt⟩
  · rcases hat b f with q | q
    · exact h.tg.n3 b e q
    · have := (h.tg.hs.lt b e).2; omega
  · rcases hat b e with q | q
    · exact hx b (h.foot.v b q)
    · exact .inr ⟨Nat.le_trans h.kept.size q, by rw [ss]; exact hv b e⟩
  · refine h.kept.trans ((hk.mono fun b _ e => h.foot.v b e).set (.inl h.foot.p) _)
/-- The next handle is another one. -/
theorem Mv.setN (h : Mv F w0 w p sh sv hs vs n) (m : Int) : Mv F w0 (w.setCell ⟨p, 2, none⟩ (.int .i64 m)) p sh sv hs vs m := by
  have ss : (w.setCell ⟨p, 2, none⟩ (.int .i64 m)).heap.size = w.heap.size := by simp [World.setCell]
  have k2 : Kept (fun b => b = p) w (w.setCell ⟨p, 2, none⟩ (.int .i64 m)) := (Kept.refl (fun b => b = p) w).set (a := ⟨p, _, none⟩) (.inl rfl) _
  have hx : ∀ b, Ext F w0 w b → Ext F w0 (w.setCell ⟨p, 2, none⟩ (.int .i64 m)) b := fun b e => ext_more (Nat.le_of_eq ss.symm) e
  exact ⟨⟨h.tg.blk.set 2 _, owns_kept h.tg.hs k2 (fun b e f => h.tg.n1 (f ▸ e)), owns_kept h.tg.vs k2 (fun b e f => h.tg.n2 (f ▸ e)), h.tg.n1, h.tg.n2, h.tg.n3⟩, ⟨hx p h.foot.p, fun b e => hx b (h.foot.h b e), fun b e => hx b (h.foot.v b e)⟩,
    h.kept.trans ((Kept.refl _ w).set (.inl h.foot.p) _), h.lt⟩
/-- Nothing of what was there has turned. -/
theorem Mv.below (h : Mv F w0 w p sh sv hs vs n) (hb : Below w.heap.size w w1) : Mv F w0 w1 p sh sv hs vs n :=
  ⟨h.tg.below hb, ⟨ext_more hb.size h.foot.p, fun b e => ext_more hb.size (h.foot.h b e), fun b e => ext_more hb.size (h.foot.v b e)⟩, h.kept.trans (Kept.of_below hb), h.lt⟩
end
/-- Two sets of blocks have none in common. -/
def Apart (F G : Nat → Prop) : Prop := ∀ b, F b → ¬ G b
theorem Apart.ext {F G : Nat → Prop} {w w' : World} (h : Apart F G) (hG : ∀ b, G b → b < w.heap.size) : Apart (Ext F w w') G := fun b hf hg => hf.elim (fun e => h b e hg) (fun e => by have := hG b hg; omega)
theorem Apart.symm {F G : Nat → Prop} (h : Apart F G) : Apart G F := fun b hf hg => h b hg hf
theorem infoI : (Try.prog.info? 3).map (fun i => (i.zero, i.size, i.bytes)) = some (some (.int .i64 0), 1, 8) := by kernel_rfl
theorem infoU : (Try.prog.info? 26).map (fun i => (i.zero, i.size, i.bytes)) = some (some (.int .u64 0), 1, 8) := by kernel_rfl
theorem info_parts {e : TypeId} {z : Value} {s b : Nat} (h : (Try.prog.info? e).map (fun i => (i.zero, i.size, i.bytes)) = some (some z, s, b)) : ∃ i, Try.prog.info? e = some i ∧ i.zero = some z ∧ i.size = s ∧ i.bytes = b := by
  cases hi : Try.prog.info? e with
  | none => rw [hi] at h; cases h
  | some i =>
    rw [hi] at h
    simp only [Option.map_some, Option.some.injEq, Prod.mk.injEq] at h
    exact ⟨i, rfl, h.1, h.2.1, h.2.2⟩
theorem new1 (w : World) (v : Value) (t : TypeId) : ∀ (j : Nat) (u : Value), [v][j]? = some u → (w.alloc (.cells #[v] t)).cell? ((⟨w.heap.size, 0, none⟩ : Addr).add j) = some u := by
  intro j u hu
  match j, hu with
  | 0, hu =>
    simp only [List.getElem?_cons_zero, Option.some.injEq] at hu
    subst hu
    rw [Addr.add_lit]
    exact (Blk.new w #[v] t).cell 0 v rfl
end Go.Proofs.Ytlimfgmmbkgeeaa
