/-
  Part 3 of what the statements of this seat stand on: XshA XxjZ XxjM XxjA XxjB XxjN XxjC XxjD XxjE.
-/
import Derived.Test.YtemgoikghaiamaaDoorBase1
import Derived.Deep.LoopGhost
import Derived.BigQuiet
import Derived.Deep.WholeRow
import Derived.Deep.MidRow
import Derived.Great.Walk
import Derived.Deep.RegionWith
import Derived.Deep.DeepCutAuto
/-
  What the calls of package xosh answer that are steps, sums and words of states; and those of the document's answer.
-/
namespace Go.Proofs.YtemgoikghaiamaaDoor
open Go.RowKit G
set_option linter.unusedVariables false

/-- A state's value. -/
abbrev _root_.Go.Proofs.YtemgoikghaiamaaDoor.G.St.val (s : St) : Value := .agg #[.int .u64 (s.a : Int), .int .u64 (s.b : Int), .int .u64 (s.c : Int), .int .u64 (s.d : Int)]
/-- An answer that is a word; nothing is turned. -/
def AnsX (n : Nat) (w : World) (e : Ending) (w' : World) : Prop := e = .returned (.int .u64 (n : Int)) ∧ Below w.heap.size w w'
/-- An answer that is a state. -/
def AnsS (s : St) (w : World) (e : Ending) (w' : World) : Prop := e = .returned s.val ∧ Below w.heap.size w w'

theorem tn_int {x : Nat} (k m : Nat) (h : x < 18446744073709551616) (hm : 64 - k = m) : bits .or .u64 (IntKind.u64.wrap ((x : Int) * 2 ^ k)) ((x : Int) / 2 ^ m) = ((tn k x : Nat) : Int) := by
  subst hm; exact or_int x x k h
theorem cTurn45 (x : Nat) (h : x < 18446744073709551616) (w : World) : Calls Tryd.prog 53 #[.int .u64 x, .int .i64 45] w (fun e w' => e = .returned (.int .u64 ((tn 45 x : Nat) : Int)) ∧ w' = w) := by
  have q : bits .and .u64 45 63 = 45 := by decide
  go_enter Tryd.func53, Tryd.ntmps53
  go_wp2
  go_ret
  exact ⟨by rw [← tn_int 45 _ h rfl]; rfl, rfl⟩
theorem cTurn7 (x : Nat) (h : x < 18446744073709551616) (w : World) : Calls Tryd.prog 53 #[.int .u64 x, .int .i64 7] w (fun e w' => e = .returned (.int .u64 ((tn 7 x : Nat) : Int)) ∧ w' = w) := by
  have q : bits .and .u64 7 63 = 7 := by decide
  go_enter Tryd.func53, Tryd.ntmps53
  go_wp2
  go_ret
  exact ⟨by rw [← tn_int 7 _ h rfl]; rfl, rfl⟩
theorem cTurnBack (x : Nat) (h : x < 18446744073709551616) (w : World) : Calls Tryd.prog 53 #[.int .u64 x, .int .i64 (-45)] w (fun e w' => e = .returned (.int .u64 ((tn 19 x : Nat) : Int)) ∧ w' = w) := by
  have q : bits .and .u64 18446744073709551571 63 = 19 := by decide
  have q2 : IntKind.u64.wrap (-45) = 18446744073709551571 := by decide
  go_enter Tryd.func53, Tryd.ntmps53
  go_wp2
  go_ret
  exact ⟨by rw [← tn_int 19 _ h rfl]; rfl, rfl⟩

theorem mulX (x y : Nat) : IntKind.u64.wrap ((x : Int) * (y : Int)) = ((x * y % 18446744073709551616 : Nat) : Int) := by rw [IntKind.wrap_u64]; omega
theorem slI {x : Nat} (n : Nat) : IntKind.u64.wrap ((x : Int) * 2 ^ n) = ((sl n x : Nat) : Int) := by rw [mul_int, wrap_nat]; rfl
/-- Two states, or two rows of four words, that are compared as a whole. -/
def Eq4 (t : TypeId) : Prop := ∀ (a b c d a' b' c' d' : Int) (w : World), Sem.run Tryd.prog (Op.equalIn 10000 t (.agg #[.int .u64 a, .int .u64 b, .int .u64 c, .int .u64 d]) (.agg #[.int .u64 a', .int .u64 b', .int .u64 c', .int .u64 d'])) w = .ok (a == a' && (b == b' && (c == c' && d == d'))) w
theorem eqIn4 (t : TypeId) (n : Nat) (ht : Tryd.prog.underlying t = some (.array 4 22)) (a b c d a' b' c' d' : Int) (w : World) : Sem.run Tryd.prog (Op.equalIn (n + 1 + 1) t (.agg #[.int .u64 a, .int .u64 b, .int .u64 c, .int .u64 d]) (.agg #[.int .u64 a', .int .u64 b', .int .u64 c', .int .u64 d'])) w = .ok (a == a' && (b == b' && (c == c' && d == d'))) w := by
  have u3 := Tryd.underlying22
  have a3 := Tryd.isAgg22
  have z3 := Tryd.sizeOf22
  have q := fun a b => run_equalIn_int w n _ .u64 .u64 a b u3
  rw [Op.equalIn]
  simp only [Sem.run_bind, run_underlying ht, Result.andThen_ok]
  simp only [Std.Legacy.Range.forIn_eq_forIn_range', Std.Legacy.Range.size, Nat.sub_zero, Nat.add_sub_cancel, Nat.div_one, List.range'_succ, List.range'_zero, List.forIn_cons, List.forIn_nil]
  go_simp
  by_cases h1 : a = a' <;> by_cases h2 : b = b' <;> by_cases h3 : c = c' <;> by_cases h4 : d = d' <;> simp [h1, h2, h3, h4]
theorem eq4 (t : TypeId) (ht : Tryd.prog.underlying t = some (.array 4 22)) : Eq4 t := fun a b c d a' b' c' d' w => eqIn4 t 9998 ht a b c d a' b' c' d' w
theorem eqS : Eq4 24 := eq4 _ Tryd.underlying24
theorem eqR : Eq4 23 := eq4 _ Tryd.underlying23
theorem same_iff (s t : St) : ((s.a : Int) == (t.a : Int) && ((s.b : Int) == (t.b : Int) && ((s.c : Int) == (t.c : Int) && (s.d : Int) == (t.d : Int)))) = decide (s = t) := by
  have : (((s.a : Int) == (t.a : Int) && ((s.b : Int) == (t.b : Int) && ((s.c : Int) == (t.c : Int) && (s.d : Int) == (t.d : Int)))) = true) ↔ s = t := by
    simp only [Bool.and_eq_true, beq_iff_eq]
    constructor
    · rintro ⟨h1, h2, h3, h4⟩
      exact St.same (by omega) (by omega) (by omega) (by omega)
    · rintro rfl; exact ⟨rfl, rfl, rfl, rfl⟩
  cases h : ((s.a : Int) == (t.a : Int) && ((s.b : Int) == (t.b : Int) && ((s.c : Int) == (t.c : Int) && (s.d : Int) == (t.d : Int))))
  · rw [h] at this
    exact (decide_eq_false (fun e => by simpa using this.2 e)).symm
  · rw [h] at this
    exact (decide_eq_true (this.1 rfl)).symm
/-- Two states compared. -/
theorem sameS (s t : St) (w : World) : Sem.run Tryd.prog (Op.equalIn 10000 24 s.val t.val) w = .ok (decide (s = t)) w := by
  rw [← same_iff]; exact eqS _ _ _ _ _ _ _ _ w
theorem sameR (s t : St) (w : World) : Sem.run Tryd.prog (Op.equalIn 10000 23 s.val t.val) w = .ok (decide (s = t)) w := by
  rw [← same_iff]; exact eqR _ _ _ _ _ _ _ _ w
theorem sameZ (s : St) (w : World) : Sem.run Tryd.prog (Op.equalIn 10000 24 (.agg #[.int .u64 s.a, .int .u64 s.b, .int .u64 s.c, .int .u64 s.d]) (.agg #[.int .u64 0, .int .u64 0, .int .u64 0, .int .u64 0])) w = .ok (decide (s = St.zero)) w := sameS s St.zero w
theorem below_put {B b : Nat} {a w : World} {x y z u : Value} (h : Below B a w) (hb : B ≤ b) : Below B a ((((w.setCell ⟨b, 0, none⟩ x).setCell ⟨b, 1, none⟩ y).setCell ⟨b, 2, none⟩ z).setCell ⟨b, 3, none⟩ u) :=
  (((h.setCell hb _).setCell hb _).setCell hb _).setCell hb _
/-- A state in memory: a block of four cells. -/
def Bx (t : TypeId) (w : World) (b : Nat) (s : St) : Prop := w.heap[b]? = some (.cells #[.int .u64 (s.a : Int), .int .u64 (s.b : Int), .int .u64 (s.c : Int), .int .u64 (s.d : Int)] t (0, 0))
section
variable {t : TypeId} {w w' : World} {b x : Nat} {s s' : St}
theorem Bx.lt (h : Bx t w b s) : b < w.heap.size := (Array.getElem?_eq_some_iff.1 h).1
theorem Bx.cells (h : Bx t w b s) : w.cell? ⟨b, 0, none⟩ = some (.int .u64 (s.a : Int)) ∧ w.cell? ⟨b, 1, none⟩ = some (.int .u64 (s.b : Int)) ∧ w.cell? ⟨b, 2, none⟩ = some (.int .u64 (s.c : Int)) ∧ w.cell? ⟨b, 3, none⟩ = some (.int .u64 (s.d : Int)) := by
  unfold Bx at h
  refine ⟨?_, ?_, ?_, ?_⟩ <;> simp [World.cell?, h]
theorem Bx.free (h : Bx t w b s) : w.frozen? ⟨b, 0, none⟩ = false ∧ w.frozen? ⟨b, 1, none⟩ = false ∧ w.frozen? ⟨b, 2, none⟩ = false ∧ w.frozen? ⟨b, 3, none⟩ = false := by
  unfold Bx at h
  refine ⟨?_, ?_, ?_, ?_⟩ <;> simp [World.frozen?, h]
theorem Bx.new (w : World) (s : St) (t : TypeId) : Bx t (w.alloc (.cells #[.int .u64 (s.a : Int), .int .u64 (s.b : Int), .int .u64 (s.c : Int), .int .u64 (s.d : Int)] t)) w.heap.size s := by
  show (w.heap.push _)[w.heap.size]? = some _
  simp
theorem Bx.alloc (h : Bx t w b s) (o : Obj) : Bx t (w.alloc o) b s := by
  show (w.heap.push o)[b]? = _
  rw [Array.getElem?_push, if_neg (Nat.ne_of_lt h.lt)]; exact h
theorem Bx.below (h : Bx t w b s) (hb : Below w.heap.size w w') : Bx t w' b s := (hb.block b h.lt).trans h
theorem Bx.drewN (h : Bx t w b s) (n : Nat) : Bx t (w.drewN n) b s := h
theorem Bx.far (h : Bx t w b s) {p : Addr} (hne : b ≠ p.block) (u : Value) : Bx t (w.setCell p u) b s := (Below.heap_setCell w p u b hne).trans h
theorem Bx.at (h : Bx t w b s) (i : Nat) (v : Value) : (w.setCell ⟨b, i, none⟩ v).heap[b]? = some (.cells ((#[.int .u64 (s.a : Int), .int .u64 (s.b : Int), .int .u64 (s.c : Int), .int .u64 (s.d : Int)] : Array Value).setIfInBounds i v) t (0, 0)) := by
  unfold Bx at h
  simp [World.setCell, Array.getElem?_modify, h]
theorem Bx.set0 (h : Bx t w b s) (x : Nat) : Bx t (w.setCell ⟨b, 0, none⟩ (.int .u64 (x : Int))) b ⟨x, s.b, s.c, s.d⟩ := (h.at 0 _).trans rfl
theorem Bx.set1 (h : Bx t w b s) (x : Nat) : Bx t (w.setCell ⟨b, 1, none⟩ (.int .u64 (x : Int))) b ⟨s.a, x, s.c, s.d⟩ := (h.at 1 _).trans rfl
theorem Bx.set2 (h : Bx t w b s) (x : Nat) : Bx t (w.setCell ⟨b, 2, none⟩ (.int .u64 (x : Int))) b ⟨s.a, s.b, x, s.d⟩ := (h.at 2 _).trans rfl
theorem Bx.set3 (h : Bx t w b s) (x : Nat) : Bx t (w.setCell ⟨b, 3, none⟩ (.int .u64 (x : Int))) b ⟨s.a, s.b, s.c, x⟩ := (h.at 3 _).trans rfl
theorem Bx.put (h : Bx t w b s) (n : St) : Bx t ((((w.setCell ⟨b, 0, none⟩ (.int .u64 (n.a : Int))).setCell ⟨b, 1, none⟩ (.int .u64 (n.b : Int))).setCell ⟨b, 2, none⟩ (.int .u64 (n.c : Int))).setCell ⟨b, 3, none⟩ (.int .u64 (n.d : Int))) b n := (((h.set0 n.a).set1 n.b).set2 n.c).set3 n.d
theorem Bx.far4 (h : Bx t w b s) (hne : b ≠ x) (u v y z : Value) : Bx t ((((w.setCell ⟨x, 0, none⟩ u).setCell ⟨x, 1, none⟩ v).setCell ⟨x, 2, none⟩ y).setCell ⟨x, 3, none⟩ z) b s := (((h.far hne u).far hne v).far hne y).far hne z
end
/-- All blocks but one are as they were. -/
structure But1 (x : Nat) (w w' : World) : Prop where
  os : w'.os = w.os
  tape : w'.tape = w.tape
  output : w'.output = w.output
  size : w.heap.size ≤ w'.heap.size
  block : ∀ j, j < w.heap.size → j ≠ x → w'.heap[j]? = w.heap[j]?
theorem But1.low {x B : Nat} {w w' : World} (h : But1 x w w') (hx : B ≤ x) (hB : B ≤ w.heap.size) : Below B w w' := ⟨h.os, h.tape, h.output, h.size, fun k hk => h.block k (by omega) (by omega)⟩
theorem But1.of_below {x : Nat} {w w' : World} (h : Below w.heap.size w w') : But1 x w w' := ⟨h.os, h.tape, h.output, h.size, fun k hk _ => h.block k hk⟩
theorem But1.set {x : Nat} {a w : World} (h : But1 x a w) (i : Nat) (u : Value) : But1 x a (w.setCell ⟨x, i, none⟩ u) :=
  ⟨h.os, h.tape, h.output, by show _ ≤ (w.setCell _ u).heap.size; rw [World.setCell]; simpa using h.size, fun k hk hne => (Below.heap_setCell w ⟨x, i, none⟩ u k hne).trans (h.block k hk hne)⟩
theorem But1.put {x : Nat} {a w : World} (h : But1 x a w) (u v y z : Value) : But1 x a ((((w.setCell ⟨x, 0, none⟩ u).setCell ⟨x, 1, none⟩ v).setCell ⟨x, 2, none⟩ y).setCell ⟨x, 3, none⟩ z) := (((h.set 0 u).set 1 v).set 2 y).set 3 z
theorem But1.far {x b : Nat} {a w : World} (h : But1 x a w) (hb : a.heap.size ≤ b) (i : Nat) (u : Value) : But1 x a (w.setCell ⟨b, i, none⟩ u) :=
  ⟨h.os, h.tape, h.output, by show _ ≤ (w.setCell _ u).heap.size; rw [World.setCell]; simpa using h.size, fun k hk hne => (Below.heap_setCell w ⟨b, i, none⟩ u k (by show k ≠ b; omega)).trans (h.block k hk hne)⟩
theorem But1.far4 {x b : Nat} {a w : World} (h : But1 x a w) (hb : a.heap.size ≤ b) (u v y z : Value) : But1 x a ((((w.setCell ⟨b, 0, none⟩ u).setCell ⟨b, 1, none⟩ v).setCell ⟨b, 2, none⟩ y).setCell ⟨b, 3, none⟩ z) := (((h.far hb 0 u).far hb 1 v).far hb 2 y).far hb 3 z
theorem step_vals (s : St) (h : s.Ok) : bits .xor .u64 (s.d : Int) (s.b : Int) = ((s.d ^^^ s.b : Nat) : Int) ∧ bits .xor .u64 (s.a : Int) ((s.d ^^^ s.b : Nat) : Int) = (((stepS s).a : Nat) : Int) ∧ bits .xor .u64 (s.c : Int) (s.a : Int) = ((s.c ^^^ s.a : Nat) : Int) ∧ bits .xor .u64 (s.b : Int) ((s.c ^^^ s.a : Nat) : Int) = (((stepS s).b : Nat) : Int) ∧ IntKind.u64.wrap ((s.b : Int) * 131072) = ((sl 17 s.b : Nat) : Int) ∧ bits .xor .u64 ((s.c ^^^ s.a : Nat) : Int) ((sl 17 s.b : Nat) : Int) = (((stepS s).c : Nat) : Int) := by
  refine ⟨xor_int _ _ h.d h.b, xor_int _ _ h.a (word_xor h.d h.b), xor_int _ _ h.c h.a, xor_int _ _ h.b (word_xor h.c h.a), ?_, xor_int _ _ (word_xor h.c h.a) (sl_lt _ _)⟩
  have := slI (x := s.b) 17
  rwa [show ((2 : Int) ^ 17) = 131072 from by decide] at this
theorem xStep (s : St) (h : s.Ok) (w : World) : Calls Tryd.prog 30 #[s.val] w (AnsS (stepS s) w) := by
  have C := cTurn45 (s.d ^^^ s.b) (word_xor h.d h.b)
  have V := Lib.hid (step_vals s h)
  rw [← V.out.1] at C
  obtain ⟨a, b, c, d⟩ := s
  clear h
  go_enter Tryd.func30, Tryd.ntmps30
  go_wp2_with fail
  go_quiet (fail)
  go_wp2_with fail
  refine (C _).mono ?_
  rintro e w1 ⟨rfl, rfl⟩
  clear C
  go_wp2
  go_returns
  obtain ⟨f1, f2, g1, g2, g3, g4⟩ := V.out
  refine ⟨by rw [f1, f2, g1, g2, g3, g4]; rfl, ?_⟩
  exact below_put (below_drewN' (below_alloc (below_alloc (Below.refl _ _) _) _) _) (Nat.le_succ _)
theorem xRight (s : St) (w : World) : Calls Tryd.prog 21 #[s.val] w (fun e w' => e = .returned (.bool (!decide (s = St.zero))) ∧ Below w.heap.size w w') := by
  have e := sameZ s
  obtain ⟨a, b, c, d⟩ := s
  generalize decide (_ = St.zero) = r at e ⊢
  go_enter Tryd.func21, Tryd.ntmps21
  go_wp2
  go_ret
  exact ⟨rfl, below_alloc (Below.refl _ _) _⟩
theorem idx (a b c d : Int) (w : World) : (Sem.run Tryd.prog (Instr.index 24 (.agg #[.int .u64 a, .int .u64 b, .int .u64 c, .int .u64 d]) (.int .i64 0)) w = .ok (.int .u64 a) w ∧ Sem.run Tryd.prog (Instr.index 24 (.agg #[.int .u64 a, .int .u64 b, .int .u64 c, .int .u64 d]) (.int .i64 1)) w = .ok (.int .u64 b) w) ∧ Sem.run Tryd.prog (Instr.index 24 (.agg #[.int .u64 a, .int .u64 b, .int .u64 c, .int .u64 d]) (.int .i64 2)) w = .ok (.int .u64 c) w ∧ Sem.run Tryd.prog (Instr.index 24 (.agg #[.int .u64 a, .int .u64 b, .int .u64 c, .int .u64 d]) (.int .i64 3)) w = .ok (.int .u64 d) w := by
  refine ⟨⟨?_, ?_⟩, ?_, ?_⟩ <;> kernel_rfl
/-- Where a sum of states is, behind so many words. -/
def addJ (s t : St) : Nat → St
  | 0 => s
  | 1 => ⟨s.a ^^^ t.a, s.b, s.c, s.d⟩
  | 2 => ⟨s.a ^^^ t.a, s.b ^^^ t.b, s.c, s.d⟩
  | 3 => ⟨s.a ^^^ t.a, s.b ^^^ t.b, s.c ^^^ t.c, s.d⟩
  | _ => addS s t
set_option maxHeartbeats 1000000 in
theorem xAdd (s t : St) (hs : s.Ok) (ht : t.Ok) (w : World) : Calls Tryd.prog 20 #[s.val, t.val] w (AnsS (addS s t) w) := by
  have E := Lib.hid (And.intro (xor_int _ _ hs.a ht.a) (And.intro (xor_int _ _ hs.b ht.b) (And.intro (xor_int _ _ hs.c ht.c) (xor_int _ _ hs.d ht.d))))
  obtain ⟨a, b, c, d⟩ := s
  obtain ⟨a', b', c', d'⟩ := t
  clear hs ht
  go_enter Tryd.func20, Tryd.ntmps20
  go_wp2_with fail
  have B1 := Bx.new w ⟨a, b, c, d⟩ 24
  have L1 := below_alloc (Below.refl w.heap.size w) (.cells #[.int .u64 (a : Int), .int .u64 (b : Int), .int .u64 (c : Int), .int .u64 (d : Int)] 24)
  have S1 : (w.alloc (.cells #[.int .u64 (a : Int), .int .u64 (b : Int), .int .u64 (c : Int), .int .u64 (d : Int)] 24)).heap.size = w.heap.size + 1 := Array.size_push _
  generalize hW1 : w.alloc _ = W1 at B1 L1 S1 ⊢
  replace B1 := B1.alloc (.cells #[.int .u64 (a' : Int), .int .u64 (b' : Int), .int .u64 (c' : Int), .int .u64 (d' : Int)] 24)
  replace L1 := below_alloc L1 (.cells #[.int .u64 (a' : Int), .int .u64 (b' : Int), .int .u64 (c' : Int), .int .u64 (d' : Int)] 24)
  have S2 : (W1.alloc (.cells #[.int .u64 (a' : Int), .int .u64 (b' : Int), .int .u64 (c' : Int), .int .u64 (d' : Int)] 24)).heap.size = w.heap.size + 1 + 1 := (Array.size_push _).trans (by rw [S1])
  clear S1 hW1
  generalize W1.alloc _ = W2 at B1 L1 S2 ⊢
  have B2 := Bx.new W2 St.zero 24
  rw [S2] at B2
  replace B1 := B1.alloc (.cells #[.int .u64 0, .int .u64 0, .int .u64 0, .int .u64 0] 24)
  replace L1 := below_alloc L1 (.cells #[.int .u64 0, .int .u64 0, .int .u64 0, .int .u64 0] 24)
  change Bx _ (W2.alloc (.cells #[.int .u64 0, .int .u64 0, .int .u64 0, .int .u64 0] 24)) _ _ at B2
  clear S2
  generalize W2.alloc _ = W3 at B1 B2 L1 ⊢
  have F := Lib.hid (And.intro B1 (And.intro B2 L1))
  clear B1 B2 L1
  go_loopg [8] 4 (fun g i wr => ∃ j : Nat, j + g = 4 ∧ i = .int .i64 j ∧ Hid (Bx 24 wr w.heap.size (addJ ⟨a, b, c, d⟩ ⟨a', b', c', d'⟩ j) ∧ Bx 24 wr (w.heap.size + 1 + 1) St.zero ∧ Below w.heap.size w wr))
  case atStart => exact ⟨0, by omega, rfl, F⟩
  case round =>
    obtain ⟨j, hg, rfl, F⟩ := hrel
    obtain ⟨e0, e1, e2, e3⟩ := E.out
    obtain ⟨G1, G2, G3⟩ := F.out
    obtain ⟨p0, p1, p2, p3⟩ := G1.cells
    obtain ⟨q0, q1, q2, q3⟩ := G1.free
    obtain ⟨⟨I0, I1⟩, I2, I3⟩ := idx (a' : Int) b' c' d' wr
    have hj : j = 0 ∨ j = 1 ∨ j = 2 ∨ j = 3 ∨ j = 4 := by omega
    have GE := Lib.hid (And.intro e0 (And.intro e1 (And.intro e2 e3)))
    clear e0 e1 e2 e3 E F
    have H1 := Lib.hid G1
    have H2 := Lib.hid G2
    have H3 := Lib.hid G3
    clear G1 G2 G3
    rcases hj with rfl | rfl | rfl | rfl | rfl
    · simp only [addJ] at p0 p1 p2 p3
      go_wp2
      go_roundg 3
      case measure => omega
      case rel => exact ⟨1, by omega, rfl, Lib.hid ⟨by rw [GE.out.1]; exact H1.out.set0 _, H2.out.far (by show _ ≠ w.heap.size; omega) _, H3.out.setCell (Nat.le_refl _) _⟩⟩
    · simp only [addJ] at p0 p1 p2 p3
      go_wp2
      go_roundg 2
      case measure => omega
      case rel => exact ⟨2, by omega, rfl, Lib.hid ⟨by rw [GE.out.2.1]; exact H1.out.set1 _, H2.out.far (by show _ ≠ w.heap.size; omega) _, H3.out.setCell (Nat.le_refl _) _⟩⟩
    · simp only [addJ] at p0 p1 p2 p3
      go_wp2
      go_roundg 1
      case measure => omega
      case rel => exact ⟨3, by omega, rfl, Lib.hid ⟨by rw [GE.out.2.2.1]; exact H1.out.set2 _, H2.out.far (by show _ ≠ w.heap.size; omega) _, H3.out.setCell (Nat.le_refl _) _⟩⟩
    · simp only [addJ] at p0 p1 p2 p3
      go_wp2
      go_roundg 0
      case measure => omega
      case rel => exact ⟨4, by omega, rfl, Lib.hid ⟨by rw [GE.out.2.2.2]; exact H1.out.set3 _, H2.out.far (by show _ ≠ w.heap.size; omega) _, H3.out.setCell (Nat.le_refl _) _⟩⟩
    · simp only [addJ, addS] at p0 p1 p2 p3
      obtain ⟨z0, z1, z2, z3⟩ := H2.out.cells
      obtain ⟨y0, y1, y2, y3⟩ := H2.out.free
      simp only [St.zero] at z0 z1 z2 z3
      have hX : w.heap.size ≤ w.heap.size + 1 + 1 := by omega
      generalize w.heap.size + 1 + 1 = X at hX z0 z1 z2 z3 y0 y1 y2 y3 H2 ⊢
      have R := H2.out.put ⟨a ^^^ a', b ^^^ b', c ^^^ c', d ^^^ d'⟩
      have LL := below_put (x := .int .u64 ((a ^^^ a' : Nat) : Int)) (y := .int .u64 ((b ^^^ b' : Nat) : Int)) (z := .int .u64 ((c ^^^ c' : Nat) : Int)) (u := .int .u64 ((d ^^^ d' : Nat) : Int)) H3.out hX
      obtain ⟨r0, r1, r2, r3⟩ := R.cells
      simp only at r0 r1 r2 r3
      clear R
      have HL := Lib.hid (And.intro LL (And.intro r0 (And.intro r1 (And.intro r2 r3))))
      clear LL r0 r1 r2 r3
      go_wp2
      generalize World.setCell (World.setCell (World.setCell (World.setCell wr _ _) _ _) _ _) _ _ = V at HL ⊢
      obtain ⟨LL, r0, r1, r2, r3⟩ := HL.out
      clear HL z0 z1 z2 z3
      try simp only [Exit.inBlock, Exit.then]
      refine bodyPost_ret (by simp [results, Tryd.results20, go_sem, r0, r1, r2, r3]; try rfl) rfl ?_
      exact ⟨rfl, LL⟩
theorem xFrom (s : St) (w : World) : Calls Tryd.prog 56 #[s.val] w (fun e w' => e = .returned (.func (.func 64) #[] #[.pointer (some ⟨w.heap.size, 0, none⟩)]) ∧ Bx 24 w' w.heap.size s ∧ Below w.heap.size w w') := by
  have B := Bx.new w s 24
  obtain ⟨a, b, c, d⟩ := s
  have HB := Lib.hid B
  clear B
  go_enter Tryd.func56, Tryd.ntmps56
  go_wp2
  go_ret
  exact ⟨rfl, HB.out, below_alloc (Below.refl _ _) _⟩
set_option maxHeartbeats 1000000 in
theorem xNext (s : St) (hs : s.Ok) (b : Nat) (w : World) (h : Bx 24 w b s) : Calls Tryd.prog 64 #[.pointer (some ⟨b, 0, none⟩)] w (fun e w' => e = .returned s.val ∧ Bx 24 w' b (stepS s) ∧ But1 b w w') := by
  have C := xStep s hs
  have HB := Lib.hid h
  obtain ⟨c0, c1, c2, c3⟩ := h.cells
  have lt := h.lt
  have ne := Nat.ne_of_lt lt
  obtain ⟨a, b', c, d⟩ := s
  clear h
  go_enter Tryd.func64, Tryd.ntmps64
  go_wp2_with fail
  have H1 := Bx.new w St.zero 24
  change Bx _ (w.alloc (.cells #[.int .u64 0, .int .u64 0, .int .u64 0, .int .u64 0] 24)) _ _ at H1
  have H0 := HB.out.alloc (.cells #[.int .u64 0, .int .u64 0, .int .u64 0, .int .u64 0] 24)
  have S1 : (w.alloc (.cells #[.int .u64 0, .int .u64 0, .int .u64 0, .int .u64 0] 24)).heap.size = w.heap.size + 1 := Array.size_push _
  have L1 := below_alloc (Below.refl w.heap.size w) (.cells #[.int .u64 0, .int .u64 0, .int .u64 0, .int .u64 0] 24)
  generalize w.alloc _ = W1 at H0 H1 S1 L1 ⊢
  have H2 := Bx.new W1 ⟨a, b', c, d⟩ 24
  rw [S1] at H2
  replace H0 := H0.alloc (.cells #[.int .u64 (a : Int), .int .u64 (b' : Int), .int .u64 (c : Int), .int .u64 (d : Int)] 24)
  replace H1 := H1.alloc (.cells #[.int .u64 (a : Int), .int .u64 (b' : Int), .int .u64 (c : Int), .int .u64 (d : Int)] 24)
  replace L1 := below_alloc L1 (.cells #[.int .u64 (a : Int), .int .u64 (b' : Int), .int .u64 (c : Int), .int .u64 (d : Int)] 24)
  simp only at H2
  generalize W1.alloc _ = W2 at H0 H1 H2 L1 ⊢
  refine (C W2).mono ?_
  rintro e w3 ⟨rfl, hb⟩
  clear C c0 c1 c2 c3
  replace H0 := H0.below hb
  replace H1 := H1.below hb
  replace H2 := H2.below hb
  replace L1 := below_then L1 hb
  clear hb S1 HB
  generalize hn : stepS ⟨a, b', c, d⟩ = n
  have HN := Lib.hid hn
  clear hn
  obtain ⟨n0, n1, n2, n3⟩ := n
  obtain ⟨c0, c1, c2, c3⟩ := H0.cells
  obtain ⟨f0, f1, f2, f3⟩ := H0.free
  obtain ⟨z0, z1, z2, z3⟩ := H1.cells
  obtain ⟨y0, y1, y2, y3⟩ := H1.free
  obtain ⟨h0, h1, h2, h3⟩ := H2.cells
  have ne2 : b ≠ w.heap.size + 1 := by omega
  have R := (H1.far4 (x := b) (Ne.symm ne) (.int .u64 (n0 : Int)) (.int .u64 (n1 : Int)) (.int .u64 (n2 : Int)) (.int .u64 (n3 : Int))).put ⟨a, b', c, d⟩
  have LL := ((But1.of_below (x := b) L1).put (.int .u64 (n0 : Int)) (.int .u64 (n1 : Int)) (.int .u64 (n2 : Int)) (.int .u64 (n3 : Int))).far4 (Nat.le_refl _) (.int .u64 (a : Int)) (.int .u64 (b' : Int)) (.int .u64 (c : Int)) (.int .u64 (d : Int))
  have KK := (H0.put ⟨n0, n1, n2, n3⟩).far4 ne (.int .u64 (a : Int)) (.int .u64 (b' : Int)) (.int .u64 (c : Int)) (.int .u64 (d : Int))
  obtain ⟨r0, r1, r2, r3⟩ := R.cells
  simp only at r0 r1 r2 r3 KK
  clear R
  have HL := Lib.hid (And.intro KK (And.intro LL (And.intro r0 (And.intro r1 (And.intro r2 r3)))))
  clear KK LL r0 r1 r2 r3 H0 H1 H2 L1
  simp only [St.zero] at z0 z1 z2 z3
  go_wp2_with fail
  generalize World.setCell (World.setCell (World.setCell (World.setCell (World.setCell (World.setCell (World.setCell (World.setCell w3 _ _) _ _) _ _) _ _) _ _) _ _) _ _) _ _ = V at HL ⊢
  obtain ⟨KK, LL, r0, r1, r2, r3⟩ := HL.out
  clear HL z0 z1 z2 z3
  try simp only [Exit.inBlock, Exit.then]
  refine bodyPost_ret (by simp [results, Tryd.results64, go_sem, r0, r1, r2, r3]; try rfl) rfl ?_
  exact ⟨rfl, by rw [HN.out]; exact KK, LL⟩
theorem yTurned45 (x : Nat) (h : x < 18446744073709551616) (w : World) : Calls Tryd.prog 55 #[.int .u64 x, .int .i64 45] w (AnsX (tn 45 x) w) := by
  go_enter Tryd.func55, Tryd.ntmps55
  go_wp2
  go_quiet (fail)
  go_wp2
  go_ret
  exact ⟨by rw [← tn_int 45 _ h rfl]; rfl, below_drewN' (Below.refl _ _) _⟩
theorem yTurned7 (x : Nat) (h : x < 18446744073709551616) (w : World) : Calls Tryd.prog 55 #[.int .u64 x, .int .i64 7] w (AnsX (tn 7 x) w) := by
  go_enter Tryd.func55, Tryd.ntmps55
  go_wp2
  go_quiet (fail)
  go_wp2
  go_ret
  exact ⟨by rw [← tn_int 7 _ h rfl]; rfl, below_drewN' (Below.refl _ _) _⟩
theorem yStep (s : St) (h : s.Ok) (w : World) : Calls Tryd.prog 34 #[s.val] w (AnsS (stepS s) w) := by
  have C := yTurned45 (s.d ^^^ s.b) (word_xor h.d h.b)
  have V := Lib.hid (step_vals s h)
  rw [← V.out.1] at C
  obtain ⟨a, b, c, d⟩ := s
  clear h
  go_enter Tryd.func34, Tryd.ntmps34
  go_wp2_with fail
  have B2 := Bx.new (w.alloc (.cells #[.int .u64 (a : Int), .int .u64 (b : Int), .int .u64 (c : Int), .int .u64 (d : Int)] 23)) St.zero 23
  rw [show (w.alloc (.cells #[.int .u64 (a : Int), .int .u64 (b : Int), .int .u64 (c : Int), .int .u64 (d : Int)] 23)).heap.size = w.heap.size + 1 from Array.size_push _] at B2
  have L := below_alloc (below_alloc (Below.refl w.heap.size w) (.cells #[.int .u64 (a : Int), .int .u64 (b : Int), .int .u64 (c : Int), .int .u64 (d : Int)] 23)) (.cells #[.int .u64 0, .int .u64 0, .int .u64 0, .int .u64 0] 23)
  change Bx _ ((w.alloc (.cells #[.int .u64 (a : Int), .int .u64 (b : Int), .int .u64 (c : Int), .int .u64 (d : Int)] 23)).alloc (.cells #[.int .u64 0, .int .u64 0, .int .u64 0, .int .u64 0] 23)) _ _ at B2
  generalize World.alloc (World.alloc w _) _ = W at B2 L ⊢
  refine (C _).mono ?_
  rintro e w1 ⟨rfl, hb⟩
  clear C
  replace B2 := B2.below hb
  replace L := below_then L hb
  clear hb
  have hX : w.heap.size ≤ w.heap.size + 1 := by omega
  obtain ⟨f1, f2, g1, g2, g3, g4⟩ := V.out
  have VH := Lib.hid (And.intro f1 (And.intro f2 (And.intro g1 (And.intro g2 (And.intro g3 g4)))))
  clear f1 f2 g1 g2 g3 g4 V
  obtain ⟨z0, z1, z2, z3⟩ := B2.cells
  obtain ⟨y0, y1, y2, y3⟩ := B2.free
  simp only [St.zero] at z0 z1 z2 z3
  have HB := Lib.hid (And.intro B2 L)
  clear B2 L
  go_wp2
  obtain ⟨f1, f2, g1, g2, g3, g4⟩ := VH.out
  simp only [f1, f2, g1, g2, g3, g4]
  generalize hS : stepS ⟨a, b, c, d⟩ = n
  have R := HB.out.1.put n
  have LL := below_put (x := .int .u64 (n.a : Int)) (y := .int .u64 (n.b : Int)) (z := .int .u64 (n.c : Int)) (u := .int .u64 (n.d : Int)) HB.out.2 hX
  obtain ⟨r0, r1, r2, r3⟩ := R.cells
  have hd : (tn 45 (d ^^^ b)) = n.d := by rw [← hS]; rfl
  rw [hd]
  generalize World.setCell (World.setCell (World.setCell (World.setCell w1 _ _) _ _) _ _) _ _ = V at r0 r1 r2 r3 LL ⊢
  clear R f1 f2 g1 g2 g3 g4 hS hd z0 z1 z2 z3 VH
  try simp only [Exit.inBlock, Exit.then]
  refine bodyPost_ret (by simp [results, Tryd.results34, go_sem, r0, r1, r2, r3]; try rfl) rfl ?_
  exact ⟨rfl, LL⟩
end Go.Proofs.YtemgoikghaiamaaDoor
/-
  The zero value of layer 8's matrices: 1024 cells, by the kernel.
-/
namespace Go.Proofs.YtemgoikghaiamaaDoor
open Go.RowKit G
set_option linter.unusedVariables false
set_option maxRecDepth 100000

/-- A word of a state. -/
def wdS (s : St) (i : Nat) : Nat := if i = 0 then s.a else if i = 1 then s.b else if i = 2 then s.c else s.d
/-- The cells of 256 states. -/
def cM (M : Nat → St) : Array Value := Array.ofFn (n := 1024) (fun j : Fin 1024 => Value.int .u64 ((wdS (M (j.1 / 4)) (j.1 % 4) : Nat) : Int))
theorem cM_size (M : Nat → St) : (cM M).size = 1024 := Array.size_ofFn
theorem cM_get (M : Nat → St) (j : Nat) (h : j < 1024) : (cM M)[j]? = some (Value.int .u64 ((wdS (M (j / 4)) (j % 4) : Nat) : Int)) := by
  unfold cM
  rw [Array.getElem?_ofFn, dif_pos h]
theorem cM_one (M : Nat → St) : (cM M).all (·.oneCell') = true := by
  refine Array.all_eq_true_iff_forall_mem.2 (fun v hv => ?_)
  obtain ⟨i, hi, e⟩ := Array.mem_iff_getElem.1 hv
  have h1024 : i < 1024 := by rw [cM_size] at hi; exact hi
  have := cM_get M i h1024
  rw [Array.getElem?_eq_getElem hi, e] at this
  obtain rfl : v = _ := by simpa using this
  rfl
set_option maxHeartbeats 4000000 in
theorem infoM : (Tryd.prog.info? 69).map (fun i => (i.zero, i.size)) = some (some (.agg (cM fun _ => St.zero)), 1024) := by kernel_rfl
theorem sizeM : (Tryd.prog.info? 69).map (·.size) = some 1024 := (zero_of_info infoM).2
theorem zeroM (w : World) : (zeroValue 69).run Tryd.prog w = .ok (.agg (cM fun _ => St.zero)) w := (zero_of_info infoM).1 w
end Go.Proofs.YtemgoikghaiamaaDoor
/-
  The matrices of layer 8's reference in memory: 256 states, laid flat.
-/
namespace Go.Proofs.YtemgoikghaiamaaDoor
open Go.RowKit G
set_option linter.unusedVariables false
set_option maxRecDepth 100000

/-- A matrix in memory. -/
def MX (w : World) (b : Nat) (M : Nat → St) : Prop := w.heap[b]? = some (.cells (cM M) 69 (0, 0))
section
variable {w w' : World} {b : Nat} {M : Nat → St} {c : Array Value}
theorem MX.lt (h : MX w b M) : b < w.heap.size := (Array.getElem?_eq_some_iff.1 h).1
theorem MX.below (h : MX w b M) (hb : Below w.heap.size w w') : MX w' b M := (hb.block b h.lt).trans h
theorem MX.cell (h : MX w b M) (j : Nat) (hj : j < 1024) : w.cell? ⟨b, j, none⟩ = some (Value.int .u64 ((wdS (M (j / 4)) (j % 4) : Nat) : Int)) := by
  unfold MX at h
  simp only [World.cell?, h]
  exact cM_get M j hj
theorem MX.free (h : MX w b M) (j : Nat) : w.frozen? ⟨b, j, none⟩ = false := by
  unfold MX at h
  simp [World.frozen?, h]
theorem MX.new (w : World) (M : Nat → St) : MX (w.alloc (.cells (cM M) 69)) w.heap.size M := heap_alloc_last w _
theorem MX.far (h : MX w b M) {p : Addr} (hne : b ≠ p.block) (u : Value) : MX (w.setCell p u) b M := (Below.heap_setCell w p u b hne).trans h
/-- A matrix with another state at i. -/
def putM (M : Nat → St) (i : Nat) (s : St) (k : Nat) : St := if k = i then s else M k
theorem MX.set1 (h : w.heap[b]? = some (.cells c 69 (0, 0))) (j : Nat) (v : Value) : (w.setCell ⟨b, j, none⟩ v).heap[b]? = some (.cells (c.setIfInBounds j v) 69 (0, 0)) := by
  simp [World.setCell, Array.getElem?_modify, h]
theorem cM_put (M : Nat → St) (i : Nat) (hi : i < 256) (s : St) : (((((cM M).setIfInBounds (i * 4) (.int .u64 (s.a : Int))).setIfInBounds (i * 4 + 1) (.int .u64 (s.b : Int))).setIfInBounds (i * 4 + 2) (.int .u64 (s.c : Int))).setIfInBounds (i * 4 + 3) (.int .u64 (s.d : Int))) = cM (putM M i s) := by
  apply Array.ext_getElem?
  intro j
  simp only [Array.getElem?_setIfInBounds, Array.size_setIfInBounds, cM_size]
  by_cases hj : j < 1024
  · rw [cM_get _ _ hj, cM_get _ _ hj]
    by_cases e3 : i * 4 + 3 = j
    · subst e3; rw [if_pos rfl, if_pos (by omega)]
      have : (i * 4 + 3) / 4 = i ∧ (i * 4 + 3) % 4 = 3 := by omega
      rw [this.1, this.2]; unfold putM; rw [if_pos rfl]; rfl
    · rw [if_neg e3]
      by_cases e2 : i * 4 + 2 = j
      · subst e2; rw [if_pos rfl, if_pos (by omega)]
        have : (i * 4 + 2) / 4 = i ∧ (i * 4 + 2) % 4 = 2 := by omega
        rw [this.1, this.2]; unfold putM; rw [if_pos rfl]; rfl
      · rw [if_neg e2]
        by_cases e1 : i * 4 + 1 = j
        · subst e1; rw [if_pos rfl, if_pos (by omega)]
          have : (i * 4 + 1) / 4 = i ∧ (i * 4 + 1) % 4 = 1 := by omega
          rw [this.1, this.2]; unfold putM; rw [if_pos rfl]; rfl
        · rw [if_neg e1]
          by_cases e0 : i * 4 = j
          · subst e0; rw [if_pos rfl, if_pos (by omega)]
            have : (i * 4) / 4 = i ∧ (i * 4) % 4 = 0 := by omega
            rw [this.1, this.2]; unfold putM; rw [if_pos rfl]; rfl
          · rw [if_neg e0]
            unfold putM
            rw [if_neg (by omega)]
  · have n1 : (cM M)[j]? = none := Array.getElem?_eq_none (by rw [cM_size]; omega)
    have n2 : (cM (putM M i s))[j]? = none := Array.getElem?_eq_none (by rw [cM_size]; omega)
    rw [n1, n2, if_neg (by omega), if_neg (by omega), if_neg (by omega), if_neg (by omega)]
theorem MX.put (h : MX w b M) (i : Nat) (hi : i < 256) (s : St) : MX ((((w.setCell ⟨b, i * 4, none⟩ (.int .u64 (s.a : Int))).setCell ⟨b, i * 4 + 1, none⟩ (.int .u64 (s.b : Int))).setCell ⟨b, i * 4 + 2, none⟩ (.int .u64 (s.c : Int))).setCell ⟨b, i * 4 + 3, none⟩ (.int .u64 (s.d : Int))) b (putM M i s) := by
  have := MX.set1 (MX.set1 (MX.set1 (MX.set1 h (i * 4) (.int .u64 (s.a : Int))) (i * 4 + 1) (.int .u64 (s.b : Int))) (i * 4 + 2) (.int .u64 (s.c : Int))) (i * 4 + 3) (.int .u64 (s.d : Int))
  rwa [cM_put M i hi s] at this
end
theorem heap_second (w : World) (o o' : Obj) : ((w.alloc o).alloc o').heap[w.heap.size + 1]? = some o' := by
  have := heap_alloc_last (w.alloc o) o'
  rwa [show (w.alloc o).heap.size = w.heap.size + 1 from Array.size_push _] at this
theorem MX.row {w : World} {b : Nat} {c : Array Value} (h : w.heap[b]? = some (.cells c 69 (0, 0))) (M : Nat → St) : MX (w.setRow b (cM M)) b M := by
  unfold MX
  simp [World.setRow, Array.getElem?_modify, h]
theorem below_row {B b : Nat} {a w : World} {c : Array Value} (h : Below B a w) (hb : B ≤ b) : Below B a (w.setRow b c) :=
  ⟨h.os, h.tape, h.output, by show _ ≤ (w.heap.modify b _).size; rw [Array.size_modify]; exact h.size, fun k hk => by
    have : (w.setRow b c).heap[k]? = w.heap[k]? := by
      show (w.heap.modify b _)[k]? = _
      rw [Array.getElem?_modify, if_neg (by omega)]
    rw [this]; exact h.block k hk⟩
theorem infoM_of (M : Nat → St) : (Tryd.prog.info? 69).map (·.size) = some (cM M).size := by rw [cM_size]; exact sizeM
/-- A whole matrix out of memory. -/
theorem wpList_load_M {ops : Array Oper} {rest : List Oper} {o : Oper} {a : Act} {w : World} {Q : Exit → Act → World → Prop} (hgd : o.guard = none) (x : Operand) (ho : o.op = .load 69 x)
    (b : Nat) (hx : a.eval x = .pointer (some ⟨b, 0, none⟩)) (M : Nat → St) (h : MX w b M) (k : wpList Tryd.prog ops Q rest (a.put o.dst (.agg (cM M))) w) : wpList Tryd.prog ops Q (o :: rest) a w :=
  wpList_load_row hgd _ x ho b hx _ _ _ _ h Tryd.underlying69 rfl (infoM_of M) k
/-- A whole matrix into memory. -/
theorem wpList_store_M {ops : Array Oper} {rest : List Oper} {o : Oper} {a : Act} {w : World} {Q : Exit → Act → World → Prop} (hgd : o.guard = none) (x y : Operand) (ho : o.op = .store 69 x y)
    (b : Nat) (hx : a.eval x = .pointer (some ⟨b, 0, none⟩)) (M M' : Nat → St) (hy : a.eval y = .agg (cM M)) (h : MX w b M') (k : ∀ w', MX w' b M → (∀ B, B ≤ b → ∀ a0, Below B a0 w → Below B a0 w') → (∀ g, g ≠ b → w'.heap[g]? = w.heap[g]?) → wpList Tryd.prog ops Q rest (a.put o.dst undef) w') : wpList Tryd.prog ops Q (o :: rest) a w :=
  wpList_store_row hgd _ x y ho b (cM M) hx hy _ _ h (infoM_of M) (by rw [cM_size, cM_size]) (cM_one M)
    (k _ (MX.row h M) (fun B hB a0 h0 => below_row h0 hB) (fun g hg => by
      show (w.heap.modify b _)[g]? = _
      rw [Array.getElem?_modify, if_neg (Ne.symm hg)]))
theorem results_M {fn : Func} {p : Tmp} (h : fn.results = #[.cell p 69]) (tmps : Array Value) (w : World) (b : Nat) (M : Nat → St) (hp : tmps.getD p undef = .pointer (some ⟨b, 0, none⟩)) (hm : MX w b M) :
    (results fn tmps).run Tryd.prog w = .ok (.agg (cM M)) w :=
  results_cell_row h tmps w b _ _ _ _ hp hm Tryd.underlying69 rfl (infoM_of M)
end Go.Proofs.YtemgoikghaiamaaDoor
/-
  What the matrices of layer 8's reference answer: One, Of, Twice; and the reference's Jump, Powers, At.
-/
namespace Go.Proofs.YtemgoikghaiamaaDoor
open Go.RowKit G
set_option linter.unusedVariables false
set_option maxRecDepth 100000

/-- A state of which one bit alone is 1. -/
def unitS (i : Nat) : St := ⟨if i / 64 = 0 then 2 ^ (i % 64) else 0, if i / 64 = 1 then 2 ^ (i % 64) else 0, if i / 64 = 2 then 2 ^ (i % 64) else 0, if i / 64 = 3 then 2 ^ (i % 64) else 0⟩
theorem pow_mod_lt (i : Nat) : 2 ^ (i % 64) < 18446744073709551616 := Nat.lt_of_lt_of_le (Nat.pow_lt_pow_right (by decide) (Nat.mod_lt i (by decide))) (Nat.le_refl _)
theorem unit_ok (i : Nat) : (unitS i).Ok := by
  have := pow_mod_lt i
  constructor <;> (unfold unitS; simp only; split) <;> first | exact this | decide
theorem wrap_pow (i : Nat) : IntKind.u64.wrap ((2 : Int) ^ (i % 64)) = ((2 ^ (i % 64) : Nat) : Int) := by
  rw [show ((2 : Int) ^ (i % 64)) = ((2 ^ (i % 64) : Nat) : Int) from by rw [Int.natCast_pow]; rfl, wrap_nat, Nat.mod_eq_of_lt (pow_mod_lt i)]
/-- What one step does to each bit alone, up to the i-th. -/
def oneTo (i : Nat) (k : Nat) : St := if k < i then stepS (unitS k) else St.zero
theorem oneTo_put (i : Nat) : putM (oneTo i) i (stepS (unitS i)) = oneTo (i + 1) := by
  funext k
  unfold putM oneTo
  by_cases h : k = i
  · rw [if_pos h, if_pos (by omega), h]
  · rw [if_neg h]
    by_cases h2 : k < i
    · rw [if_pos h2, if_pos (by omega)]
    · rw [if_neg h2, if_neg (by omega)]
theorem oneTo_zero : oneTo 0 = fun _ => St.zero := by funext k; unfold oneTo; rw [if_neg (by omega)]
set_option maxHeartbeats 4000000 in
theorem yOneW (w : World) : Calls Tryd.prog 37 #[] w (fun e w' => e = .returned (.agg (cM (oneTo 256))) ∧ Below w.heap.size w w') := by
  have hz := zeroM
  have hi := sizeM
  have s1 := cM_size (fun _ => St.zero)
  have s2 := cM_one (fun _ => St.zero)
  generalize hZ : cM (fun _ => St.zero) = Z at hz s1 s2
  rw [← s1] at hi
  have HI := Lib.hid hi
  have H2 := Lib.hid s2
  have HZ := Lib.hid hZ
  have H1 := Lib.hid s1
  clear hi s2 hZ s1
  go_enter Tryd.func37, Tryd.ntmps37
  go_wp2_with (refine wpList_store_row rfl 69 _ _ rfl (w.heap.size + 1) Z rfl rfl 69 Z (heap_second _ _ _) HI.out rfl H2.out ?_)
  have M1 : MX (((w.alloc (.cells Z 69)).alloc (.cells Z 69)).setRow (w.heap.size + 1) Z) (w.heap.size + 1) (oneTo 0) := by
    rw [oneTo_zero]
    have := MX.row (heap_second w (.cells Z 69) (.cells Z 69)) (fun _ => St.zero)
    rwa [HZ.out] at this
  have L1 : Below w.heap.size w (((w.alloc (.cells Z 69)).alloc (.cells Z 69)).setRow (w.heap.size + 1) Z) := below_row (below_alloc (below_alloc (Below.refl _ _) _) _) (by omega)
  have M0 : MX (((w.alloc (.cells Z 69)).alloc (.cells Z 69)).setRow (w.heap.size + 1) Z) w.heap.size (fun _ => St.zero) := by
    have h0 : MX (w.alloc (.cells Z 69)) w.heap.size (fun _ => St.zero) := by rw [← HZ.out]; exact MX.new w _
    have h1 := h0.below (below_alloc (Below.refl _ _) (.cells Z 69))
    exact ((below_row (Below.refl (w.heap.size + 1) _) (Nat.le_refl _)).block w.heap.size (Nat.lt_succ_self _)).trans h1
  generalize World.setRow _ _ _ = W1 at M1 L1 M0 ⊢
  have F := Lib.hid (And.intro M1 (And.intro M0 L1))
  clear M1 M0 L1 hz
  go_loopg [2] 256 (fun g z wr => ∃ i : Nat, i + g = 256 ∧ z = .int .i64 i ∧ Hid (MX wr (w.heap.size + 1) (oneTo i) ∧ MX wr w.heap.size (fun _ => St.zero) ∧ Below w.heap.size w wr))
  case atStart => exact ⟨0, by omega, rfl, F⟩
  case round =>
    obtain ⟨i, hg, rfl, F⟩ := hrel
    by_cases hlt : i < 256
    · have kl : (i : Int) < 256 := by omega
      have k0 : (0 : Int) ≤ (i : Int) := by omega
      have hc : i / 64 = 0 ∨ i / 64 = 1 ∨ i / 64 = 2 ∨ i / 64 = 3 := by omega
      rcases hc with hq | hq | hq | hq
      · skip
        have hq2 : (i : Int) / 64 = 0 := by omega
        have hu : unitS i = ⟨2 ^ (i % 64), 0, 0, 0⟩ := by unfold unitS; rw [hq]; rfl
        have C : ∀ W, Calls Tryd.prog 34 #[.agg #[.int .u64 (IntKind.u64.wrap ((2 : Int) ^ (i % 64))), .int .u64 0, .int .u64 0, .int .u64 0]] W (AnsS (stepS (unitS i)) W) := fun W => by
          have := yStep (unitS i) (unit_ok i) W
          rw [wrap_pow]
          rw [hu] at this ⊢
          exact this
        have HC := Lib.hid C
        clear C hu hq
        go_wp2_with fail
        refine (HC.out _).mono ?_
        rintro e w2 ⟨rfl, hb⟩
        clear HC
        replace hb := below_then (below_alloc (Below.refl _ _) _) hb
        have G1 := F.out.1.below hb
        have G0 := F.out.2.1.below hb
        have GL := below_then F.out.2.2 hb
        clear F hb
        generalize hS : stepS (unitS i) = S
        have HS := Lib.hid hS
        clear hS
        obtain ⟨n0, n1, n2, n3⟩ := S
        have c0 := G1.cell (i * 4) (by omega)
        have c1 := G1.cell (i * 4 + 1) (by omega)
        have c2 := G1.cell (i * 4 + 2) (by omega)
        have c3 := G1.cell (i * 4 + 3) (by omega)
        have f0 := G1.free (i * 4)
        have f1 := G1.free (i * 4 + 1)
        have f2 := G1.free (i * 4 + 2)
        have f3 := G1.free (i * 4 + 3)
        have HG := Lib.hid (And.intro G1 (And.intro G0 GL))
        clear G1 G0 GL
        go_wp2_with fail
        go_roundg (gk - 1)
        case measure => omega
        case rel =>
          have P := HG.out.1.put i hlt ⟨n0, n1, n2, n3⟩
          rw [← HS.out, oneTo_put] at P
          rw [HS.out] at P
          exact ⟨i + 1, by omega, by go_num, Lib.hid ⟨P, (((HG.out.2.1.far (by show _ ≠ _; simp) _).far (by show _ ≠ _; simp) _).far (by show _ ≠ _; simp) _).far (by show _ ≠ _; simp) _, ((((HG.out.2.2.setCell (by show _ ≤ w.heap.size + 1; omega) _).setCell (by show _ ≤ w.heap.size + 1; omega) _).setCell (by show _ ≤ w.heap.size + 1; omega) _).setCell (by show _ ≤ w.heap.size + 1; omega) _)⟩⟩
      · skip
        have hq2 : (i : Int) / 64 = 1 := by omega
        have hu : unitS i = ⟨0, 2 ^ (i % 64), 0, 0⟩ := by unfold unitS; rw [hq]; rfl
        have C : ∀ W, Calls Tryd.prog 34 #[.agg #[.int .u64 0, .int .u64 (IntKind.u64.wrap ((2 : Int) ^ (i % 64))), .int .u64 0, .int .u64 0]] W (AnsS (stepS (unitS i)) W) := fun W => by
          have := yStep (unitS i) (unit_ok i) W
          rw [wrap_pow]
          rw [hu] at this ⊢
          exact this
        have HC := Lib.hid C
        clear C hu hq
        go_wp2_with fail
        refine (HC.out _).mono ?_
        rintro e w2 ⟨rfl, hb⟩
        clear HC
        replace hb := below_then (below_alloc (Below.refl _ _) _) hb
        have G1 := F.out.1.below hb
        have G0 := F.out.2.1.below hb
        have GL := below_then F.out.2.2 hb
        clear F hb
        generalize hS : stepS (unitS i) = S
        have HS := Lib.hid hS
        clear hS
        obtain ⟨n0, n1, n2, n3⟩ := S
        have c0 := G1.cell (i * 4) (by omega)
        have c1 := G1.cell (i * 4 + 1) (by omega)
        have c2 := G1.cell (i * 4 + 2) (by omega)
        have c3 := G1.cell (i * 4 + 3) (by omega)
        have f0 := G1.free (i * 4)
        have f1 := G1.free (i * 4 + 1)
        have f2 := G1.free (i * 4 + 2)
        have f3 := G1.free (i * 4 + 3)
        have HG := Lib.hid (And.intro G1 (And.intro G0 GL))
        clear G1 G0 GL
        go_wp2_with fail
        go_roundg (gk - 1)
        case measure => omega
        case rel =>
          have P := HG.out.1.put i hlt ⟨n0, n1, n2, n3⟩
          rw [← HS.out, oneTo_put] at P
          rw [HS.out] at P
          exact ⟨i + 1, by omega, by go_num, Lib.hid ⟨P, (((HG.out.2.1.far (by show _ ≠ _; simp) _).far (by show _ ≠ _; simp) _).far (by show _ ≠ _; simp) _).far (by show _ ≠ _; simp) _, ((((HG.out.2.2.setCell (by show _ ≤ w.heap.size + 1; omega) _).setCell (by show _ ≤ w.heap.size + 1; omega) _).setCell (by show _ ≤ w.heap.size + 1; omega) _).setCell (by show _ ≤ w.heap.size + 1; omega) _)⟩⟩
      · skip
        have hq2 : (i : Int) / 64 = 2 := by omega
        have hu : unitS i = ⟨0, 0, 2 ^ (i % 64), 0⟩ := by unfold unitS; rw [hq]; rfl
        have C : ∀ W, Calls Tryd.prog 34 #[.agg #[.int .u64 0, .int .u64 0, .int .u64 (IntKind.u64.wrap ((2 : Int) ^ (i % 64))), .int .u64 0]] W (AnsS (stepS (unitS i)) W) := fun W => by
          have := yStep (unitS i) (unit_ok i) W
          rw [wrap_pow]
          rw [hu] at this ⊢
          exact this
        have HC := Lib.hid C
        clear C hu hq
        go_wp2_with fail
        refine (HC.out _).mono ?_
        rintro e w2 ⟨rfl, hb⟩
        clear HC
        replace hb := below_then (below_alloc (Below.refl _ _) _) hb
        have G1 := F.out.1.below hb
        have G0 := F.out.2.1.below hb
        have GL := below_then F.out.2.2 hb
        clear F hb
        generalize hS : stepS (unitS i) = S
        have HS := Lib.hid hS
        clear hS
        obtain ⟨n0, n1, n2, n3⟩ := S
        have c0 := G1.cell (i * 4) (by omega)
        have c1 := G1.cell (i * 4 + 1) (by omega)
        have c2 := G1.cell (i * 4 + 2) (by omega)
        have c3 := G1.cell (i * 4 + 3) (by omega)
        have f0 := G1.free (i * 4)
        have f1 := G1.free (i * 4 + 1)
        have f2 := G1.free (i * 4 + 2)
        have f3 := G1.free (i * 4 + 3)
        have HG := Lib.hid (And.intro G1 (And.intro G0 GL))
        clear G1 G0 GL
        go_wp2_with fail
        go_roundg (gk - 1)
        case measure => omega
        case rel =>
          have P := HG.out.1.put i hlt ⟨n0, n1, n2, n3⟩
          rw [← HS.out, oneTo_put] at P
          rw [HS.out] at P
          exact ⟨i + 1, by omega, by go_num, Lib.hid ⟨P, (((HG.out.2.1.far (by show _ ≠ _; simp) _).far (by show _ ≠ _; simp) _).far (by show _ ≠ _; simp) _).far (by show _ ≠ _; simp) _, ((((HG.out.2.2.setCell (by show _ ≤ w.heap.size + 1; omega) _).setCell (by show _ ≤ w.heap.size + 1; omega) _).setCell (by show _ ≤ w.heap.size + 1; omega) _).setCell (by show _ ≤ w.heap.size + 1; omega) _)⟩⟩
      · skip
        have hq2 : (i : Int) / 64 = 3 := by omega
        have hu : unitS i = ⟨0, 0, 0, 2 ^ (i % 64)⟩ := by unfold unitS; rw [hq]; rfl
        have C : ∀ W, Calls Tryd.prog 34 #[.agg #[.int .u64 0, .int .u64 0, .int .u64 0, .int .u64 (IntKind.u64.wrap ((2 : Int) ^ (i % 64)))]] W (AnsS (stepS (unitS i)) W) := fun W => by
          have := yStep (unitS i) (unit_ok i) W
          rw [wrap_pow]
          rw [hu] at this ⊢
          exact this
        have HC := Lib.hid C
        clear C hu hq
        go_wp2_with fail
        refine (HC.out _).mono ?_
        rintro e w2 ⟨rfl, hb⟩
        clear HC
        replace hb := below_then (below_alloc (Below.refl _ _) _) hb
        have G1 := F.out.1.below hb
        have G0 := F.out.2.1.below hb
        have GL := below_then F.out.2.2 hb
        clear F hb
        generalize hS : stepS (unitS i) = S
        have HS := Lib.hid hS
        clear hS
        obtain ⟨n0, n1, n2, n3⟩ := S
        have c0 := G1.cell (i * 4) (by omega)
        have c1 := G1.cell (i * 4 + 1) (by omega)
        have c2 := G1.cell (i * 4 + 2) (by omega)
        have c3 := G1.cell (i * 4 + 3) (by omega)
        have f0 := G1.free (i * 4)
        have f1 := G1.free (i * 4 + 1)
        have f2 := G1.free (i * 4 + 2)
        have f3 := G1.free (i * 4 + 3)
        have HG := Lib.hid (And.intro G1 (And.intro G0 GL))
        clear G1 G0 GL
        go_wp2_with fail
        go_roundg (gk - 1)
        case measure => omega
        case rel =>
          have P := HG.out.1.put i hlt ⟨n0, n1, n2, n3⟩
          rw [← HS.out, oneTo_put] at P
          rw [HS.out] at P
          exact ⟨i + 1, by omega, by go_num, Lib.hid ⟨P, (((HG.out.2.1.far (by show _ ≠ _; simp) _).far (by show _ ≠ _; simp) _).far (by show _ ≠ _; simp) _).far (by show _ ≠ _; simp) _, ((((HG.out.2.2.setCell (by show _ ≤ w.heap.size + 1; omega) _).setCell (by show _ ≤ w.heap.size + 1; omega) _).setCell (by show _ ≤ w.heap.size + 1; omega) _).setCell (by show _ ≤ w.heap.size + 1; omega) _)⟩⟩
    · obtain rfl : i = 256 := by omega
      have kl : ¬ ((256 : Nat) : Int) < 256 := by omega
      obtain ⟨M1, M0, L1⟩ := F.out
      clear F
      go_wp2_with (first
        | (refine wpList_load_M rfl _ rfl (w.heap.size + 1) rfl (oneTo 256) M1 ?_)
        | (refine wpList_store_M rfl _ _ rfl w.heap.size rfl (oneTo 256) _ rfl M0 ?_; intro w5 N0 NL NF; replace L1 := NL _ (Nat.le_refl _) _ L1; clear M0 NL NF)
        | fail)
      try simp only [Exit.inBlock, Exit.then]
      exact bodyPost_ret (results_M Tryd.results37 _ _ w.heap.size (oneTo 256) rfl N0) rfl ⟨rfl, L1⟩
end Go.Proofs.YtemgoikghaiamaaDoor
/-
  What the reference of layer 8 answers: Add, and Of: what becomes of a state.
-/
namespace Go.Proofs.YtemgoikghaiamaaDoor
open Go.RowKit G
set_option linter.unusedVariables false
set_option maxRecDepth 100000

set_option maxHeartbeats 1000000 in
theorem yAdd (s t : St) (hs : s.Ok) (ht : t.Ok) (w : World) : Calls Tryd.prog 33 #[s.val, t.val] w (AnsS (addS s t) w) := by
  have E := Lib.hid (And.intro (xor_int _ _ hs.a ht.a) (And.intro (xor_int _ _ hs.b ht.b) (And.intro (xor_int _ _ hs.c ht.c) (xor_int _ _ hs.d ht.d))))
  obtain ⟨a, b, c, d⟩ := s
  obtain ⟨a', b', c', d'⟩ := t
  clear hs ht
  go_enter Tryd.func33, Tryd.ntmps33
  go_wp2
  go_returns
  obtain ⟨e0, e1, e2, e3⟩ := E.out
  refine ⟨by rw [e0, e1, e2, e3]; rfl, ?_⟩
  exact below_alloc (below_alloc (below_alloc (Below.refl _ _) _) _) _
theorem tmod_of {n m : Nat} (h : n % 2 = m) : ((n : Nat) : Int).tmod 2 = (m : Int) := by
  rw [Int.tmod_eq_emod_of_nonneg (by omega)]; omega
/-- Is this bit of a state 1? -/
def bitAt (s : St) (i : Nat) : Bool := decide (wdS s (i / 64) / 2 ^ (i % 64) % 2 = 1)
/-- What becomes of a state, its first bits alone. -/
def ofM (M : Nat → St) (s : St) : Nat → St
  | 0 => St.zero
  | i + 1 => if bitAt s i = true then addS (ofM M s i) (M i) else ofM M s i
theorem ofM_ok (M : Nat → St) (s : St) (h : ∀ k, (M k).Ok) : ∀ i, (ofM M s i).Ok
  | 0 => St.Ok.zero
  | i + 1 => by
    unfold ofM
    split
    · exact (ofM_ok M s h i).add (h i)
    · exact ofM_ok M s h i
theorem wdS_cell {t : TypeId} {w : World} {b : Nat} {s : St} (h : Bx t w b s) (i : Nat) (hi : i < 4) : w.cell? ⟨b, i, none⟩ = some (.int .u64 ((wdS s i : Nat) : Int)) := by
  have hc : i = 0 ∨ i = 1 ∨ i = 2 ∨ i = 3 := by omega
  rcases hc with rfl | rfl | rfl | rfl
  · exact h.cells.1
  · exact h.cells.2.1
  · exact h.cells.2.2.1
  · exact h.cells.2.2.2
theorem Bx.other {t t' : TypeId} {w w' : World} {b x : Nat} {s s' : St} (h : Bx t w b s) (hb : But1 x w w') (hne : b ≠ x) : Bx t w' b s := (hb.block b h.lt hne).trans h
/-- Three new blocks: a state's, and two of 0s. -/
theorem three_new (w : World) (s : St) (t : TypeId) : Bx t (((w.alloc (.cells #[.int .u64 (s.a : Int), .int .u64 (s.b : Int), .int .u64 (s.c : Int), .int .u64 (s.d : Int)] t)).alloc (.cells #[.int .u64 0, .int .u64 0, .int .u64 0, .int .u64 0] t)).alloc (.cells #[.int .u64 0, .int .u64 0, .int .u64 0, .int .u64 0] t)) w.heap.size s ∧
    Bx t (((w.alloc (.cells #[.int .u64 (s.a : Int), .int .u64 (s.b : Int), .int .u64 (s.c : Int), .int .u64 (s.d : Int)] t)).alloc (.cells #[.int .u64 0, .int .u64 0, .int .u64 0, .int .u64 0] t)).alloc (.cells #[.int .u64 0, .int .u64 0, .int .u64 0, .int .u64 0] t)) (w.heap.size + 1) St.zero ∧
    Bx t (((w.alloc (.cells #[.int .u64 (s.a : Int), .int .u64 (s.b : Int), .int .u64 (s.c : Int), .int .u64 (s.d : Int)] t)).alloc (.cells #[.int .u64 0, .int .u64 0, .int .u64 0, .int .u64 0] t)).alloc (.cells #[.int .u64 0, .int .u64 0, .int .u64 0, .int .u64 0] t)) (w.heap.size + 1 + 1) St.zero ∧
    Below w.heap.size w (((w.alloc (.cells #[.int .u64 (s.a : Int), .int .u64 (s.b : Int), .int .u64 (s.c : Int), .int .u64 (s.d : Int)] t)).alloc (.cells #[.int .u64 0, .int .u64 0, .int .u64 0, .int .u64 0] t)).alloc (.cells #[.int .u64 0, .int .u64 0, .int .u64 0, .int .u64 0] t)) := by
  have B1 := Bx.new w s t
  have L1 := below_alloc (Below.refl w.heap.size w) (.cells #[.int .u64 (s.a : Int), .int .u64 (s.b : Int), .int .u64 (s.c : Int), .int .u64 (s.d : Int)] t)
  have S1 : (w.alloc (.cells #[.int .u64 (s.a : Int), .int .u64 (s.b : Int), .int .u64 (s.c : Int), .int .u64 (s.d : Int)] t)).heap.size = w.heap.size + 1 := Array.size_push _
  generalize w.alloc _ = W1 at B1 L1 S1 ⊢
  have B2 := Bx.new W1 St.zero t
  have S2 : (W1.alloc (.cells #[.int .u64 0, .int .u64 0, .int .u64 0, .int .u64 0] t)).heap.size = w.heap.size + 1 + 1 := (Array.size_push _).trans (by rw [S1])
  rw [S1] at B2
  replace B1 := B1.alloc (.cells #[.int .u64 0, .int .u64 0, .int .u64 0, .int .u64 0] t)
  replace L1 := below_alloc L1 (.cells #[.int .u64 0, .int .u64 0, .int .u64 0, .int .u64 0] t)
  change Bx _ (W1.alloc (.cells #[.int .u64 0, .int .u64 0, .int .u64 0, .int .u64 0] t)) _ _ at B2
  generalize W1.alloc _ = W2 at B1 B2 L1 S2 ⊢
  have B3 := Bx.new W2 St.zero t
  rw [S2] at B3
  exact ⟨B1.alloc _, B2.alloc _, B3, below_alloc L1 _⟩
set_option maxHeartbeats 8000000 in
theorem yOf (b : Nat) (M : Nat → St) (hM : Hid (∀ k, (M k).Ok)) (s : St) (hs : s.Ok) (w : World) (H : MX w b M) : Calls Tryd.prog 39 #[.pointer (some ⟨b, 0, none⟩), s.val] w (AnsS (ofM M s 256) w) := by
  have TN := Lib.hid (three_new w s 23)
  have HM := Lib.hid H
  clear hs H
  go_enter Tryd.func39, Tryd.ntmps39
  go_wp2_with fail
  generalize World.alloc (World.alloc (World.alloc w _) _) _ = W1 at TN ⊢
  have F0 : Hid (Bx 23 W1 w.heap.size s ∧ Bx 23 W1 (w.heap.size + 1) St.zero ∧ Bx 23 W1 (w.heap.size + 1 + 1) (ofM M s 0) ∧ Below w.heap.size w W1) := TN
  clear TN
  go_loopg [6] 256 (fun g z wr => ∃ i : Nat, i + g = 256 ∧ z = .int .i64 i ∧ Hid (Bx 23 wr w.heap.size s ∧ Bx 23 wr (w.heap.size + 1) St.zero ∧ Bx 23 wr (w.heap.size + 1 + 1) (ofM M s i) ∧ Below w.heap.size w wr))
  case atStart => exact ⟨0, by omega, rfl, F0⟩
  case round =>
    obtain ⟨i, hg, rfl, F⟩ := hrel
    clear F0
    have hlb := HM.out.lt
    by_cases hlt : i < 256
    · have kl : (i : Int) < 256 := by omega
      have k0 : (0 : Int) ≤ (i : Int) := by omega
      have p0 := wdS_cell F.out.1 (i / 64) (by omega)
      have hm := Nat.mod_two_eq_zero_or_one (wdS s (i / 64) / 2 ^ (i % 64))
      rcases hm with hm | hm
      · skip
        have hb1 : (((wdS s (i / 64) : Nat) : Int) / 2 ^ (i % 64)).tmod 2 = 0 := by rw [div_int]; exact tmod_of hm
        have EO := Lib.hid (show ofM M s (i + 1) = ofM M s i from by rw [ofM]; unfold bitAt; rw [hm]; rfl)
        clear hm
        generalize wdS s (i / 64) = X at p0 hb1
        go_wp2_with fail
        go_roundg (gk - 1)
        case measure => omega
        case rel => exact ⟨i + 1, by omega, by go_num, Lib.hid ⟨F.out.1, F.out.2.1, by rw [EO.out]; exact F.out.2.2.1, F.out.2.2.2⟩⟩
      · skip
        have hb1 : (((wdS s (i / 64) : Nat) : Int) / 2 ^ (i % 64)).tmod 2 = 1 := by rw [div_int]; exact tmod_of hm
        have EO := Lib.hid (show ofM M s (i + 1) = addS (ofM M s i) (M i) from by rw [ofM]; unfold bitAt; rw [hm]; rfl)
        clear hm
        generalize wdS s (i / 64) = X at p0 hb1
        have OK := Lib.hid (ofM_ok M s hM.out i)
        have OKi := Lib.hid (hM.out i)
        obtain ⟨B1, B2, B3, L⟩ := F.out
        have MB := HM.out.below L
        have CA := Lib.hid (yAdd (ofM M s i) (M i) OK.out OKi.out)
        generalize hO : ofM M s i = O at B3 EO CA
        clear hO OK OKi
        have d0 := MB.cell (i * 4) (by omega)
        have d1 := MB.cell (i * 4 + 1) (by omega)
        have d2 := MB.cell (i * 4 + 2) (by omega)
        have d3 := MB.cell (i * 4 + 3) (by omega)
        rw [show i * 4 / 4 = i by omega, show i * 4 % 4 = 0 by omega] at d0
        rw [show (i * 4 + 1) / 4 = i by omega, show (i * 4 + 1) % 4 = 1 by omega] at d1
        rw [show (i * 4 + 2) / 4 = i by omega, show (i * 4 + 2) % 4 = 2 by omega] at d2
        rw [show (i * 4 + 3) / 4 = i by omega, show (i * 4 + 3) % 4 = 3 by omega] at d3
        generalize M i = Mi at d0 d1 d2 d3 CA EO
        obtain ⟨m0, m1, m2, m3⟩ := Mi
        obtain ⟨o0, o1, o2, o3⟩ := O
        have e0 : wdS ⟨m0, m1, m2, m3⟩ 0 = m0 := rfl
        have e1 : wdS ⟨m0, m1, m2, m3⟩ 1 = m1 := rfl
        have e2 : wdS ⟨m0, m1, m2, m3⟩ 2 = m2 := rfl
        have e3 : wdS ⟨m0, m1, m2, m3⟩ 3 = m3 := rfl
        rw [e0] at d0
        rw [e1] at d1
        rw [e2] at d2
        rw [e3] at d3
        clear e0 e1 e2 e3
        generalize hA : addS ⟨o0, o1, o2, o3⟩ ⟨m0, m1, m2, m3⟩ = A at CA EO
        obtain ⟨a0, a1, a2, a3⟩ := A
        obtain ⟨c0, c1, c2, c3⟩ := B3.cells
        have HF := Lib.hid (And.intro B1 (And.intro B2 (And.intro B3 L)))
        clear B1 B2 B3 L hA MB F
        have hX : Below wr.heap.size wr wr := Below.refl _ _
        go_wp2_with fail
        clear p0 hb1
        go_region_with (go_at_call 33; (with_reducible refine (CA.out _).mono ?_); rintro e x1 ⟨rfl, hb⟩; have hY : Below wr.heap.size wr x1 := ⟨hb.os, hb.tape, hb.output, hb.size, hb.block⟩; clear hb; obtain ⟨g0, g1, g2, g3⟩ := (HF.out.2.2.1.below hY).cells; obtain ⟨f0, f1, f2, f3⟩ := (HF.out.2.2.1.below hY).free; clear c0 c1 c2 c3 d0 d1 d2 d3)
        all_goals
          go_wp2_with fail
          go_roundg (gk - 1)
          case measure => omega
          case rel => exact ⟨i + 1, by omega, by go_num, Lib.hid ⟨(HF.out.1.below hY).far4 (by omega) _ _ _ _, (HF.out.2.1.below hY).far4 (by omega) _ _ _ _, by rw [EO.out]; exact (HF.out.2.2.1.below hY).put ⟨a0, a1, a2, a3⟩, below_put (below_then HF.out.2.2.2 hY) (by omega)⟩⟩
    · obtain rfl : i = 256 := by omega
      have kl : ¬ ((256 : Nat) : Int) < 256 := by omega
      obtain ⟨B1, B2, B3, L⟩ := F.out
      generalize hO : ofM M s 256 = O at B3
      have HO := Lib.hid hO
      clear hO B1
      obtain ⟨o0, o1, o2, o3⟩ := O
      obtain ⟨c0, c1, c2, c3⟩ := B3.cells
      obtain ⟨z0, z1, z2, z3⟩ := B2.cells
      obtain ⟨f0, f1, f2, f3⟩ := B2.free
      simp only [St.zero] at z0 z1 z2 z3
      have R := B2.put ⟨o0, o1, o2, o3⟩
      obtain ⟨r0, r1, r2, r3⟩ := R.cells
      have LL := below_put (x := .int .u64 (o0 : Int)) (y := .int .u64 (o1 : Int)) (z := .int .u64 (o2 : Int)) (u := .int .u64 (o3 : Int)) L (Nat.le_succ w.heap.size)
      have HL := Lib.hid (And.intro LL (And.intro r0 (And.intro r1 (And.intro r2 r3))))
      clear R LL r0 r1 r2 r3 B3 B2 L F
      go_wp2_with fail
      generalize World.setCell (World.setCell (World.setCell (World.setCell wr _ _) _ _) _ _) _ _ = V at HL ⊢
      obtain ⟨LL, r0, r1, r2, r3⟩ := HL.out
      clear HL z0 z1 z2 z3
      try simp only [Exit.inBlock, Exit.then]
      refine bodyPost_ret (by simp [results, Tryd.results39, go_sem, r0, r1, r2, r3]; try rfl) rfl ?_
      exact ⟨by rw [HO.out], LL⟩
end Go.Proofs.YtemgoikghaiamaaDoor
/-
  What so many steps do to each bit alone tells what they do to a state.
-/
namespace Go.Proofs.YtemgoikghaiamaaDoor
open Go.RowKit G
set_option linter.unusedVariables false

theorem iter_zero : ∀ n, iterS St.zero n = St.zero
  | 0 => rfl
  | n + 1 => by show stepS (iterS St.zero n) = _; rw [iter_zero n, step_zero]
/-- A state's first bits. -/
def partS (s : St) : Nat → St
  | 0 => St.zero
  | i + 1 => if bitAt s i = true then addS (partS s i) (unitS i) else partS s i
theorem partS_ok (s : St) : ∀ i, (partS s i).Ok
  | 0 => St.Ok.zero
  | i + 1 => by
    unfold partS
    split
    · exact (partS_ok s i).add (unit_ok i)
    · exact partS_ok s i
/-- What n steps do to each bit alone. -/
def matN (n : Nat) (i : Nat) : St := iterS (unitS i) n
theorem matN_ok (n : Nat) (k : Nat) : (matN n k).Ok := (unit_ok k).iter n
theorem ofM_part (n : Nat) (s : St) : ∀ i, ofM (matN n) s i = iterS (partS s i) n
  | 0 => (iter_zero n).symm
  | i + 1 => by
    unfold ofM partS
    split
    · rw [ofM_part n s i, iterS_lin (partS_ok s i) (unit_ok i)]; rfl
    · exact ofM_part n s i
theorem wdS_add (s t : St) (q : Nat) : wdS (addS s t) q = wdS s q ^^^ wdS t q := by
  unfold wdS
  split
  · rfl
  · split
    · rfl
    · split <;> rfl
theorem wdS_unit (i q : Nat) (hq : q < 4) (hi : i < 256) : wdS (unitS i) q = if i / 64 = q then 2 ^ (i % 64) else 0 := by
  have hc : q = 0 ∨ q = 1 ∨ q = 2 ∨ q = 3 := by omega
  rcases hc with rfl | rfl | rfl | rfl <;> rfl
theorem wdS_zero (q : Nat) : wdS St.zero q = 0 := by
  unfold wdS St.zero
  split
  · rfl
  · split
    · rfl
    · split <;> rfl
theorem bitAt_test (s : St) (i : Nat) : bitAt s i = (wdS s (i / 64)).testBit (i % 64) := by
  unfold bitAt; rw [Nat.testBit_eq_decide_div_mod_eq]
theorem part_bits (s : St) (q : Nat) (hq : q < 4) : ∀ i, i ≤ 256 → ∀ r, r < 64 → (wdS (partS s i) q).testBit r = (decide (64 * q + r < i) && (wdS s q).testBit r)
  | 0, _, r, _ => by
    show (wdS St.zero q).testBit r = _
    rw [wdS_zero, Nat.zero_testBit, decide_eq_false (by omega)]; rfl
  | i + 1, hi, r, hr => by
    have ih := part_bits s q hq i (by omega) r hr
    unfold partS
    by_cases hb : bitAt s i = true
    · rw [if_pos hb, wdS_add, Nat.testBit_xor, ih, wdS_unit i q hq (by omega)]
      rw [bitAt_test] at hb
      by_cases e : i / 64 = q
      · rw [if_pos e, Nat.testBit_two_pow]
        by_cases e2 : i % 64 = r
        · rw [decide_eq_true e2, decide_eq_false (by omega), decide_eq_true (show 64 * q + r < i + 1 by omega)]
          rw [e, e2] at hb
          rw [hb]; rfl
        · rw [decide_eq_false e2]
          by_cases hl : 64 * q + r < i
          · rw [decide_eq_true hl, decide_eq_true (show 64 * q + r < i + 1 by omega)]; simp
          · rw [decide_eq_false hl, decide_eq_false (show ¬ 64 * q + r < i + 1 by omega)]; simp
      · rw [if_neg e, Nat.zero_testBit]
        by_cases hl : 64 * q + r < i
        · rw [decide_eq_true hl, decide_eq_true (show 64 * q + r < i + 1 by omega)]; simp
        · rw [decide_eq_false hl, decide_eq_false (show ¬ 64 * q + r < i + 1 by omega)]; simp
    · rw [if_neg hb, ih]
      rw [bitAt_test] at hb
      by_cases hl : 64 * q + r < i
      · rw [decide_eq_true hl, decide_eq_true (show 64 * q + r < i + 1 by omega)]
      · by_cases e : 64 * q + r = i
        · have e1 : i / 64 = q := by omega
          have e2 : i % 64 = r := by omega
          rw [e1, e2] at hb
          rw [Bool.not_eq_true] at hb
          rw [hb]; simp
        · rw [decide_eq_false hl, decide_eq_false (show ¬ 64 * q + r < i + 1 by omega)]
theorem part_all (s : St) (h : s.Ok) : partS s 256 = s := by
  have key : ∀ q, q < 4 → wdS s q < 18446744073709551616 → wdS (partS s 256) q = wdS s q := by
    intro q hq hw
    have hp : wdS (partS s 256) q < 18446744073709551616 := by
      have := partS_ok s 256
      have hc : q = 0 ∨ q = 1 ∨ q = 2 ∨ q = 3 := by omega
      rcases hc with rfl | rfl | rfl | rfl
      · exact this.a
      · exact this.b
      · exact this.c
      · exact this.d
    refine Nat.eq_of_testBit_eq (fun r => ?_)
    by_cases hr : r < 64
    · rw [part_bits s q hq 256 (Nat.le_refl _) r hr, decide_eq_true (by omega)]; rfl
    · rw [bit_word hp (by omega), bit_word hw (by omega)]
  exact St.same (key 0 (by decide) h.a) (key 1 (by decide) h.b) (key 2 (by decide) h.c) (key 3 (by decide) h.d)
/-- What becomes of a state, told by what becomes of each bit. -/
theorem ofM_steps (n : Nat) (s : St) (h : s.Ok) : ofM (matN n) s 256 = iterS s n := by rw [ofM_part, part_all s h]
theorem cM_congr {M M' : Nat → St} (h : ∀ k, k < 256 → M k = M' k) : cM M = cM M' := by
  unfold cM
  congr 1
  funext j
  rw [h (j.1 / 4) (by omega)]
theorem one_mat : cM (oneTo 256) = cM (matN 1) := cM_congr (fun k hk => by unfold oneTo; rw [if_pos hk]; rfl)
/-- The doubled matrix, up to the i-th state. -/
def twTo (M : Nat → St) (i k : Nat) : St := if k < i then ofM M (M k) 256 else St.zero
theorem twTo_put (M : Nat → St) (i : Nat) : putM (twTo M i) i (ofM M (M i) 256) = twTo M (i + 1) := by
  funext k
  unfold putM twTo
  by_cases h : k = i
  · rw [if_pos h, if_pos (by omega), h]
  · rw [if_neg h]
    by_cases h2 : k < i
    · rw [if_pos h2, if_pos (by omega)]
    · rw [if_neg h2, if_neg (by omega)]
theorem twTo_zero (M : Nat → St) : twTo M 0 = fun _ => St.zero := by funext k; unfold twTo; rw [if_neg (by omega)]
theorem twice_mat (n : Nat) : cM (twTo (matN n) 256) = cM (matN (n + n)) := cM_congr (fun k hk => by
  unfold twTo
  rw [if_pos hk, ofM_steps n _ (matN_ok n k)]
  exact (iterS_add (unitS k) n n).symm)
end Go.Proofs.YtemgoikghaiamaaDoor
/-
  What the reference of layer 8 answers: One and Twice as numbers of steps; Powers.
-/
namespace Go.Proofs.YtemgoikghaiamaaDoor
open Go.RowKit G
set_option linter.unusedVariables false
set_option maxRecDepth 100000

theorem yOne (w : World) : Calls Tryd.prog 37 #[] w (fun e w' => e = .returned (.agg (cM (matN 1))) ∧ Below w.heap.size w w') := by
  have := yOneW w
  rwa [one_mat] at this
set_option maxHeartbeats 4000000 in
theorem yTwice (b n : Nat) (w : World) (H : MX w b (matN n)) : Calls Tryd.prog 38 #[.pointer (some ⟨b, 0, none⟩)] w (fun e w' => e = .returned (.agg (cM (matN (n + n)))) ∧ Below w.heap.size w w') := by
  have hz := zeroM
  have hi := sizeM
  have s1 := cM_size (fun _ => St.zero)
  have s2 := cM_one (fun _ => St.zero)
  generalize hZ : cM (fun _ => St.zero) = Z at hz s1 s2
  rw [← s1] at hi
  have HI := Lib.hid hi
  have H2 := Lib.hid s2
  have HZ := Lib.hid hZ
  have H1 := Lib.hid s1
  have HM := Lib.hid H
  clear hi s2 hZ s1 H
  go_enter Tryd.func38, Tryd.ntmps38
  go_wp2_with (refine wpList_store_row rfl 69 _ _ rfl (w.heap.size + 1) Z rfl rfl 69 Z (heap_second _ _ _) HI.out rfl H2.out ?_)
  have M1 : MX (((w.alloc (.cells Z 69)).alloc (.cells Z 69)).setRow (w.heap.size + 1) Z) (w.heap.size + 1) (twTo (matN n) 0) := by
    rw [twTo_zero]
    have := MX.row (heap_second w (.cells Z 69) (.cells Z 69)) (fun _ => St.zero)
    rwa [HZ.out] at this
  have L1 : Below w.heap.size w (((w.alloc (.cells Z 69)).alloc (.cells Z 69)).setRow (w.heap.size + 1) Z) := below_row (below_alloc (below_alloc (Below.refl _ _) _) _) (by omega)
  have M0 : MX (((w.alloc (.cells Z 69)).alloc (.cells Z 69)).setRow (w.heap.size + 1) Z) w.heap.size (fun _ => St.zero) := by
    have h0 : MX (w.alloc (.cells Z 69)) w.heap.size (fun _ => St.zero) := by rw [← HZ.out]; exact MX.new w _
    have h1 := h0.below (below_alloc (Below.refl _ _) (.cells Z 69))
    exact ((below_row (Below.refl (w.heap.size + 1) _) (Nat.le_refl _)).block w.heap.size (Nat.lt_succ_self _)).trans h1
  generalize World.setRow _ _ _ = W1 at M1 L1 M0 ⊢
  have F := Lib.hid (And.intro M1 (And.intro M0 L1))
  clear M1 M0 L1 hz
  go_loopg [4] 256 (fun g z wr => ∃ i : Nat, i + g = 256 ∧ z = .int .i64 i ∧ Hid (MX wr (w.heap.size + 1) (twTo (matN n) i) ∧ MX wr w.heap.size (fun _ => St.zero) ∧ Below w.heap.size w wr))
  case atStart => exact ⟨0, by omega, rfl, F⟩
  case round =>
    obtain ⟨i, hg, rfl, F⟩ := hrel
    by_cases hlt : i < 256
    · have kl : (i : Int) < 256 := by omega
      have k0 : (0 : Int) ≤ (i : Int) := by omega
      have MB := HM.out.below F.out.2.2
      have CO := Lib.hid (yOf b (matN n) (Lib.hid (matN_ok n)) (matN n i) (matN_ok n i) wr MB)
      have TP := Lib.hid (twTo_put (matN n) i)
      have d0 := MB.cell (i * 4) (by omega)
      have d1 := MB.cell (i * 4 + 1) (by omega)
      have d2 := MB.cell (i * 4 + 2) (by omega)
      have d3 := MB.cell (i * 4 + 3) (by omega)
      rw [show i * 4 / 4 = i by omega, show i * 4 % 4 = 0 by omega] at d0
      rw [show (i * 4 + 1) / 4 = i by omega, show (i * 4 + 1) % 4 = 1 by omega] at d1
      rw [show (i * 4 + 2) / 4 = i by omega, show (i * 4 + 2) % 4 = 2 by omega] at d2
      rw [show (i * 4 + 3) / 4 = i by omega, show (i * 4 + 3) % 4 = 3 by omega] at d3
      generalize hS : ofM (matN n) (matN n i) 256 = S at CO TP
      generalize matN n i = Mi at d0 d1 d2 d3 CO
      obtain ⟨m0, m1, m2, m3⟩ := Mi
      have e0 : wdS ⟨m0, m1, m2, m3⟩ 0 = m0 := rfl
      have e1 : wdS ⟨m0, m1, m2, m3⟩ 1 = m1 := rfl
      have e2 : wdS ⟨m0, m1, m2, m3⟩ 2 = m2 := rfl
      have e3 : wdS ⟨m0, m1, m2, m3⟩ 3 = m3 := rfl
      rw [e0] at d0
      rw [e1] at d1
      rw [e2] at d2
      rw [e3] at d3
      clear e0 e1 e2 e3 hS MB
      obtain ⟨n0, n1, n2, n3⟩ := S
      go_wp2_with fail
      refine (CO.out).mono ?_
      rintro e w2 ⟨rfl, hb⟩
      clear d0 d1 d2 d3 CO
      have G1 := F.out.1.below hb
      have G0 := F.out.2.1.below hb
      have GL := below_then F.out.2.2 hb
      clear F hb
      have c0 := G1.cell (i * 4) (by omega)
      have c1 := G1.cell (i * 4 + 1) (by omega)
      have c2 := G1.cell (i * 4 + 2) (by omega)
      have c3 := G1.cell (i * 4 + 3) (by omega)
      have f0 := G1.free (i * 4)
      have f1 := G1.free (i * 4 + 1)
      have f2 := G1.free (i * 4 + 2)
      have f3 := G1.free (i * 4 + 3)
      have HG := Lib.hid (And.intro G1 (And.intro G0 GL))
      clear G1 G0 GL
      go_wp2_with fail
      go_roundg (gk - 1)
      case measure => omega
      case rel =>
        have P := HG.out.1.put i hlt ⟨n0, n1, n2, n3⟩
        rw [TP.out] at P
        exact ⟨i + 1, by omega, by go_num, Lib.hid ⟨P, (((HG.out.2.1.far (by show _ ≠ _; simp) _).far (by show _ ≠ _; simp) _).far (by show _ ≠ _; simp) _).far (by show _ ≠ _; simp) _, ((((HG.out.2.2.setCell (by show _ ≤ w.heap.size + 1; omega) _).setCell (by show _ ≤ w.heap.size + 1; omega) _).setCell (by show _ ≤ w.heap.size + 1; omega) _).setCell (by show _ ≤ w.heap.size + 1; omega) _)⟩⟩
    · obtain rfl : i = 256 := by omega
      have kl : ¬ ((256 : Nat) : Int) < 256 := by omega
      obtain ⟨M1, M0, L1⟩ := F.out
      clear F
      go_wp2_with (first
        | (refine wpList_load_M rfl _ rfl (w.heap.size + 1) rfl (twTo (matN n) 256) M1 ?_)
        | (refine wpList_store_M rfl _ _ rfl w.heap.size rfl (twTo (matN n) 256) _ rfl M0 ?_; intro w5 N0 NL NF; replace L1 := NL _ (Nat.le_refl _) _ L1; clear M0 NL NF)
        | fail)
      try simp only [Exit.inBlock, Exit.then]
      exact bodyPost_ret (results_M Tryd.results38 _ _ w.heap.size (twTo (matN n) 256) rfl N0) rfl ⟨by rw [twice_mat], L1⟩
end Go.Proofs.YtemgoikghaiamaaDoor
/-
  What the reference of layer 8 answers: Powers, Jump, At.
-/
namespace Go.Proofs.YtemgoikghaiamaaDoor
open Go.RowKit G
set_option linter.unusedVariables false
set_option maxRecDepth 100000

theorem twoNewX (w : World) (s : St) (t : TypeId) : Bx t ((w.alloc (.cells #[.int .u64 (s.a : Int), .int .u64 (s.b : Int), .int .u64 (s.c : Int), .int .u64 (s.d : Int)] t)).alloc (.cells #[.int .u64 0, .int .u64 0, .int .u64 0, .int .u64 0] t)) w.heap.size s ∧
    Bx t ((w.alloc (.cells #[.int .u64 (s.a : Int), .int .u64 (s.b : Int), .int .u64 (s.c : Int), .int .u64 (s.d : Int)] t)).alloc (.cells #[.int .u64 0, .int .u64 0, .int .u64 0, .int .u64 0] t)) (w.heap.size + 1) St.zero ∧
    Below w.heap.size w ((w.alloc (.cells #[.int .u64 (s.a : Int), .int .u64 (s.b : Int), .int .u64 (s.c : Int), .int .u64 (s.d : Int)] t)).alloc (.cells #[.int .u64 0, .int .u64 0, .int .u64 0, .int .u64 0] t)) ∧ True := by
  have B1 := Bx.new w s t
  have L1 := below_alloc (Below.refl w.heap.size w) (.cells #[.int .u64 (s.a : Int), .int .u64 (s.b : Int), .int .u64 (s.c : Int), .int .u64 (s.d : Int)] t)
  have S1 : (w.alloc (.cells #[.int .u64 (s.a : Int), .int .u64 (s.b : Int), .int .u64 (s.c : Int), .int .u64 (s.d : Int)] t)).heap.size = w.heap.size + 1 := Array.size_push _
  generalize w.alloc _ = W1 at B1 L1 S1 ⊢
  have B2 := Bx.new W1 St.zero t
  rw [S1] at B2
  exact ⟨B1.alloc _, B2, below_alloc L1 _, trivial⟩
theorem pow_twice (j : Nat) : 2 ^ j + 2 ^ j = 2 ^ (j + 1) := by rw [Nat.pow_succ]; omega
set_option maxHeartbeats 4000000 in
theorem yPowers (s : St) (hs : s.Ok) (n : Nat) (hn : n ≤ 100000) (w : World) : Calls Tryd.prog 14 #[s.val, .int .i64 (n : Int)] w (AnsS (iterS s (2 ^ n)) w) := by
  have TN := Lib.hid (twoNewX w s 23)
  have hz := zeroM
  generalize hZ : cM (fun _ => St.zero) = Z at hz
  have HZ := Lib.hid hZ
  clear hZ
  have HS := Lib.hid hs
  clear hs
  go_enter Tryd.func14, Tryd.ntmps14
  go_wp2_with fail
  generalize World.alloc (World.alloc w _) _ = W1 at TN ⊢
  refine (yOne _).mono ?_
  rintro e w1 ⟨rfl, hb⟩
  have F1 := Lib.hid (And.intro (TN.out.1.below hb) (And.intro (TN.out.2.1.below hb) (below_then TN.out.2.2.1 hb)))
  have hP : w.heap.size + 1 < w1.heap.size := (TN.out.2.1.below hb).lt
  clear hb TN
  have N0 : MX (w1.alloc (.cells Z 69)) w1.heap.size (fun _ => St.zero) := by rw [← HZ.out]; exact MX.new w1 _
  have F2 := Lib.hid (And.intro (F1.out.1.alloc (.cells Z 69)) (And.intro (F1.out.2.1.alloc (.cells Z 69)) (below_alloc F1.out.2.2 (.cells Z 69))))
  go_wp2_with (first
    | (refine wpList_store_M rfl _ _ rfl w1.heap.size rfl (matN 1) _ rfl N0 ?_; intro w2 M2 NL NF; have F3 := Lib.hid (And.intro ((NF w.heap.size (by omega)).trans F2.out.1) (And.intro ((NF (w.heap.size + 1) (by omega)).trans F2.out.2.1) (NL w.heap.size (by omega) _ F2.out.2.2))); clear NL NF N0)
    | fail)
  generalize w1.heap.size = p at hP M2 F3 ⊢
  have G0 : Hid (MX w2 p (matN (2 ^ 0)) ∧ Bx 23 w2 w.heap.size s ∧ Bx 23 w2 (w.heap.size + 1) St.zero ∧ Below w.heap.size w w2) := Lib.hid ⟨M2, F3.out⟩
  clear M2 F3 F2 F1 hz
  go_loopg [6] n (fun g z wr => ∃ j : Nat, j + g = n ∧ z = .int .i64 j ∧ Hid (MX wr p (matN (2 ^ j)) ∧ Bx 23 wr w.heap.size s ∧ Bx 23 wr (w.heap.size + 1) St.zero ∧ Below w.heap.size w wr))
  case atStart => exact ⟨0, by omega, rfl, G0⟩
  case round =>
    obtain ⟨j, hg, rfl, G⟩ := hrel
    clear G0
    by_cases hlt : j < n
    · have kl : (j : Int) < (n : Int) := by omega
      have k0 : (0 : Int) ≤ (j : Int) := by omega
      have CT := Lib.hid (yTwice p (2 ^ j) wr G.out.1)
      go_wp2_with fail
      refine (CT.out).mono ?_
      rintro e w3 ⟨rfl, hb⟩
      clear CT
      have M3 := G.out.1.below hb
      have K3 := Lib.hid (And.intro (G.out.2.1.below hb) (And.intro (G.out.2.2.1.below hb) (below_then G.out.2.2.2 hb)))
      clear hb G
      go_wp2_with (first
        | (refine wpList_store_M rfl _ _ rfl p rfl (matN (2 ^ j + 2 ^ j)) _ rfl M3 ?_; intro w4 M4 NL NF; have K4 := Lib.hid (And.intro ((NF w.heap.size (by omega)).trans K3.out.1) (And.intro ((NF (w.heap.size + 1) (by omega)).trans K3.out.2.1) (NL w.heap.size (by omega) _ K3.out.2.2))); clear NL NF M3 K3)
        | fail)
      go_roundg (gk - 1)
      case measure => omega
      case rel => exact ⟨j + 1, by omega, by go_num, Lib.hid ⟨by rw [← pow_twice]; exact M4, K4.out⟩⟩
    · obtain rfl : j = n := by omega
      have kl : ¬ (j : Int) < (j : Int) := by omega
      have CO := Lib.hid (yOf p (matN (2 ^ j)) (Lib.hid (matN_ok _)) s HS.out wr G.out.1)
      rw [ofM_steps _ s HS.out] at CO
      obtain ⟨p0, p1, p2, p3⟩ := G.out.2.1.cells
      generalize hO : iterS s (2 ^ j) = O at CO
      have HO := Lib.hid hO
      clear hO
      obtain ⟨o0, o1, o2, o3⟩ := O
      go_wp2_with fail
      refine (CO.out).mono ?_
      rintro e w3 ⟨rfl, hb⟩
      have B2 := G.out.2.2.1.below hb
      have L := below_then G.out.2.2.2 hb
      clear G hb CO p0 p1 p2 p3
      have R := B2.put ⟨o0, o1, o2, o3⟩
      obtain ⟨r0, r1, r2, r3⟩ := R.cells
      have LL := below_put (x := .int .u64 (o0 : Int)) (y := .int .u64 (o1 : Int)) (z := .int .u64 (o2 : Int)) (u := .int .u64 (o3 : Int)) L (Nat.le_succ w.heap.size)
      have HL := Lib.hid (And.intro LL (And.intro r0 (And.intro r1 (And.intro r2 r3))))
      obtain ⟨z0, z1, z2, z3⟩ := B2.cells
      obtain ⟨f0, f1, f2, f3⟩ := B2.free
      simp only [St.zero] at z0 z1 z2 z3
      clear R LL r0 r1 r2 r3 B2 L
      go_wp2_with fail
      generalize World.setCell (World.setCell (World.setCell (World.setCell w3 _ _) _ _) _ _) _ _ = V at HL ⊢
      obtain ⟨LL, r0, r1, r2, r3⟩ := HL.out
      clear HL z0 z1 z2 z3
      try simp only [Exit.inBlock, Exit.then]
      refine bodyPost_ret (by simp [results, Tryd.results14, go_sem, r0, r1, r2, r3]; try rfl) rfl ?_
      exact ⟨by rw [HO.out], LL⟩
theorem Lst.keep {w w' : World} {A : Option Addr} {cap : Nat} {xs : List Nat} (h : Lst w A cap xs) (b : Nat) (hne : ∀ o v, w.cell? ⟨b, o, none⟩ ≠ some (.int .i64 v)) (hk : ∀ g, g ≠ b → w'.heap[g]? = w.heap[g]?) : Lst w' A cap xs :=
  ⟨h.bit, h.cap1, h.cap2, fun i hi => by
    obtain ⟨g, o, e, hc⟩ := h.cell i hi
    refine ⟨g, o, e, ?_⟩
    rw [World.cell?_of_block (hk g (fun eg => by subst eg; exact hne _ _ hc))]
    exact hc⟩
theorem Bx.words {t : TypeId} {w : World} {b : Nat} {s : St} (h : Bx t w b s) (o : Nat) (v : Int) : w.cell? ⟨b, o, none⟩ ≠ some (.int .i64 v) := by
  by_cases ho : o < 4
  · rw [wdS_cell h o ho]; simp
  · unfold Bx at h
    simp only [World.cell?, h]
    rw [Array.getElem?_eq_none (by show 4 ≤ o; omega)]
    simp
theorem MX.words {w : World} {b : Nat} {M : Nat → St} (h : MX w b M) (o : Nat) (v : Int) : w.cell? ⟨b, o, none⟩ ≠ some (.int .i64 v) := by
  by_cases ho : o < 1024
  · rw [h.cell o ho]; simp
  · unfold MX at h
    simp only [World.cell?, h]
    rw [Array.getElem?_eq_none (by rw [cM_size]; omega)]
    simp
theorem put4_others (w : World) (b : Nat) (x y z u : Value) (g : Nat) (hg : g ≠ b) : ((((w.setCell ⟨b, 0, none⟩ x).setCell ⟨b, 1, none⟩ y).setCell ⟨b, 2, none⟩ z).setCell ⟨b, 3, none⟩ u).heap[g]? = w.heap[g]? :=
  (Below.heap_setCell _ ⟨b, 3, none⟩ u g hg).trans ((Below.heap_setCell _ ⟨b, 2, none⟩ z g hg).trans ((Below.heap_setCell _ ⟨b, 1, none⟩ y g hg).trans (Below.heap_setCell w ⟨b, 0, none⟩ x g hg)))
theorem mod_nextX (N j : Nat) : N % 2 ^ (j + 1) = N % 2 ^ j + 2 ^ j * (N / 2 ^ j % 2) := by rw [Nat.pow_succ, Nat.mod_mul]
set_option maxHeartbeats 8000000 in
theorem yJumpW {xs : List Nat} (s : St) (hs : s.Ok) (N L : Nat) (A : Option Addr) (cap : Nat) (w : World) (P : Lst w A cap xs) (hL : xs.length = L) (hN : leB xs = N) (hl : L ≤ 100000) : Calls Tryd.prog 15 #[s.val, .slice A L cap] w (AnsS (iterS s N) w) := by
  have TN := Lib.hid (twoNewX w s 23)
  have hz := zeroM
  generalize hZ : cM (fun _ => St.zero) = Z at hz
  have HZ := Lib.hid hZ
  clear hZ
  have HS := Lib.hid hs
  have HT := Lib.hid P
  have BG := Lib.hid (bitsOf_get N)
  have BL := Lib.hid (And.intro (bitsOf_len N) (len_lt N))
  have BT := Lib.hid (fun w (h : Lst w A cap xs) => rTrim (w := w) N h hL hN (by omega))
  have hlen : len N ≤ 100000 := by
    have h1 := leB_lt xs P.bit
    rw [hN, hL] at h1
    exact Nat.le_trans (len_le h1) hl
  clear hs P hL hN hl
  go_enter Tryd.func15, Tryd.ntmps15
  go_wp2_with fail
  generalize World.alloc (World.alloc w _) _ = W1 at TN ⊢
  refine (yOne _).mono ?_
  rintro e w1 ⟨rfl, hb⟩
  have F1 := Lib.hid (And.intro (TN.out.1.below hb) (And.intro (TN.out.2.1.below hb) (below_then TN.out.2.2.1 hb)))
  have hP : w.heap.size + 1 < w1.heap.size := (TN.out.2.1.below hb).lt
  clear hb TN
  have N0 : MX (w1.alloc (.cells Z 69)) w1.heap.size (fun _ => St.zero) := by rw [← HZ.out]; exact MX.new w1 _
  have F2 := Lib.hid (And.intro (F1.out.1.alloc (.cells Z 69)) (And.intro (F1.out.2.1.alloc (.cells Z 69)) (below_alloc F1.out.2.2 (.cells Z 69))))
  go_wp2_with (first
    | (refine wpList_store_M rfl _ _ rfl w1.heap.size rfl (matN 1) _ rfl N0 ?_; intro w2 M2 NL NF; have F3 := Lib.hid (And.intro ((NF w.heap.size (by omega)).trans F2.out.1) (And.intro ((NF (w.heap.size + 1) (by omega)).trans F2.out.2.1) (NL w.heap.size (by omega) _ F2.out.2.2))); clear NL NF N0)
    | fail)
  generalize w1.heap.size = p at hP M2 F3 ⊢
  have HTw := Lib.hid (HT.out.below F3.out.2.2)
  refine (BT.out _ HTw.out).mono ?_
  rintro e w3 ⟨A3, c3, rfl, T3, hb⟩
  rw [BL.out.1]
  have M3 := M2.below hb
  have G0 : Hid (MX w3 p (matN (2 ^ 0)) ∧ Bx 23 w3 w.heap.size (iterS s (N % 2 ^ 0)) ∧ Bx 23 w3 (w.heap.size + 1) St.zero ∧ Below w.heap.size w w3) := Lib.hid ⟨M3, by rw [Nat.pow_zero, Nat.mod_one]; exact Bx.below (show Bx 23 w2 w.heap.size s from F3.out.1) hb, Bx.below (show Bx 23 w2 (w.heap.size + 1) St.zero from F3.out.2.1) hb, below_then F3.out.2.2 hb⟩
  have hT3 := Lib.hid T3
  clear M2 F3 F2 F1 hz hb M3 T3 HTw BT HT
  go_wp2_with fail
  go_loopg [6] (len N) (fun g z wr => ∃ j : Nat, j + g = len N ∧ z = .int .i64 j ∧ Hid (MX wr p (matN (2 ^ j)) ∧ Bx 23 wr w.heap.size (iterS s (N % 2 ^ j)) ∧ Bx 23 wr (w.heap.size + 1) St.zero ∧ Below w.heap.size w wr ∧ Lst wr A3 c3 (bitsOf N)))
  case atStart => exact ⟨0, by omega, rfl, Lib.hid ⟨G0.out.1, G0.out.2.1, G0.out.2.2.1, G0.out.2.2.2, hT3.out⟩⟩
  case round =>
    obtain ⟨j, hg, rfl, G⟩ := hrel
    clear G0 hT3
    by_cases hlt : j < len N
    · have kl : (j : Int) < ((len N : Nat) : Int) := by omega
      have k0 : (0 : Int) ≤ (j : Int) := by omega
      obtain ⟨bl, ol, rfl, q1⟩ := G.out.2.2.2.2.cell j (by rw [BL.out.1]; exact hlt)
      rw [BG.out] at q1
      have hm := Nat.mod_two_eq_zero_or_one (N / 2 ^ j)
      have MN := mod_nextX N j
      rcases hm with hm | hm
      · rw [hm] at q1 MN
        have EN := Lib.hid (show N % 2 ^ (j + 1) = N % 2 ^ j by rw [MN]; omega)
        clear hm MN
        have G5 := G
        clear G
        have CT := Lib.hid (yTwice p (2 ^ j) wr G5.out.1)
        go_wp2_with fail
        refine (CT.out).mono ?_
        rintro e w5 ⟨rfl, hb⟩
        clear CT
        have M5 := MX.below (b := p) (M := matN (2 ^ j)) G5.out.1 hb
        have K5 := Lib.hid (And.intro (G5.out.2.1.below hb) (And.intro (Bx.below (t := 23) (b := w.heap.size + 1) (s := St.zero) G5.out.2.2.1 hb) (And.intro (below_then G5.out.2.2.2.1 hb) (G5.out.2.2.2.2.below hb))))
        clear hb G5
        go_wp2_with (first
          | (refine wpList_store_M rfl _ _ rfl p rfl (matN (2 ^ j + 2 ^ j)) _ rfl M5 ?_; intro w6 M6 NL NF; have K6 := Lib.hid (And.intro ((NF w.heap.size (by omega)).trans K5.out.1) (And.intro ((NF (w.heap.size + 1) (by omega)).trans K5.out.2.1) (And.intro (NL w.heap.size (by omega) _ K5.out.2.2.1) (K5.out.2.2.2.keep p M5.words NF)))); clear NL NF M5 K5)
          | fail)
        go_roundg (gk - 1)
        case measure => omega
        case rel => exact ⟨j + 1, by omega, by go_num, Lib.hid ⟨by rw [← pow_twice]; exact M6, by rw [EN.out]; exact K6.out⟩⟩
      · rw [hm] at q1 MN
        have EN := Lib.hid (show iterS s (N % 2 ^ (j + 1)) = iterS (iterS s (N % 2 ^ j)) (2 ^ j) by rw [MN, Nat.mul_one, iterS_add])
        clear hm MN
        have OKj := HS.out.iter (N % 2 ^ j)
        have CO := Lib.hid (yOf p (matN (2 ^ j)) (Lib.hid (matN_ok _)) (iterS s (N % 2 ^ j)) OKj wr G.out.1)
        rw [ofM_steps _ _ OKj] at CO
        clear OKj
        obtain ⟨p0, p1, p2, p3⟩ := G.out.2.1.cells
        generalize hO : iterS (iterS s (N % 2 ^ j)) (2 ^ j) = O at CO EN
        generalize hI : iterS s (N % 2 ^ j) = I0 at CO G p0 p1 p2 p3
        clear hO hI
        obtain ⟨o0, o1, o2, o3⟩ := O
        go_wp2_with fail
        refine (CO.out).mono ?_
        rintro e w4 ⟨rfl, hb⟩
        clear CO p0 p1 p2 p3 q1
        have G4 := Lib.hid (And.intro (G.out.1.below hb) (And.intro (G.out.2.1.below hb) (And.intro (G.out.2.2.1.below hb) (And.intro (below_then G.out.2.2.2.1 hb) (G.out.2.2.2.2.below hb)))))
        clear G hb
        obtain ⟨c0, c1, c2, c3'⟩ := G4.out.2.1.cells
        obtain ⟨f0, f1, f2, f3⟩ := G4.out.2.1.free
        go_upto_region 8 with fail
        have G5 := Lib.hid (And.intro ((put4_others w4 w.heap.size (.int .u64 (o0 : Int)) (.int .u64 (o1 : Int)) (.int .u64 (o2 : Int)) (.int .u64 (o3 : Int)) p (by omega)).trans G4.out.1 : MX _ p (matN (2 ^ j))) (And.intro (G4.out.2.1.put ⟨o0, o1, o2, o3⟩) (And.intro ((put4_others w4 w.heap.size (.int .u64 (o0 : Int)) (.int .u64 (o1 : Int)) (.int .u64 (o2 : Int)) (.int .u64 (o3 : Int)) (w.heap.size + 1) (by omega)).trans G4.out.2.2.1 : Bx 23 _ (w.heap.size + 1) St.zero) (And.intro (below_put (x := .int .u64 (o0 : Int)) (y := .int .u64 (o1 : Int)) (z := .int .u64 (o2 : Int)) (u := .int .u64 (o3 : Int)) G4.out.2.2.2.1 (Nat.le_refl _)) (G4.out.2.2.2.2.keep w.heap.size G4.out.2.1.words (put4_others w4 w.heap.size (.int .u64 (o0 : Int)) (.int .u64 (o1 : Int)) (.int .u64 (o2 : Int)) (.int .u64 (o3 : Int))))))))
        clear G4 c0 c1 c2 c3' f0 f1 f2 f3
        generalize World.setCell (World.setCell (World.setCell (World.setCell w4 _ _) _ _) _ _) _ _ = V4 at G5 ⊢
        have CT := Lib.hid (yTwice p (2 ^ j) V4 G5.out.1)
        go_wp2_with fail
        refine (CT.out).mono ?_
        rintro e w5 ⟨rfl, hb⟩
        clear CT
        have M5 := MX.below (b := p) (M := matN (2 ^ j)) G5.out.1 hb
        have K5 := Lib.hid (And.intro (G5.out.2.1.below hb) (And.intro (Bx.below (t := 23) (b := w.heap.size + 1) (s := St.zero) G5.out.2.2.1 hb) (And.intro (below_then G5.out.2.2.2.1 hb) (G5.out.2.2.2.2.below hb))))
        clear hb G5
        go_wp2_with (first
          | (refine wpList_store_M rfl _ _ rfl p rfl (matN (2 ^ j + 2 ^ j)) _ rfl M5 ?_; intro w6 M6 NL NF; have K6 := Lib.hid (And.intro ((NF w.heap.size (by omega)).trans K5.out.1) (And.intro ((NF (w.heap.size + 1) (by omega)).trans K5.out.2.1) (And.intro (NL w.heap.size (by omega) _ K5.out.2.2.1) (K5.out.2.2.2.keep p M5.words NF)))); clear NL NF M5 K5)
          | fail)
        go_roundg (gk - 1)
        case measure => omega
        case rel => exact ⟨j + 1, by omega, by go_num, Lib.hid ⟨by rw [← pow_twice]; exact M6, by rw [EN.out]; exact K6.out⟩⟩
    · obtain rfl : j = len N := by omega
      have kl : ¬ ((len N : Nat) : Int) < ((len N : Nat) : Int) := by omega
      obtain ⟨M1, B1, B2, L, T⟩ := G.out
      rw [Nat.mod_eq_of_lt BL.out.2] at B1
      clear G M1 T
      generalize hO : iterS s N = O at B1
      have HO := Lib.hid hO
      clear hO
      obtain ⟨o0, o1, o2, o3⟩ := O
      obtain ⟨p0, p1, p2, p3⟩ := B1.cells
      clear B1
      have R := B2.put ⟨o0, o1, o2, o3⟩
      obtain ⟨r0, r1, r2, r3⟩ := R.cells
      have LL := below_put (x := .int .u64 (o0 : Int)) (y := .int .u64 (o1 : Int)) (z := .int .u64 (o2 : Int)) (u := .int .u64 (o3 : Int)) L (Nat.le_succ w.heap.size)
      have HL := Lib.hid (And.intro LL (And.intro r0 (And.intro r1 (And.intro r2 r3))))
      obtain ⟨z0, z1, z2, z3⟩ := B2.cells
      obtain ⟨f0, f1, f2, f3⟩ := B2.free
      simp only [St.zero] at z0 z1 z2 z3
      clear R LL r0 r1 r2 r3 B2 L
      go_wp2_with fail
      generalize World.setCell (World.setCell (World.setCell (World.setCell wr _ _) _ _) _ _) _ _ = V at HL ⊢
      obtain ⟨LL, r0, r1, r2, r3⟩ := HL.out
      clear HL z0 z1 z2 z3
      try simp only [Exit.inBlock, Exit.then]
      refine bodyPost_ret (by simp [results, Tryd.results15, go_sem, r0, r1, r2, r3]; try rfl) rfl ?_
      exact ⟨by rw [HO.out], LL⟩
end Go.Proofs.YtemgoikghaiamaaDoor
/-
  What the references of layers 7 and 8 answer: At: a polynomial of a state; and Jump of layer 7: single steps.
-/
namespace Go.Proofs.YtemgoikghaiamaaDoor
open Go.RowKit G
set_option linter.unusedVariables false
set_option maxRecDepth 100000

/-- A polynomial of a state, its first bits alone. -/
def atS (N : Nat) (s : St) : Nat → St
  | 0 => St.zero
  | k + 1 => if N / 2 ^ k % 2 = 1 then addS (atS N s k) (iterS s k) else atS N s k
theorem atS_ok (N : Nat) (s : St) (h : s.Ok) : ∀ k, (atS N s k).Ok
  | 0 => St.Ok.zero
  | k + 1 => by
    unfold atS
    split
    · exact (atS_ok N s h k).add (h.iter k)
    · exact atS_ok N s h k
set_option maxHeartbeats 8000000 in
theorem yAt (s : St) (hs : s.Ok) (N : Nat) (A : Option Addr) (cap : Nat) (w : World) (P : Lst w A cap (bitsOf N)) (hl : len N ≤ 100000) : Calls Tryd.prog 12 #[.slice A (len N) cap, s.val] w (AnsS (atS N s (len N)) w) := by
  have TN := Lib.hid (three_new w s 23)
  have HS := Lib.hid hs
  have HT := Lib.hid P
  have BG := Lib.hid (bitsOf_get N)
  have BL := Lib.hid (bitsOf_len N)
  clear hs P
  go_enter Tryd.func12, Tryd.ntmps12
  go_wp2_with fail
  generalize World.alloc (World.alloc (World.alloc w _) _) _ = W1 at TN ⊢
  have F0 : Hid (Bx 23 W1 w.heap.size (iterS s 0) ∧ Bx 23 W1 (w.heap.size + 1) St.zero ∧ Bx 23 W1 (w.heap.size + 1 + 1) (atS N s 0) ∧ Below w.heap.size w W1) := TN
  clear TN
  go_loopg [6] (len N) (fun g z wr => ∃ j : Nat, j + g = len N ∧ z = .int .i64 j ∧ Hid (Bx 23 wr w.heap.size (iterS s j) ∧ Bx 23 wr (w.heap.size + 1) St.zero ∧ Bx 23 wr (w.heap.size + 1 + 1) (atS N s j) ∧ Below w.heap.size w wr))
  case atStart => exact ⟨0, by omega, rfl, F0⟩
  case round =>
    obtain ⟨j, hg, rfl, F⟩ := hrel
    clear F0
    by_cases hlt : j < len N
    · have kl : (j : Int) < ((len N : Nat) : Int) := by omega
      have k0 : (0 : Int) ≤ (j : Int) := by omega
      obtain ⟨bl, ol, rfl, q1⟩ := (HT.out.below F.out.2.2.2).cell j (by rw [BL.out]; exact hlt)
      rw [BG.out] at q1
      have hm := Nat.mod_two_eq_zero_or_one (N / 2 ^ j)
      rcases hm with hm | hm
      · rw [hm] at q1
        have EA := Lib.hid (show atS N s (j + 1) = atS N s j by rw [atS, hm]; rfl)
        clear hm
        have CS := Lib.hid (yStep (iterS s j) (HS.out.iter j))
        have E2 := Lib.hid (show iterS s (j + 1) = stepS (iterS s j) from rfl)
        generalize hI : iterS s j = I0 at CS E2 F
        clear hI
        generalize stepS I0 = T at CS E2
        obtain ⟨i0, i1, i2, i3⟩ := I0
        obtain ⟨t0, t1, t2, t3⟩ := T
        obtain ⟨p0, p1, p2, p3⟩ := F.out.1.cells
        go_wp2_with fail
        refine (CS.out _).mono ?_
        rintro e w5 ⟨rfl, hb⟩
        clear CS p0 p1 p2 p3
        have K5 := Lib.hid (And.intro (F.out.1.below hb) (And.intro (F.out.2.1.below hb) (And.intro (F.out.2.2.1.below hb) (below_then F.out.2.2.2 hb))))
        clear hb F
        obtain ⟨c0, c1, c2, c3⟩ := K5.out.1.cells
        obtain ⟨f0, f1, f2, f3⟩ := K5.out.1.free
        go_wp2_with fail
        go_roundg (gk - 1)
        case measure => omega
        case rel => exact ⟨j + 1, by omega, by go_num, Lib.hid ⟨by rw [E2.out]; exact K5.out.1.put ⟨t0, t1, t2, t3⟩, K5.out.2.1.far4 (by omega) _ _ _ _, by rw [EA.out]; exact K5.out.2.2.1.far4 (by omega) _ _ _ _, below_put K5.out.2.2.2 (Nat.le_refl _)⟩⟩
      · rw [hm] at q1
        have EA := Lib.hid (show atS N s (j + 1) = addS (atS N s j) (iterS s j) by rw [atS, hm]; rfl)
        clear hm
        have CA := Lib.hid (yAdd (atS N s j) (iterS s j) (atS_ok N s HS.out j) (HS.out.iter j))
        have CS := Lib.hid (yStep (iterS s j) (HS.out.iter j))
        have E2 := Lib.hid (show iterS s (j + 1) = stepS (iterS s j) from rfl)
        generalize hA : addS (atS N s j) (iterS s j) = A1 at CA EA
        generalize hI : iterS s j = I0 at CS E2 CA F
        generalize hO : atS N s j = O at CA F
        clear hI hO hA
        generalize stepS I0 = T at CS E2
        obtain ⟨i0, i1, i2, i3⟩ := I0
        obtain ⟨t0, t1, t2, t3⟩ := T
        obtain ⟨o0, o1, o2, o3⟩ := O
        obtain ⟨a0, a1, a2, a3⟩ := A1
        obtain ⟨p0, p1, p2, p3⟩ := F.out.1.cells
        obtain ⟨c0, c1, c2, c3⟩ := F.out.2.2.1.cells
        go_wp2_with fail
        refine (CA.out _).mono ?_
        rintro e w4 ⟨rfl, hb⟩
        clear CA p0 p1 p2 p3 c0 c1 c2 c3
        have G4 := Lib.hid (And.intro (F.out.1.below hb) (And.intro (F.out.2.1.below hb) (And.intro (F.out.2.2.1.below hb) (below_then F.out.2.2.2 hb))))
        clear F hb
        obtain ⟨c0, c1, c2, c3⟩ := G4.out.2.2.1.cells
        obtain ⟨f0, f1, f2, f3⟩ := G4.out.2.2.1.free
        go_upto_region 7 with fail
        have G5 := Lib.hid (And.intro (G4.out.1.far4 (x := w.heap.size + 1 + 1) (by omega) (.int .u64 (a0 : Int)) (.int .u64 (a1 : Int)) (.int .u64 (a2 : Int)) (.int .u64 (a3 : Int))) (And.intro (G4.out.2.1.far4 (x := w.heap.size + 1 + 1) (by omega) (.int .u64 (a0 : Int)) (.int .u64 (a1 : Int)) (.int .u64 (a2 : Int)) (.int .u64 (a3 : Int))) (And.intro (G4.out.2.2.1.put ⟨a0, a1, a2, a3⟩) (below_put (b := w.heap.size + 1 + 1) (x := .int .u64 (a0 : Int)) (y := .int .u64 (a1 : Int)) (z := .int .u64 (a2 : Int)) (u := .int .u64 (a3 : Int)) G4.out.2.2.2 (by omega)))))
        clear G4 c0 c1 c2 c3 f0 f1 f2 f3
        generalize World.setCell (World.setCell (World.setCell (World.setCell w4 _ _) _ _) _ _) _ _ = V4 at G5 ⊢
        obtain ⟨p0, p1, p2, p3⟩ := G5.out.1.cells
        go_wp2_with fail
        refine (CS.out _).mono ?_
        rintro e w5 ⟨rfl, hb⟩
        clear CS p0 p1 p2 p3
        have K5 := Lib.hid (And.intro (G5.out.1.below hb) (And.intro (G5.out.2.1.below hb) (And.intro (G5.out.2.2.1.below hb) (below_then G5.out.2.2.2 hb))))
        clear hb G5
        obtain ⟨c0, c1, c2, c3⟩ := K5.out.1.cells
        obtain ⟨f0, f1, f2, f3⟩ := K5.out.1.free
        go_wp2_with fail
        go_roundg (gk - 1)
        case measure => omega
        case rel => exact ⟨j + 1, by omega, by go_num, Lib.hid ⟨by rw [E2.out]; exact K5.out.1.put ⟨t0, t1, t2, t3⟩, K5.out.2.1.far4 (by omega) _ _ _ _, by rw [EA.out]; exact K5.out.2.2.1.far4 (by omega) _ _ _ _, below_put K5.out.2.2.2 (Nat.le_refl _)⟩⟩
    · obtain rfl : j = len N := by omega
      have kl : ¬ ((len N : Nat) : Int) < ((len N : Nat) : Int) := by omega
      obtain ⟨B1, B2, B3, L⟩ := F.out
      generalize hO : atS N s (len N) = O at B3
      have HO := Lib.hid hO
      clear hO B1 F
      obtain ⟨o0, o1, o2, o3⟩ := O
      obtain ⟨p0, p1, p2, p3⟩ := B3.cells
      clear B3
      have R := B2.put ⟨o0, o1, o2, o3⟩
      obtain ⟨r0, r1, r2, r3⟩ := R.cells
      have LL := below_put (x := .int .u64 (o0 : Int)) (y := .int .u64 (o1 : Int)) (z := .int .u64 (o2 : Int)) (u := .int .u64 (o3 : Int)) L (Nat.le_succ w.heap.size)
      have HL := Lib.hid (And.intro LL (And.intro r0 (And.intro r1 (And.intro r2 r3))))
      obtain ⟨z0, z1, z2, z3⟩ := B2.cells
      obtain ⟨f0, f1, f2, f3⟩ := B2.free
      simp only [St.zero] at z0 z1 z2 z3
      clear R LL r0 r1 r2 r3 B2 L
      go_wp2_with fail
      generalize World.setCell (World.setCell (World.setCell (World.setCell wr _ _) _ _) _ _) _ _ = V at HL ⊢
      obtain ⟨LL, r0, r1, r2, r3⟩ := HL.out
      clear HL z0 z1 z2 z3
      try simp only [Exit.inBlock, Exit.then]
      refine bodyPost_ret (by simp [results, Tryd.results12, go_sem, r0, r1, r2, r3]; try rfl) rfl ?_
      exact ⟨by rw [HO.out], LL⟩
set_option maxHeartbeats 4000000 in
theorem yJump7 (s : St) (hs : s.Ok) (n : Nat) (hn : n ≤ 100000) (w : World) : Calls Tryd.prog 18 #[s.val, .int .i64 (n : Int)] w (AnsS (iterS s n) w) := by
  have TN := Lib.hid (twoNewX w s 23)
  have HS := Lib.hid hs
  clear hs
  go_enter Tryd.func18, Tryd.ntmps18
  go_wp2_with fail
  generalize World.alloc (World.alloc w _) _ = W1 at TN ⊢
  have F0 : Hid (Bx 23 W1 w.heap.size (iterS s 0) ∧ Bx 23 W1 (w.heap.size + 1) St.zero ∧ Below w.heap.size w W1 ∧ True) := TN
  clear TN
  go_loopg [5] n (fun g z wr => ∃ j : Nat, j + g = n ∧ z = .int .i64 j ∧ Hid (Bx 23 wr w.heap.size (iterS s j) ∧ Bx 23 wr (w.heap.size + 1) St.zero ∧ Below w.heap.size w wr ∧ True))
  case atStart => exact ⟨0, by omega, rfl, F0⟩
  case round =>
    obtain ⟨j, hg, rfl, F⟩ := hrel
    clear F0
    by_cases hlt : j < n
    · have kl : (j : Int) < (n : Int) := by omega
      have k0 : (0 : Int) ≤ (j : Int) := by omega
      · skip
        have CS := Lib.hid (yStep (iterS s j) (HS.out.iter j))
        have E2 := Lib.hid (show iterS s (j + 1) = stepS (iterS s j) from rfl)
        generalize hI : iterS s j = I0 at CS E2 F
        clear hI
        generalize stepS I0 = T at CS E2
        obtain ⟨i0, i1, i2, i3⟩ := I0
        obtain ⟨t0, t1, t2, t3⟩ := T
        obtain ⟨p0, p1, p2, p3⟩ := F.out.1.cells
        go_wp2_with fail
        refine (CS.out _).mono ?_
        rintro e w5 ⟨rfl, hb⟩
        clear CS p0 p1 p2 p3
        have K5 := Lib.hid (And.intro (F.out.1.below hb) (And.intro (F.out.2.1.below hb) (below_then F.out.2.2.1 hb)))
        clear hb F
        obtain ⟨c0, c1, c2, c3⟩ := K5.out.1.cells
        obtain ⟨f0, f1, f2, f3⟩ := K5.out.1.free
        go_wp2_with fail
        go_roundg (gk - 1)
        case measure => omega
        case rel => exact ⟨j + 1, by omega, by go_num, Lib.hid ⟨by rw [E2.out]; exact K5.out.1.put ⟨t0, t1, t2, t3⟩, K5.out.2.1.far4 (by omega) _ _ _ _, below_put K5.out.2.2 (Nat.le_refl _), trivial⟩⟩
    · obtain rfl : j = n := by omega
      have kl : ¬ (j : Int) < (j : Int) := by omega
      obtain ⟨B1, B2, L, _⟩ := F.out
      generalize hO : iterS s j = O at B1
      have HO := Lib.hid hO
      clear hO F
      obtain ⟨o0, o1, o2, o3⟩ := O
      obtain ⟨p0, p1, p2, p3⟩ := B1.cells
      clear B1
      have R := B2.put ⟨o0, o1, o2, o3⟩
      obtain ⟨r0, r1, r2, r3⟩ := R.cells
      have LL := below_put (x := .int .u64 (o0 : Int)) (y := .int .u64 (o1 : Int)) (z := .int .u64 (o2 : Int)) (u := .int .u64 (o3 : Int)) L (Nat.le_succ w.heap.size)
      have HL := Lib.hid (And.intro LL (And.intro r0 (And.intro r1 (And.intro r2 r3))))
      obtain ⟨z0, z1, z2, z3⟩ := B2.cells
      obtain ⟨f0, f1, f2, f3⟩ := B2.free
      simp only [St.zero] at z0 z1 z2 z3
      clear R LL r0 r1 r2 r3 B2 L
      go_wp2_with fail
      generalize World.setCell (World.setCell (World.setCell (World.setCell wr _ _) _ _) _ _) _ _ = V at HL ⊢
      obtain ⟨LL, r0, r1, r2, r3⟩ := HL.out
      clear HL z0 z1 z2 z3
      try simp only [Exit.inBlock, Exit.then]
      refine bodyPost_ret (by simp [results, Tryd.results18, go_sem, r0, r1, r2, r3]; try rfl) rfl ?_
      exact ⟨by rw [HO.out], LL⟩
end Go.Proofs.YtemgoikghaiamaaDoor
