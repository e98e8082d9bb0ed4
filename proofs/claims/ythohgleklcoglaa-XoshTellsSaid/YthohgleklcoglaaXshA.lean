/-
  What the calls of package xosh answer that are steps, sums and words of states; and those of the document's answer.
-/
import Derived.Test.YthohgleklcoglaaXshM
import Derived.Test.YthohgleklcoglaaGfpTc
import Derived.Deep.LoopGhost
import Derived.BigQuiet
namespace Go.Proofs.Ythohgleklcoglaa
open Go.RowKit G
set_option linter.unusedVariables false

/-- A state's value. -/
abbrev _root_.Go.Proofs.Ythohgleklcoglaa.G.St.val (s : St) : Value := .agg #[.int .u64 (s.a : Int), .int .u64 (s.b : Int), .int .u64 (s.c : Int), .int .u64 (s.d : Int)]
/-- An answer that is a word; nothing is turned. -/
def AnsX (n : Nat) (w : World) (e : Ending) (w' : World) : Prop := e = .returned (.int .u64 (n : Int)) ∧ Below w.heap.size w w'
/-- An answer that is a state. -/
def AnsS (s : St) (w : World) (e : Ending) (w' : World) : Prop := e = .returned s.val ∧ Below w.heap.size w w'

theorem tn_int {x : Nat} (k m : Nat) (h : x < 18446744073709551616) (hm : 64 - k = m) : bits .or .u64 (IntKind.u64.wrap ((x : Int) * 2 ^ k)) ((x : Int) / 2 ^ m) = ((tn k x : Nat) : Int) := by
  subst hm; exact or_int x x k h
theorem cTurn45 (x : Nat) (h : x < 18446744073709551616) (w : World) : Calls Try.prog 19 #[.int .u64 x, .int .i64 45] w (fun e w' => e = .returned (.int .u64 ((tn 45 x : Nat) : Int)) ∧ w' = w) := by
  have q : bits .and .u64 45 63 = 45 := by decide
  go_enter Try.func19, Try.ntmps19
  go_wp2
  go_ret
  exact ⟨by rw [← tn_int 45 _ h rfl]; rfl, rfl⟩
theorem cTurn7 (x : Nat) (h : x < 18446744073709551616) (w : World) : Calls Try.prog 19 #[.int .u64 x, .int .i64 7] w (fun e w' => e = .returned (.int .u64 ((tn 7 x : Nat) : Int)) ∧ w' = w) := by
  have q : bits .and .u64 7 63 = 7 := by decide
  go_enter Try.func19, Try.ntmps19
  go_wp2
  go_ret
  exact ⟨by rw [← tn_int 7 _ h rfl]; rfl, rfl⟩
theorem cTurnBack (x : Nat) (h : x < 18446744073709551616) (w : World) : Calls Try.prog 19 #[.int .u64 x, .int .i64 (-45)] w (fun e w' => e = .returned (.int .u64 ((tn 19 x : Nat) : Int)) ∧ w' = w) := by
  have q : bits .and .u64 18446744073709551571 63 = 19 := by decide
  have q2 : IntKind.u64.wrap (-45) = 18446744073709551571 := by decide
  go_enter Try.func19, Try.ntmps19
  go_wp2
  go_ret
  exact ⟨by rw [← tn_int 19 _ h rfl]; rfl, rfl⟩

theorem mulX (x y : Nat) : IntKind.u64.wrap ((x : Int) * (y : Int)) = ((x * y % 18446744073709551616 : Nat) : Int) := by rw [IntKind.wrap_u64]; omega
theorem slI {x : Nat} (n : Nat) : IntKind.u64.wrap ((x : Int) * 2 ^ n) = ((sl n x : Nat) : Int) := by rw [mul_int, wrap_nat]; rfl
/-- Two states, or two rows of four words, that are compared as a whole. -/
def Eq4 (t : TypeId) : Prop := ∀ (a b c d a' b' c' d' : Int) (w : World), Sem.run Try.prog (Op.equalIn 10000 t (.agg #[.int .u64 a, .int .u64 b, .int .u64 c, .int .u64 d]) (.agg #[.int .u64 a', .int .u64 b', .int .u64 c', .int .u64 d'])) w = .ok (a == a' && (b == b' && (c == c' && d == d'))) w
theorem eqIn4 (t : TypeId) (n : Nat) (ht : Try.prog.underlying t = some (.array 4 22)) (a b c d a' b' c' d' : Int) (w : World) : Sem.run Try.prog (Op.equalIn (n + 1 + 1) t (.agg #[.int .u64 a, .int .u64 b, .int .u64 c, .int .u64 d]) (.agg #[.int .u64 a', .int .u64 b', .int .u64 c', .int .u64 d'])) w = .ok (a == a' && (b == b' && (c == c' && d == d'))) w := by
  have u3 := Try.underlying22
  have a3 := Try.isAgg22
  have z3 := Try.sizeOf22
  have q := fun a b => run_equalIn_int w n _ .u64 .u64 a b u3
  rw [Op.equalIn]
  simp only [Sem.run_bind, run_underlying ht, Result.andThen_ok]
  simp only [Std.Legacy.Range.forIn_eq_forIn_range', Std.Legacy.Range.size, Nat.sub_zero, Nat.add_sub_cancel, Nat.div_one, List.range'_succ, List.range'_zero, List.forIn_cons, List.forIn_nil]
  go_simp
  by_cases h1 : a = a' <;> by_cases h2 : b = b' <;> by_cases h3 : c = c' <;> by_cases h4 : d = d' <;> simp [h1, h2, h3, h4]
theorem eq4 (t : TypeId) (ht : Try.prog.underlying t = some (.array 4 22)) : Eq4 t := fun a b c d a' b' c' d' w => eqIn4 t 9998 ht a b c d a' b' c' d' w
theorem eqS : Eq4 24 := eq4 _ Try.underlying24
theorem eqR : Eq4 23 := eq4 _ Try.underlying23
theorem same_iff (s t : St) : ((s.a : Int) == (t.a : Int) && ((s.b : Int) == (t.b : Int) && ((s.c : Int) == (t.c : Int) && (s.d : Int) == (t.d : Int)))) = decide (s = t) := by
  have : (((s.a : Int) == (t.a : Int) && ((s.b : Int) == (t.b : Int) && ((s.c : Int) == (t.c : Int) && (s.d : Int) == (t.d : Int)))) = true) ↔ s = t := by
    simp only [Bool.and_eq_true, beq_iff_eq]
    constructor
    · rintro ⟨h1, h2, h3, h4⟩
      exact St.same (by omega) (by omega) (by omega) (by omega)
    · rintro rfl; exact ⟨rfl, rfl, rfl, rfl⟩
  cases h : ((s.a : Int) == (t.a : Int) && ((s.b : Int) == (t.b : Int) && ((s.c : Int) == (t.c : Int) && (s.d : Int) == (t.d : Int))))
  · rw [h] at this
    exact (decide_eq_false (fun e => by simpa using this.2 e)).symm
  · rw [h] at this
    exact (decide_eq_true (this.1 rfl)).symm
/-- Two states compared. -/
theorem sameS (s t : St) (w : World) : Sem.run Try.prog (Op.equalIn 10000 24 s.val t.val) w = .ok (decide (s = t)) w := by
  rw [← same_iff]; exact eqS _ _ _ _ _ _ _ _ w
theorem sameR (s t : St) (w : World) : Sem.run Try.prog (Op.equalIn 10000 23 s.val t.val) w = .ok (decide (s = t)) w := by
  rw [← same_iff]; exact eqR _ _ _ _ _ _ _ _ w
theorem sameZ (s : St) (w : World) : Sem.run Try.prog (Op.equalIn 10000 24 (.agg #[.int .u64 s.a, .int .u64 s.b, .int .u64 s.c, .int .u64 s.d]) (.agg #[.int .u64 0, .int .u64 0, .int .u64 0, .int .u64 0])) w = .ok (decide (s = St.zero)) w := sameS s St.zero w
theorem cWord (s : St) (h : s.Ok) (w : World) : Calls Try.prog 8 #[s.val] w (AnsX (wordS s) w) := by
  obtain ⟨a, b, c, d⟩ := s
  have C := cTurn7 (b * 5 % 18446744073709551616) (Nat.mod_lt _ (by decide))
  rw [← mulX] at C
  go_enter Try.func8, Try.ntmps8
  go_wp2_with fail
  refine (C _).mono ?_
  rintro e w1 ⟨rfl, rfl⟩
  clear C
  go_wp2
  go_ret
  exact ⟨congrArg (fun x => Ending.returned (.int .u64 x)) (mulX _ 9), below_alloc (Below.refl _ _) _⟩
theorem below_put {B b : Nat} {a w : World} {x y z u : Value} (h : Below B a w) (hb : B ≤ b) : Below B a ((((w.setCell ⟨b, 0, none⟩ x).setCell ⟨b, 1, none⟩ y).setCell ⟨b, 2, none⟩ z).setCell ⟨b, 3, none⟩ u) :=
  (((h.setCell hb _).setCell hb _).setCell hb _).setCell hb _
/-- A state in memory: a block of four cells. -/
def Bx (t : TypeId) (w : World) (b : Nat) (s : St) : Prop := w.heap[b]? = some (.cells #[.int .u64 (s.a : Int), .int .u64 (s.b : Int), .int .u64 (s.c : Int), .int .u64 (s.d : Int)] t (0, 0))
section
variable {t : TypeId} {w w' : World} {b x : Nat} {s s' : St}
theorem Bx.lt (h : Bx t w b s) : b < w.heap.size := (Array.getElem?_eq_some_iff.1 h).1
theorem Bx.cells (h : Bx t w b s) : w.cell? ⟨b, 0, none⟩ = some (.int .u64 (s.a : Int)) ∧ w.cell? ⟨b, 1, none⟩ = some (.int .u64 (s.b : Int)) ∧ w.cell? ⟨b, 2, none⟩ = some (.int .u64 (s.c : Int)) ∧ w.cell? ⟨b, 3, none⟩ = some (.int .u64 (s.d : Int)) := by
  unfold Bx at h
  refine ⟨?_, ?_, ?_, ?_⟩ <;> simp [World.cell?, h]
theorem Bx.free (h : Bx t w b s) : w.frozen? ⟨b, 0, none⟩ = false ∧ w.frozen? ⟨b, 1, none⟩ = false ∧ w.frozen? ⟨b, 2, none⟩ = false ∧ w.frozen? ⟨b, 3, none⟩ = false := by
  unfold Bx at h
  refine ⟨?_, ?_, ?_, ?_⟩ <;> simp [World.frozen?, h]
theorem Bx.new (w : World) (s : St) (t : TypeId) : Bx t (w.alloc (.cells #[.int .u64 (s.a : Int), .int .u64 (s.b : Int), .int .u64 (s.c : Int), .int .u64 (s.d : Int)] t)) w.heap.size s := by
  show (w.heap.push _)[w.heap.size]? = some _
  simp
theorem Bx.alloc (h : Bx t w b s) (o : Obj) : Bx t (w.alloc o) b s := by
  show (w.heap.push o)[b]? = _
  rw [Array.getElem?_push, if_neg (Nat.ne_of_lt h.lt)]; exact h
theorem Bx.below (h : Bx t w b s) (hb : Below w.heap.size w w') : Bx t w' b s := (hb.block b h.lt).trans h
theorem Bx.drewN (h : Bx t w b s) (n : Nat) : Bx t (w.drewN n) b s := h
theorem Bx.far (h : Bx t w b s) {p : Addr} (hne : b ≠ p.block) (u : Value) : Bx t (w.setCell p u) b s := (Below.heap_setCell w p u b hne).trans h
theorem Bx.at (h : Bx t w b s) (i : Nat) (v : Value) : (w.setCell ⟨b, i, none⟩ v).heap[b]? = some (.cells ((#[.int .u64 (s.a : Int), .int .u64 (s.b : Int), .int .u64 (s.c : Int), .int .u64 (s.d : Int)] : Array Value).setIfInBounds i v) t (0, 0)) := by
  unfold Bx at h
  simp [World.setCell, Array.getElem?_modify, h]
theorem Bx.set0 (h : Bx t w b s) (x : Nat) : Bx t (w.setCell ⟨b, 0, none⟩ (.int .u64 (x : Int))) b ⟨x, s.b, s.c, s.d⟩ := (h.at 0 _).trans rfl
theorem Bx.set1 (h : Bx t w b s) (x : Nat) : Bx t (w.setCell ⟨b, 1, none⟩ (.int .u64 (x : Int))) b ⟨s.a, x, s.c, s.d⟩ := (h.at 1 _).trans rfl
theorem Bx.set2 (h : Bx t w b s) (x : Nat) : Bx t (w.setCell ⟨b, 2, none⟩ (.int .u64 (x : Int))) b ⟨s.a, s.b, x, s.d⟩ := (h.at 2 _).trans rfl
theorem Bx.set3 (h : Bx t w b s) (x : Nat) : Bx t (w.setCell ⟨b, 3, none⟩ (.int .u64 (x : Int))) b ⟨s.a, s.b, s.c, x⟩ := (h.at 3 _).trans rfl
theorem Bx.put (h : Bx t w b s) (n : St) : Bx t ((((w.setCell ⟨b, 0, none⟩ (.int .u64 (n.a : Int))).setCell ⟨b, 1, none⟩ (.int .u64 (n.b : Int))).setCell ⟨b, 2, none⟩ (.int .u64 (n.c : Int))).setCell ⟨b, 3, none⟩ (.int .u64 (n.d : Int))) b n := (((h.set0 n.a).set1 n.b).set2 n.c).set3 n.d
theorem Bx.far4 (h : Bx t w b s) (hne : b ≠ x) (u v y z : Value) : Bx t ((((w.setCell ⟨x, 0, none⟩ u).setCell ⟨x, 1, none⟩ v).setCell ⟨x, 2, none⟩ y).setCell ⟨x, 3, none⟩ z) b s := (((h.far hne u).far hne v).far hne y).far hne z
end
/-- All blocks but one are as they were. -/
structure But1 (x : Nat) (w w' : World) : Prop where
  os : w'.os = w.os
  tape : w'.tape = w.tape
  output : w'.output = w.output
  size : w.heap.size ≤ w'.heap.size
  block : ∀ j, j < w.heap.size → j ≠ x → w'.heap[j]? = w.heap[j]?
theorem But1.low {x B : Nat} {w w' : World} (h : But1 x w w') (hx : B ≤ x) (hB : B ≤ w.heap.size) : Below B w w' := ⟨h.os, h.tape, h.output, h.size, fun k hk => h.block k (by omega) (by omega)⟩
theorem But1.of_below {x : Nat} {w w' : World} (h : Below w.heap.size w w') : But1 x w w' := ⟨h.os, h.tape, h.output, h.size, fun k hk _ => h.block k hk⟩
theorem But1.set {x : Nat} {a w : World} (h : But1 x a w) (i : Nat) (u : Value) : But1 x a (w.setCell ⟨x, i, none⟩ u) :=
  ⟨h.os, h.tape, h.output, by show _ ≤ (w.setCell _ u).heap.size; rw [World.setCell]; simpa using h.size, fun k hk hne => (Below.heap_setCell w ⟨x, i, none⟩ u k hne).trans (h.block k hk hne)⟩
theorem But1.put {x : Nat} {a w : World} (h : But1 x a w) (u v y z : Value) : But1 x a ((((w.setCell ⟨x, 0, none⟩ u).setCell ⟨x, 1, none⟩ v).setCell ⟨x, 2, none⟩ y).setCell ⟨x, 3, none⟩ z) := (((h.set 0 u).set 1 v).set 2 y).set 3 z
theorem But1.far {x b : Nat} {a w : World} (h : But1 x a w) (hb : a.heap.size ≤ b) (i : Nat) (u : Value) : But1 x a (w.setCell ⟨b, i, none⟩ u) :=
  ⟨h.os, h.tape, h.output, by show _ ≤ (w.setCell _ u).heap.size; rw [World.setCell]; simpa using h.size, fun k hk hne => (Below.heap_setCell w ⟨b, i, none⟩ u k (by show k ≠ b; omega)).trans (h.block k hk hne)⟩
theorem But1.far4 {x b : Nat} {a w : World} (h : But1 x a w) (hb : a.heap.size ≤ b) (u v y z : Value) : But1 x a ((((w.setCell ⟨b, 0, none⟩ u).setCell ⟨b, 1, none⟩ v).setCell ⟨b, 2, none⟩ y).setCell ⟨b, 3, none⟩ z) := (((h.far hb 0 u).far hb 1 v).far hb 2 y).far hb 3 z
theorem step_vals (s : St) (h : s.Ok) : bits .xor .u64 (s.d : Int) (s.b : Int) = ((s.d ^^^ s.b : Nat) : Int) ∧ bits .xor .u64 (s.a : Int) ((s.d ^^^ s.b : Nat) : Int) = (((stepS s).a : Nat) : Int) ∧ bits .xor .u64 (s.c : Int) (s.a : Int) = ((s.c ^^^ s.a : Nat) : Int) ∧ bits .xor .u64 (s.b : Int) ((s.c ^^^ s.a : Nat) : Int) = (((stepS s).b : Nat) : Int) ∧ IntKind.u64.wrap ((s.b : Int) * 131072) = ((sl 17 s.b : Nat) : Int) ∧ bits .xor .u64 ((s.c ^^^ s.a : Nat) : Int) ((sl 17 s.b : Nat) : Int) = (((stepS s).c : Nat) : Int) := by
  refine ⟨xor_int _ _ h.d h.b, xor_int _ _ h.a (word_xor h.d h.b), xor_int _ _ h.c h.a, xor_int _ _ h.b (word_xor h.c h.a), ?_, xor_int _ _ (word_xor h.c h.a) (sl_lt _ _)⟩
  have := slI (x := s.b) 17
  rwa [show ((2 : Int) ^ 17) = 131072 from by decide] at this
theorem cStep (s : St) (h : s.Ok) (w : World) : Calls Try.prog 10 #[s.val] w (AnsS (stepS s) w) := by
  have C := cTurn45 (s.d ^^^ s.b) (word_xor h.d h.b)
  have V := Lib.hid (step_vals s h)
  rw [← V.out.1] at C
  obtain ⟨a, b, c, d⟩ := s
  clear h
  go_enter Try.func10, Try.ntmps10
  go_wp2_with fail
  go_quiet (fail)
  go_wp2_with fail
  refine (C _).mono ?_
  rintro e w1 ⟨rfl, rfl⟩
  clear C
  go_wp2
  go_returns
  obtain ⟨f1, f2, g1, g2, g3, g4⟩ := V.out
  refine ⟨by rw [f1, f2, g1, g2, g3, g4]; rfl, ?_⟩
  exact below_put (below_drewN' (below_alloc (below_alloc (Below.refl _ _) _) _) _) (Nat.le_succ _)
theorem cRight (s : St) (w : World) : Calls Try.prog 12 #[s.val] w (fun e w' => e = .returned (.bool (!decide (s = St.zero))) ∧ Below w.heap.size w w') := by
  have e := sameZ s
  obtain ⟨a, b, c, d⟩ := s
  generalize decide (_ = St.zero) = r at e ⊢
  go_enter Try.func12, Try.ntmps12
  go_wp2
  go_ret
  exact ⟨rfl, below_alloc (Below.refl _ _) _⟩
theorem cUnshift (x : Nat) (h : x < 18446744073709551616) (w : World) : Calls Try.prog 22 #[.int .u64 x] w (fun e w' => e = .returned (.int .u64 ((unsh x : Nat) : Int)) ∧ w' = w) := by
  have e1 := slI (x := x) 17
  have e2 := xor_int x (sl 17 x) h (sl_lt _ _)
  have e3 := slI (x := x ^^^ sl 17 x) 34
  have e4 := xor_int (x ^^^ sl 17 x) (sl 34 (x ^^^ sl 17 x)) (word_xor h (sl_lt _ _)) (sl_lt _ _)
  generalize hy : x ^^^ sl 17 x = y at e2 e3 e4
  have HY := Lib.hid hy
  clear hy h
  go_enter Try.func22, Try.ntmps22
  go_wp2_with fail
  go_loopg [0, 3] 2 (fun g z i wr => wr = w ∧ ((g = 2 ∧ z = .int .u64 (x : Int) ∧ i = .int .i64 17) ∨ (g = 1 ∧ z = .int .u64 (y : Int) ∧ i = .int .i64 34) ∨ (g = 0 ∧ z = .int .u64 ((unsh x : Nat) : Int) ∧ i = .int .i64 68)))
  case atStart => exact ⟨rfl, Or.inl ⟨rfl, rfl, rfl⟩⟩
  case round =>
    obtain ⟨rfl, hr⟩ := hrel
    rcases hr with ⟨rfl, rfl, rfl⟩ | ⟨rfl, rfl, rfl⟩ | ⟨rfl, rfl, rfl⟩
    · go_wp2
      go_roundg 1
      case measure => omega
      case rel => exact ⟨rfl, Or.inr (Or.inl ⟨rfl, by rw [← e2, ← e1]; rfl, rfl⟩)⟩
    · go_wp2
      go_roundg 0
      case measure => omega
      case rel => exact ⟨rfl, Or.inr (Or.inr ⟨rfl, by unfold unsh; rw [HY.out, ← e4, ← e3]; rfl, rfl⟩)⟩
    · go_wp2
      go_ret
      exact ⟨rfl, rfl⟩
theorem cBack (s : St) (h : s.Ok) (w : World) : Calls Try.prog 17 #[s.val] w (AnsS (backS s) w) := by
  have C1 := cTurnBack s.d h.d
  have C2 := cUnshift (s.b ^^^ s.c) (word_xor h.b h.c)
  have e1 := xor_int s.b s.c h.b h.c
  have e2 := xor_int s.a (tn 19 s.d) h.a (tn_lt h.d)
  have e3 := xor_int s.b (aheadS s) h.b h.ahead
  have e4 := xor_int (s.b ^^^ aheadS s) (s.a ^^^ tn 19 s.d) (word_xor h.b h.ahead) (word_xor h.a (tn_lt h.d))
  have e5 := xor_int (tn 19 s.d) (aheadS s) (tn_lt h.d) h.ahead
  rw [← e1] at C2
  obtain ⟨a, b, c, d⟩ := s
  have E := Lib.hid (And.intro e2 (And.intro e3 (And.intro e4 e5)))
  clear h e1 e2 e3 e4 e5
  have W : unsh (b ^^^ c) = aheadS ⟨a, b, c, d⟩ := rfl
  go_enter Try.func17, Try.ntmps17
  go_wp2_with fail
  go_quiet ((go_at_call 19; (with_reducible exact Calls.quiet_of_same (C1 _))))
  clear C1
  go_wp2_with fail
  refine (C2 _).mono ?_
  rintro e w1 ⟨rfl, rfl⟩
  clear C2
  go_wp2
  go_returns
  obtain ⟨e2, e3, e4, e5⟩ := E.out
  refine ⟨by rw [e2, e3, e4, e5]; rfl, ?_⟩
  exact below_put (below_drewN' (below_alloc (below_alloc (Below.refl _ _) _) _) _) (Nat.le_succ _)
theorem idx (a b c d : Int) (w : World) : (Sem.run Try.prog (Instr.index 24 (.agg #[.int .u64 a, .int .u64 b, .int .u64 c, .int .u64 d]) (.int .i64 0)) w = .ok (.int .u64 a) w ∧ Sem.run Try.prog (Instr.index 24 (.agg #[.int .u64 a, .int .u64 b, .int .u64 c, .int .u64 d]) (.int .i64 1)) w = .ok (.int .u64 b) w) ∧ Sem.run Try.prog (Instr.index 24 (.agg #[.int .u64 a, .int .u64 b, .int .u64 c, .int .u64 d]) (.int .i64 2)) w = .ok (.int .u64 c) w ∧ Sem.run Try.prog (Instr.index 24 (.agg #[.int .u64 a, .int .u64 b, .int .u64 c, .int .u64 d]) (.int .i64 3)) w = .ok (.int .u64 d) w := by
  refine ⟨⟨?_, ?_⟩, ?_, ?_⟩ <;> kernel_rfl
/-- Where a sum of states is, behind so many words. -/
def addJ (s t : St) : Nat → St
  | 0 => s
  | 1 => ⟨s.a ^^^ t.a, s.b, s.c, s.d⟩
  | 2 => ⟨s.a ^^^ t.a, s.b ^^^ t.b, s.c, s.d⟩
  | 3 => ⟨s.a ^^^ t.a, s.b ^^^ t.b, s.c ^^^ t.c, s.d⟩
  | _ => addS s t
set_option maxHeartbeats 1000000 in
theorem cAdd (s t : St) (hs : s.Ok) (ht : t.Ok) (w : World) : Calls Try.prog 18 #[s.val, t.val] w (AnsS (addS s t) w) := by
  have E := Lib.hid (And.intro (xor_int _ _ hs.a ht.a) (And.intro (xor_int _ _ hs.b ht.b) (And.intro (xor_int _ _ hs.c ht.c) (xor_int _ _ hs.d ht.d))))
  obtain ⟨a, b, c, d⟩ := s
  obtain ⟨a', b', c', d'⟩ := t
  clear hs ht
  go_enter Try.func18, Try.ntmps18
  go_wp2_with fail
  have B1 := Bx.new w ⟨a, b, c, d⟩ 24
  have L1 := below_alloc (Below.refl w.heap.size w) (.cells #[.int .u64 (a : Int), .int .u64 (b : Int), .int .u64 (c : Int), .int .u64 (d : Int)] 24)
  have S1 : (w.alloc (.cells #[.int .u64 (a : Int), .int .u64 (b : Int), .int .u64 (c : Int), .int .u64 (d : Int)] 24)).heap.size = w.heap.size + 1 := Array.size_push _
  generalize hW1 : w.alloc _ = W1 at B1 L1 S1 ⊢
  replace B1 := B1.alloc (.cells #[.int .u64 (a' : Int), .int .u64 (b' : Int), .int .u64 (c' : Int), .int .u64 (d' : Int)] 24)
  replace L1 := below_alloc L1 (.cells #[.int .u64 (a' : Int), .int .u64 (b' : Int), .int .u64 (c' : Int), .int .u64 (d' : Int)] 24)
  have S2 : (W1.alloc (.cells #[.int .u64 (a' : Int), .int .u64 (b' : Int), .int .u64 (c' : Int), .int .u64 (d' : Int)] 24)).heap.size = w.heap.size + 1 + 1 := (Array.size_push _).trans (by rw [S1])
  clear S1 hW1
  generalize W1.alloc _ = W2 at B1 L1 S2 ⊢
  have B2 := Bx.new W2 St.zero 24
  rw [S2] at B2
  replace B1 := B1.alloc (.cells #[.int .u64 0, .int .u64 0, .int .u64 0, .int .u64 0] 24)
  replace L1 := below_alloc L1 (.cells #[.int .u64 0, .int .u64 0, .int .u64 0, .int .u64 0] 24)
  change Bx _ (W2.alloc (.cells #[.int .u64 0, .int .u64 0, .int .u64 0, .int .u64 0] 24)) _ _ at B2
  clear S2
  generalize W2.alloc _ = W3 at B1 B2 L1 ⊢
  have F := Lib.hid (And.intro B1 (And.intro B2 L1))
  clear B1 B2 L1
  go_loopg [8] 4 (fun g i wr => ∃ j : Nat, j + g = 4 ∧ i = .int .i64 j ∧ Hid (Bx 24 wr w.heap.size (addJ ⟨a, b, c, d⟩ ⟨a', b', c', d'⟩ j) ∧ Bx 24 wr (w.heap.size + 1 + 1) St.zero ∧ Below w.heap.size w wr))
  case atStart => exact ⟨0, by omega, rfl, F⟩
  case round =>
    obtain ⟨j, hg, rfl, F⟩ := hrel
    obtain ⟨e0, e1, e2, e3⟩ := E.out
    obtain ⟨G1, G2, G3⟩ := F.out
    obtain ⟨p0, p1, p2, p3⟩ := G1.cells
    obtain ⟨q0, q1, q2, q3⟩ := G1.free
    obtain ⟨⟨I0, I1⟩, I2, I3⟩ := idx (a' : Int) b' c' d' wr
    have hj : j = 0 ∨ j = 1 ∨ j = 2 ∨ j = 3 ∨ j = 4 := by omega
    have GE := Lib.hid (And.intro e0 (And.intro e1 (And.intro e2 e3)))
    clear e0 e1 e2 e3 E F
    have H1 := Lib.hid G1
    have H2 := Lib.hid G2
    have H3 := Lib.hid G3
    clear G1 G2 G3
    rcases hj with rfl | rfl | rfl | rfl | rfl
    · simp only [addJ] at p0 p1 p2 p3
      go_wp2
      go_roundg 3
      case measure => omega
      case rel => exact ⟨1, by omega, rfl, Lib.hid ⟨by rw [GE.out.1]; exact H1.out.set0 _, H2.out.far (by show _ ≠ w.heap.size; omega) _, H3.out.setCell (Nat.le_refl _) _⟩⟩
    · simp only [addJ] at p0 p1 p2 p3
      go_wp2
      go_roundg 2
      case measure => omega
      case rel => exact ⟨2, by omega, rfl, Lib.hid ⟨by rw [GE.out.2.1]; exact H1.out.set1 _, H2.out.far (by show _ ≠ w.heap.size; omega) _, H3.out.setCell (Nat.le_refl _) _⟩⟩
    · simp only [addJ] at p0 p1 p2 p3
      go_wp2
      go_roundg 1
      case measure => omega
      case rel => exact ⟨3, by omega, rfl, Lib.hid ⟨by rw [GE.out.2.2.1]; exact H1.out.set2 _, H2.out.far (by show _ ≠ w.heap.size; omega) _, H3.out.setCell (Nat.le_refl _) _⟩⟩
    · simp only [addJ] at p0 p1 p2 p3
      go_wp2
      go_roundg 0
      case measure => omega
      case rel => exact ⟨4, by omega, rfl, Lib.hid ⟨by rw [GE.out.2.2.2]; exact H1.out.set3 _, H2.out.far (by show _ ≠ w.heap.size; omega) _, H3.out.setCell (Nat.le_refl _) _⟩⟩
    · simp only [addJ, addS] at p0 p1 p2 p3
      obtain ⟨z0, z1, z2, z3⟩ := H2.out.cells
      obtain ⟨y0, y1, y2, y3⟩ := H2.out.free
      simp only [St.zero] at z0 z1 z2 z3
      have hX : w.heap.size ≤ w.heap.size + 1 + 1 := by omega
      generalize w.heap.size + 1 + 1 = X at hX z0 z1 z2 z3 y0 y1 y2 y3 H2 ⊢
      have R := H2.out.put ⟨a ^^^ a', b ^^^ b', c ^^^ c', d ^^^ d'⟩
      have LL := below_put (x := .int .u64 ((a ^^^ a' : Nat) : Int)) (y := .int .u64 ((b ^^^ b' : Nat) : Int)) (z := .int .u64 ((c ^^^ c' : Nat) : Int)) (u := .int .u64 ((d ^^^ d' : Nat) : Int)) H3.out hX
      obtain ⟨r0, r1, r2, r3⟩ := R.cells
      simp only at r0 r1 r2 r3
      clear R
      have HL := Lib.hid (And.intro LL (And.intro r0 (And.intro r1 (And.intro r2 r3))))
      clear LL r0 r1 r2 r3
      go_wp2
      generalize World.setCell (World.setCell (World.setCell (World.setCell wr _ _) _ _) _ _) _ _ = V at HL ⊢
      obtain ⟨LL, r0, r1, r2, r3⟩ := HL.out
      clear HL z0 z1 z2 z3
      try simp only [Exit.inBlock, Exit.then]
      refine bodyPost_ret (by simp [results, Try.results18, go_sem, r0, r1, r2, r3]; try rfl) rfl ?_
      exact ⟨rfl, LL⟩
theorem cFrom (s : St) (w : World) : Calls Try.prog 21 #[s.val] w (fun e w' => e = .returned (.func (.func 23) #[] #[.pointer (some ⟨w.heap.size, 0, none⟩)]) ∧ Bx 24 w' w.heap.size s ∧ Below w.heap.size w w') := by
  have B := Bx.new w s 24
  obtain ⟨a, b, c, d⟩ := s
  have HB := Lib.hid B
  clear B
  go_enter Try.func21, Try.ntmps21
  go_wp2
  go_ret
  exact ⟨rfl, HB.out, below_alloc (Below.refl _ _) _⟩
set_option maxHeartbeats 1000000 in
theorem cNext (s : St) (hs : s.Ok) (b : Nat) (w : World) (h : Bx 24 w b s) : Calls Try.prog 23 #[.pointer (some ⟨b, 0, none⟩)] w (fun e w' => e = .returned s.val ∧ Bx 24 w' b (stepS s) ∧ But1 b w w') := by
  have C := cStep s hs
  have HB := Lib.hid h
  obtain ⟨c0, c1, c2, c3⟩ := h.cells
  have lt := h.lt
  have ne := Nat.ne_of_lt lt
  obtain ⟨a, b', c, d⟩ := s
  clear h
  go_enter Try.func23, Try.ntmps23
  go_wp2_with fail
  have H1 := Bx.new w St.zero 24
  change Bx _ (w.alloc (.cells #[.int .u64 0, .int .u64 0, .int .u64 0, .int .u64 0] 24)) _ _ at H1
  have H0 := HB.out.alloc (.cells #[.int .u64 0, .int .u64 0, .int .u64 0, .int .u64 0] 24)
  have S1 : (w.alloc (.cells #[.int .u64 0, .int .u64 0, .int .u64 0, .int .u64 0] 24)).heap.size = w.heap.size + 1 := Array.size_push _
  have L1 := below_alloc (Below.refl w.heap.size w) (.cells #[.int .u64 0, .int .u64 0, .int .u64 0, .int .u64 0] 24)
  generalize w.alloc _ = W1 at H0 H1 S1 L1 ⊢
  have H2 := Bx.new W1 ⟨a, b', c, d⟩ 24
  rw [S1] at H2
  replace H0 := H0.alloc (.cells #[.int .u64 (a : Int), .int .u64 (b' : Int), .int .u64 (c : Int), .int .u64 (d : Int)] 24)
  replace H1 := H1.alloc (.cells #[.int .u64 (a : Int), .int .u64 (b' : Int), .int .u64 (c : Int), .int .u64 (d : Int)] 24)
  replace L1 := below_alloc L1 (.cells #[.int .u64 (a : Int), .int .u64 (b' : Int), .int .u64 (c : Int), .int .u64 (d : Int)] 24)
  simp only at H2
  generalize W1.alloc _ = W2 at H0 H1 H2 L1 ⊢
  refine (C W2).mono ?_
  rintro e w3 ⟨rfl, hb⟩
  clear C c0 c1 c2 c3
  replace H0 := H0.below hb
  replace H1 := H1.below hb
  replace H2 := H2.below hb
  replace L1 := below_then L1 hb
  clear hb S1 HB
  generalize hn : stepS ⟨a, b', c, d⟩ = n
  have HN := Lib.hid hn
  clear hn
  obtain ⟨n0, n1, n2, n3⟩ := n
  obtain ⟨c0, c1, c2, c3⟩ := H0.cells
  obtain ⟨f0, f1, f2, f3⟩ := H0.free
  obtain ⟨z0, z1, z2, z3⟩ := H1.cells
  obtain ⟨y0, y1, y2, y3⟩ := H1.free
  obtain ⟨h0, h1, h2, h3⟩ := H2.cells
  have ne2 : b ≠ w.heap.size + 1 := by omega
  have R := (H1.far4 (x := b) (Ne.symm ne) (.int .u64 (n0 : Int)) (.int .u64 (n1 : Int)) (.int .u64 (n2 : Int)) (.int .u64 (n3 : Int))).put ⟨a, b', c, d⟩
  have LL := ((But1.of_below (x := b) L1).put (.int .u64 (n0 : Int)) (.int .u64 (n1 : Int)) (.int .u64 (n2 : Int)) (.int .u64 (n3 : Int))).far4 (Nat.le_refl _) (.int .u64 (a : Int)) (.int .u64 (b' : Int)) (.int .u64 (c : Int)) (.int .u64 (d : Int))
  have KK := (H0.put ⟨n0, n1, n2, n3⟩).far4 ne (.int .u64 (a : Int)) (.int .u64 (b' : Int)) (.int .u64 (c : Int)) (.int .u64 (d : Int))
  obtain ⟨r0, r1, r2, r3⟩ := R.cells
  simp only at r0 r1 r2 r3 KK
  clear R
  have HL := Lib.hid (And.intro KK (And.intro LL (And.intro r0 (And.intro r1 (And.intro r2 r3)))))
  clear KK LL r0 r1 r2 r3 H0 H1 H2 L1
  simp only [St.zero] at z0 z1 z2 z3
  go_wp2_with fail
  generalize World.setCell (World.setCell (World.setCell (World.setCell (World.setCell (World.setCell (World.setCell (World.setCell w3 _ _) _ _) _ _) _ _) _ _) _ _) _ _) _ _ = V at HL ⊢
  obtain ⟨KK, LL, r0, r1, r2, r3⟩ := HL.out
  clear HL z0 z1 z2 z3
  try simp only [Exit.inBlock, Exit.then]
  refine bodyPost_ret (by simp [results, Try.results23, go_sem, r0, r1, r2, r3]; try rfl) rfl ?_
  exact ⟨rfl, by rw [HN.out]; exact KK, LL⟩
theorem rTurned45 (x : Nat) (h : x < 18446744073709551616) (w : World) : Calls Try.prog 20 #[.int .u64 x, .int .i64 45] w (AnsX (tn 45 x) w) := by
  go_enter Try.func20, Try.ntmps20
  go_wp2
  go_quiet (fail)
  go_wp2
  go_ret
  exact ⟨by rw [← tn_int 45 _ h rfl]; rfl, below_drewN' (Below.refl _ _) _⟩
theorem rTurned7 (x : Nat) (h : x < 18446744073709551616) (w : World) : Calls Try.prog 20 #[.int .u64 x, .int .i64 7] w (AnsX (tn 7 x) w) := by
  go_enter Try.func20, Try.ntmps20
  go_wp2
  go_quiet (fail)
  go_wp2
  go_ret
  exact ⟨by rw [← tn_int 7 _ h rfl]; rfl, below_drewN' (Below.refl _ _) _⟩
theorem rWord (s : St) (h : s.Ok) (w : World) : Calls Try.prog 9 #[s.val] w (AnsX (wordS s) w) := by
  obtain ⟨a, b, c, d⟩ := s
  have C := rTurned7 (b * 5 % 18446744073709551616) (Nat.mod_lt _ (by decide))
  rw [← mulX] at C
  go_enter Try.func9, Try.ntmps9
  go_wp2_with fail
  refine (C _).mono ?_
  rintro e w1 ⟨rfl, hb⟩
  clear C
  go_wp2
  go_ret
  exact ⟨congrArg (fun x => Ending.returned (.int .u64 x)) (mulX _ 9), below_then (below_alloc (Below.refl _ _) _) hb⟩
theorem rStep (s : St) (h : s.Ok) (w : World) : Calls Try.prog 11 #[s.val] w (AnsS (stepS s) w) := by
  have C := rTurned45 (s.d ^^^ s.b) (word_xor h.d h.b)
  have V := Lib.hid (step_vals s h)
  rw [← V.out.1] at C
  obtain ⟨a, b, c, d⟩ := s
  clear h
  go_enter Try.func11, Try.ntmps11
  go_wp2_with fail
  have B2 := Bx.new (w.alloc (.cells #[.int .u64 (a : Int), .int .u64 (b : Int), .int .u64 (c : Int), .int .u64 (d : Int)] 23)) St.zero 23
  rw [show (w.alloc (.cells #[.int .u64 (a : Int), .int .u64 (b : Int), .int .u64 (c : Int), .int .u64 (d : Int)] 23)).heap.size = w.heap.size + 1 from Array.size_push _] at B2
  have L := below_alloc (below_alloc (Below.refl w.heap.size w) (.cells #[.int .u64 (a : Int), .int .u64 (b : Int), .int .u64 (c : Int), .int .u64 (d : Int)] 23)) (.cells #[.int .u64 0, .int .u64 0, .int .u64 0, .int .u64 0] 23)
  change Bx _ ((w.alloc (.cells #[.int .u64 (a : Int), .int .u64 (b : Int), .int .u64 (c : Int), .int .u64 (d : Int)] 23)).alloc (.cells #[.int .u64 0, .int .u64 0, .int .u64 0, .int .u64 0] 23)) _ _ at B2
  generalize World.alloc (World.alloc w _) _ = W at B2 L ⊢
  refine (C _).mono ?_
  rintro e w1 ⟨rfl, hb⟩
  clear C
  replace B2 := B2.below hb
  replace L := below_then L hb
  clear hb
  have hX : w.heap.size ≤ w.heap.size + 1 := by omega
  obtain ⟨f1, f2, g1, g2, g3, g4⟩ := V.out
  have VH := Lib.hid (And.intro f1 (And.intro f2 (And.intro g1 (And.intro g2 (And.intro g3 g4)))))
  clear f1 f2 g1 g2 g3 g4 V
  obtain ⟨z0, z1, z2, z3⟩ := B2.cells
  obtain ⟨y0, y1, y2, y3⟩ := B2.free
  simp only [St.zero] at z0 z1 z2 z3
  have HB := Lib.hid (And.intro B2 L)
  clear B2 L
  go_wp2
  obtain ⟨f1, f2, g1, g2, g3, g4⟩ := VH.out
  simp only [f1, f2, g1, g2, g3, g4]
  generalize hS : stepS ⟨a, b, c, d⟩ = n
  have R := HB.out.1.put n
  have LL := below_put (x := .int .u64 (n.a : Int)) (y := .int .u64 (n.b : Int)) (z := .int .u64 (n.c : Int)) (u := .int .u64 (n.d : Int)) HB.out.2 hX
  obtain ⟨r0, r1, r2, r3⟩ := R.cells
  have hd : (tn 45 (d ^^^ b)) = n.d := by rw [← hS]; rfl
  rw [hd]
  generalize World.setCell (World.setCell (World.setCell (World.setCell w1 _ _) _ _) _ _) _ _ = V at r0 r1 r2 r3 LL ⊢
  clear R f1 f2 g1 g2 g3 g4 hS hd z0 z1 z2 z3 VH
  try simp only [Exit.inBlock, Exit.then]
  refine bodyPost_ret (by simp [results, Try.results11, go_sem, r0, r1, r2, r3]; try rfl) rfl ?_
  exact ⟨rfl, LL⟩
end Go.Proofs.Ythohgleklcoglaa
