/-
  Part 7 of what the statements of this seat stand on: Wq XjumpApartW XjumpRuleW XjumpStepsW.
-/
import Derived.Test.YtemgoikghaiamaaDoorBase1
import Derived.Deep.QuietTactic
import Derived.Test.YtemgoikghaiamaaDoorBase6
import Derived.Test.YtemgoikghaiamaaDoorBase4
import Derived.Deep.DeepCutAuto
import Derived.Laws.StructEq
import Derived.Deep.RegionHeld3
import Derived.Deep.RegionWith
/-
  A region whose own operations read, and whose callees make memory, walked once in the text's order, whatever its order is.
-/
namespace Go.Proofs.YtemgoikghaiamaaDoor
open Go.RowKit G
set_option linter.unusedVariables false

/-- The walk of a quiet region, shut: left open, the type of what is still to be shown is laid out through all operations that do not run. -/
structure WQ (P : Program) (ops : Array Oper) (C : World → Prop) (Q : Act → Prop) (l : List Oper) (a : Act) : Prop where
  out : wpQuiet P ops C Q l a
theorem wp_region_class {P : Program} {id : Nat} {Q : Exit → Act → World → Prop} {a : Act} {w : World} {l : List Oper} (C : World → Prop) (hm : P.follows .mixedOrders = true) (hB : Region.lexB .any l.toArray = true) (hC : C w.drew)
    (h : WQ P l.toArray C (fun a' => ∀ w', C w' → Q .normal a' w') l a) : (Code.region id l.toArray true).wp P Q a w :=
  wp_region_quiet (C := C) hm hB hC (by simpa using h.out)
section
variable {P : Program} {ops : Array Oper} {C : World → Prop} {Q : Act → Prop} {a : Act} {o : Oper} {rest : List Oper}
theorem WQ.yes (v : Value) (hw : Region.wanted o (yielded ops a.tmps) = true) (h1 : ∀ w, C w → o.quietAt P a C w v) (h2 : WQ P ops C Q rest (a.put o.dst v)) : WQ P ops C Q (o :: rest) a :=
  ⟨wpQuiet_step fun K hK => by rw [if_pos hw]; exact ⟨v, h1, hK _ h2.out⟩⟩
theorem WQ.no (hw : Region.wanted o (yielded ops a.tmps) = false) (h2 : WQ P ops C Q rest (a.put o.dst undef)) : WQ P ops C Q (o :: rest) a :=
  ⟨wpQuiet_step fun K hK => by rw [if_neg (by rw [hw]; simp)]; exact hK _ h2.out⟩
theorem WQ.nil (h : Q a) : WQ P ops C Q [] a := ⟨wpQuiet_nil h⟩
end
theorem quietOf {P : Program} {f : FuncId} {args : Array Value} {W0 w : World} {v : Value} (h : Calls P f args w (fun e w' => e = .returned v ∧ Below w.heap.size w w')) (hC : Below W0.heap.size W0 w) :
    Calls P f args w (fun e w'' => e = .returned v ∧ Below W0.heap.size W0 w'') := h.mono fun _ _ ⟨a, b⟩ => ⟨a, below_then hC b⟩
theorem quietSame {P : Program} {f : FuncId} {args : Array Value} {W0 w : World} {v : Value} (h : Calls P f args w (fun e w' => e = .returned v ∧ w' = w)) (hC : Below W0.heap.size W0 w) :
    Calls P f args w (fun e w'' => e = .returned v ∧ Below W0.heap.size W0 w'') := h.mono fun _ _ ⟨a, b⟩ => ⟨a, by rw [b]; exact hC⟩
/-- The same for one kind of value: a bare value would not be found where the goal's own value is open. -/
theorem quietU {P : Program} {f : FuncId} {args : Array Value} {W0 w : World} {n : Int} (h : Calls P f args w (fun e w' => e = .returned (.int .u64 n) ∧ Below w.heap.size w w')) (hC : Below W0.heap.size W0 w) :
    Calls P f args w (fun e w'' => e = .returned (.int .u64 n) ∧ Below W0.heap.size W0 w'') := quietOf h hC
theorem quietUS {P : Program} {f : FuncId} {args : Array Value} {W0 w : World} {n : Int} (h : Calls P f args w (fun e w' => e = .returned (.int .u64 n) ∧ w' = w)) (hC : Below W0.heap.size W0 w) :
    Calls P f args w (fun e w'' => e = .returned (.int .u64 n) ∧ Below W0.heap.size W0 w'') := quietSame h hC
theorem quietA {P : Program} {f : FuncId} {args : Array Value} {W0 w : World} {a b : Int} (h : Calls P f args w (fun e w' => e = .returned (.agg #[.int .u64 a, .int .u64 b]) ∧ Below w.heap.size w w')) (hC : Below W0.heap.size W0 w) :
    Calls P f args w (fun e w'' => e = .returned (.agg #[.int .u64 a, .int .u64 b]) ∧ Below W0.heap.size W0 w'') := quietOf h hC
theorem quietA4 {P : Program} {f : FuncId} {args : Array Value} {W0 w : World} {a b c d : Int} (h : Calls P f args w (fun e w' => e = .returned (.agg #[.int .u64 a, .int .u64 b, .int .u64 c, .int .u64 d]) ∧ Below w.heap.size w w')) (hC : Below W0.heap.size W0 w) :
    Calls P f args w (fun e w'' => e = .returned (.agg #[.int .u64 a, .int .u64 b, .int .u64 c, .int .u64 d]) ∧ Below W0.heap.size W0 w'') := quietOf h hC
theorem quietB {P : Program} {f : FuncId} {args : Array Value} {W0 w : World} {b : Bool} (h : Calls P f args w (fun e w' => e = .returned (.bool b) ∧ Below w.heap.size w w')) (hC : Below W0.heap.size W0 w) :
    Calls P f args w (fun e w'' => e = .returned (.bool b) ∧ Below W0.heap.size W0 w'') := quietOf h hC
end Go.Proofs.YtemgoikghaiamaaDoor
/-
  The statement's own walk: distinct numbers of steps lead to distinct states.
-/
namespace Go.Proofs.YtemgoikghaiamaaDoor
open Go.RowKit G
set_option linter.unusedVariables false
set_option maxRecDepth 100000

theorem wn_same {h l h' l' : Int} {N M : Nat} (i : Wn h l N) (j : Wn h' l' M) : (h == h' && l == l') = decide (N = M) := by
  have e1 := i.eq
  have e2 := j.eq
  have := i.h0; have := i.h1; have := i.l0; have := i.l1; have := j.h0; have := j.h1; have := j.l0; have := j.l1
  by_cases e : N = M
  · subst e
    have : h = h' ∧ l = l' := by omega
    rw [this.1, this.2]; simp
  · rw [decide_eq_false e]
    by_cases e3 : h = h'
    · have : l ≠ l' := by omega
      simp [this]
    · simp [e3]
set_option maxHeartbeats 4000000 in
theorem apartSome (X : JX) (aw : Hid (∀ W, Tab W → Calls Tryd.prog 8 #[] W (Bl true W))) (a b c d : Nat) (h1 l1 h2 l2 : Int) (N M : Nat) (hs : (⟨a, b, c, d⟩ : St).Ok) (h0 : (⟨a, b, c, d⟩ : St) ≠ St.zero) (i : Wn h1 l1 N) (j : Wn h2 l2 M) (w : World) (T : Tab w) :
    Calls Tryd.prog 7 #[.agg #[.int .u64 (a : Int), .int .u64 (b : Int), .int .u64 (c : Int), .int .u64 (d : Int)], .agg #[.int .u64 h1, .int .u64 l1], .agg #[.int .u64 h2, .int .u64 l2]] w (Bl true w) := by
  have hB : Below w.heap.size w w := Below.refl _ _
  have HT := Lib.hid T
  have R0 : Hid (∀ W, Calls Tryd.prog 21 #[.agg #[.int .u64 (a : Int), .int .u64 (b : Int), .int .u64 (c : Int), .int .u64 (d : Int)]] W (fun e w' => e = .returned (.bool true) ∧ Below W.heap.size W w')) := Lib.hid (fun W => by
    have := xRight ⟨a, b, c, d⟩ W
    rwa [decide_eq_false h0] at this)
  have J1 := Lib.hid (fun W => X.jumpY ⟨a, b, c, d⟩ h1 l1 N W hs h0 i)
  have J2 := Lib.hid (fun W => X.jumpY ⟨a, b, c, d⟩ h2 l2 M W hs h0 j)
  have R1 := Lib.hid (xRight (iterS ⟨a, b, c, d⟩ N))
  have rz := decide_eq_false (fun e => h0 ((iter_right hs N).1 e))
  rw [rz] at R1
  have q1 := sameS (iterS ⟨a, b, c, d⟩ N) (iterS ⟨a, b, c, d⟩ M)
  have q2 := wn_same i j
  have big : ∀ {h l : Int} {K : Nat}, Wn h l K → K < 340282366920938463463374607431768211456 := fun k => by
    have := k.eq; have := k.h0; have := k.h1; have := k.l0; have := k.l1; omega
  have es : decide (iterS ⟨a, b, c, d⟩ N = iterS ⟨a, b, c, d⟩ M) = decide (N = M) := decide_eq_decide.2 ⟨fun e => by
    rcases Nat.lt_trichotomy N M with h | h | h
    · exact (steps_apart hs h0 h (Nat.le_of_lt (big j)) e).elim
    · exact h
    · exact (steps_apart hs h0 h (Nat.le_of_lt (big i)) e.symm).elim, fun e => by rw [e]⟩
  rw [es] at q1
  generalize decide (N = M) = r at q1 q2
  generalize iterS ⟨a, b, c, d⟩ N = Y at J1 R1 q1
  generalize iterS ⟨a, b, c, d⟩ M = Z at J2 q1
  obtain ⟨y0, y1, y2, y3⟩ := Y
  obtain ⟨z0, z1, z2, z3⟩ := Z
  have Q1 : Hid (∀ W, Sem.run Tryd.prog (Op.equalIn 10000 24 (.agg #[.int .u64 (y0 : Int), .int .u64 (y1 : Int), .int .u64 (y2 : Int), .int .u64 (y3 : Int)]) (.agg #[.int .u64 (z0 : Int), .int .u64 (z1 : Int), .int .u64 (z2 : Int), .int .u64 (z3 : Int)])) W = .ok r W) := Lib.hid q1
  have hp : Hid (((h1 = h2) = True ∧ (l1 = l2) = True ∧ r = true) ∨ ((h1 = h2) = True ∧ (l1 = l2) = False ∧ r = false) ∨ ((h1 = h2) = False ∧ r = false)) := Lib.hid (by
    by_cases e1 : h1 = h2
    · by_cases e2 : l1 = l2
      · exact .inl ⟨eq_true e1, eq_true e2, by rw [← q2, e1, e2]; simp⟩
      · exact .inr (.inl ⟨eq_true e1, eq_false e2, by rw [← q2]; simp [e2]⟩)
    · exact .inr (.inr ⟨eq_false e1, by rw [← q2]; simp [e1]⟩))
  have RR : Hid (∀ W : World, Calls Tryd.prog 21 #[.agg #[.int .u64 (y0 : Int), .int .u64 (y1 : Int), .int .u64 (y2 : Int), .int .u64 (y3 : Int)]] W (fun e w' => e = .returned (.bool true) ∧ Below W.heap.size W w')) := R1
  clear T h0 hs rz es big q1 q2 i j R1
  go_enter Tryd.func7, Tryd.ntmps7
  go_wp2_with fail
  have U1 := Bx.new w ⟨a, b, c, d⟩ 24
  have s1 : (w.alloc (.cells #[.int .u64 (a : Int), .int .u64 (b : Int), .int .u64 (c : Int), .int .u64 (d : Int)] 24)).heap.size = w.heap.size + 1 := Array.size_push _
  replace hB := below_alloc hB (.cells #[.int .u64 (a : Int), .int .u64 (b : Int), .int .u64 (c : Int), .int .u64 (d : Int)] 24)
  simp only at U1
  generalize w.alloc _ = V1 at U1 hB s1 ⊢
  have N1 := CU.new V1 h1 l1 26
  have s2 : (V1.alloc (.cells #[.int .u64 h1, .int .u64 l1] 26)).heap.size = w.heap.size + 1 + 1 := (Array.size_push _).trans (by rw [s1])
  rw [s1] at N1
  replace U1 := U1.alloc (.cells #[.int .u64 h1, .int .u64 l1] 26)
  replace hB := below_alloc hB (.cells #[.int .u64 h1, .int .u64 l1] 26)
  generalize V1.alloc _ = V2 at U1 N1 hB s2 ⊢
  have N2 := CU.new V2 h2 l2 26
  rw [s2] at N2
  replace U1 := U1.alloc (.cells #[.int .u64 h2, .int .u64 l2] 26)
  replace N1 := N1.alloc (.cells #[.int .u64 h2, .int .u64 l2] 26)
  replace hB := below_alloc hB (.cells #[.int .u64 h2, .int .u64 l2] 26)
  clear s1 s2
  generalize V2.alloc _ = V3 at U1 N1 N2 hB ⊢
  generalize w.heap.size + 1 + 1 = c2 at N2 ⊢
  generalize w.heap.size + 1 = c1 at N1 ⊢
  refine (aw.out _ (HT.out.below hB)).mono ?_
  rintro e W0 ⟨rfl, hb⟩
  replace U1 := U1.below hb
  replace N1 := N1.below hb
  replace N2 := N2.below hb
  replace hB := below_then hB hb
  clear hb
  obtain ⟨x1, x2, x3, x4⟩ := U1.cells
  simp only at x1 x2 x3 x4
  go_wp2_with fail
  clear x1 x2 x3 x4
  refine (R0.out _).mono ?_
  rintro e W1 ⟨rfl, hb⟩
  replace U1 := U1.below hb
  replace N1 := N1.below hb
  replace N2 := N2.below hb
  replace hB := below_then hB hb
  clear hb
  obtain ⟨x1, x2, x3, x4⟩ := U1.cells
  simp only at x1 x2 x3 x4
  obtain ⟨u1, u2⟩ := N1.c
  go_wp2_with fail
  clear x1 x2 x3 x4 u1 u2
  refine (J1.out _ (HT.out.below hB)).mono ?_
  rintro e W2 ⟨rfl, hb⟩
  replace U1 := U1.below hb
  replace N1 := N1.below hb
  replace N2 := N2.below hb
  replace hB := below_then hB hb
  clear hb
  go_upto_region 6 with fail
  have Y1 := Bx.new W2 ⟨y0, y1, y2, y3⟩ 24
  have LB : Below W2.heap.size W2 (W2.alloc (.cells #[.int .u64 (y0 : Int), .int .u64 (y1 : Int), .int .u64 (y2 : Int), .int .u64 (y3 : Int)] 24)) := below_alloc (Below.refl _ _) _
  replace U1 := U1.below LB
  replace N1 := N1.below LB
  replace N2 := N2.below LB
  replace hB := below_then hB LB
  simp only at Y1
  clear LB
  generalize W2.alloc _ = V4 at U1 N1 N2 Y1 hB ⊢
  obtain ⟨x1, x2, x3, x4⟩ := U1.cells
  simp only at x1 x2 x3 x4
  obtain ⟨u1, u2⟩ := N2.c
  go_wp2_with fail
  clear x1 x2 x3 x4 u1 u2
  refine (J2.out _ (HT.out.below hB)).mono ?_
  rintro e W3 ⟨rfl, hb⟩
  replace Y1 := Y1.below hb
  replace N1 := N1.below hb
  replace N2 := N2.below hb
  replace hB := below_then hB hb
  clear hb
  go_upto_region 7 with fail
  have Y2 := Bx.new W3 ⟨z0, z1, z2, z3⟩ 24
  have LB : Below W3.heap.size W3 (W3.alloc (.cells #[.int .u64 (z0 : Int), .int .u64 (z1 : Int), .int .u64 (z2 : Int), .int .u64 (z3 : Int)] 24)) := below_alloc (Below.refl _ _) _
  replace Y1 := Y1.below LB
  replace N1 := N1.below LB
  replace N2 := N2.below LB
  replace hB := below_then hB LB
  simp only at Y2
  clear LB U1
  generalize W3.alloc _ = V5 at Y1 Y2 N1 N2 hB ⊢
  rcases hp.out with ⟨p1, p2, hr⟩ | ⟨p1, p2, hr⟩ | ⟨p1, hr⟩
  all_goals
    subst hr
    refine wp_region_class (fun w' => Below V5.heap.size V5 w') (by kernel_rfl) (by kernel_rfl) (Below.refl _ _).drew ?_
    iterate 20
      (refine WQ.yes ?_ (by rfl) (fun w' hC => ?_) ?_
       rotate_left
       · (obtain ⟨x1, x2, x3, x4⟩ := (Y1.below hC).cells
          obtain ⟨t1, t2, t3, t4⟩ := (Y2.below hC).cells
          simp only at x1 x2 x3 x4 t1 t2 t3 t4
          obtain ⟨u1, u2⟩ := (N1.below hC).c
          obtain ⟨v1, v2⟩ := (N2.below hC).c
          have q1 := Q1.out w'
          go_simp
          first | done | with_reducible rfl | exact ⟨rfl, rfl⟩ | (go_at_call 21; (with_reducible exact quietB (RR.out _) hC)))
       (try simp only [Act.put, List.setIfInBounds_toArray, List.set_cons_zero, List.set_cons_succ]))
    refine WQ.nil ?_
    intro wz hX
    go_wp2
    go_ret
    exact ⟨rfl, below_then hB hX⟩
set_option maxHeartbeats 2000000 in
theorem apartNone (aw : Hid (∀ W, Tab W → Calls Tryd.prog 8 #[] W (Bl true W))) (a b c d : Nat) (h1 l1 h2 l2 : Int) (h0 : (⟨a, b, c, d⟩ : St) = St.zero) (w : World) (T : Tab w) :
    Calls Tryd.prog 7 #[.agg #[.int .u64 (a : Int), .int .u64 (b : Int), .int .u64 (c : Int), .int .u64 (d : Int)], .agg #[.int .u64 h1, .int .u64 l1], .agg #[.int .u64 h2, .int .u64 l2]] w (Bl true w) := by
  have hB : Below w.heap.size w w := Below.refl _ _
  have HT := Lib.hid T
  have R0 : Hid (∀ W, Calls Tryd.prog 21 #[.agg #[.int .u64 (a : Int), .int .u64 (b : Int), .int .u64 (c : Int), .int .u64 (d : Int)]] W (fun e w' => e = .returned (.bool false) ∧ Below W.heap.size W w')) := Lib.hid (fun W => by
    have := xRight ⟨a, b, c, d⟩ W
    rwa [decide_eq_true h0] at this)
  clear T h0
  go_enter Tryd.func7, Tryd.ntmps7
  go_wp2_with fail
  have U1 := Bx.new w ⟨a, b, c, d⟩ 24
  replace hB := below_alloc hB (.cells #[.int .u64 (a : Int), .int .u64 (b : Int), .int .u64 (c : Int), .int .u64 (d : Int)] 24)
  simp only at U1
  generalize w.alloc _ = V1 at U1 hB ⊢
  replace U1 := (U1.alloc (.cells #[.int .u64 h1, .int .u64 l1] 26)).alloc (.cells #[.int .u64 h2, .int .u64 l2] 26)
  replace hB := below_alloc (below_alloc hB (.cells #[.int .u64 h1, .int .u64 l1] 26)) (.cells #[.int .u64 h2, .int .u64 l2] 26)
  generalize World.alloc (World.alloc V1 _) _ = V3 at U1 hB ⊢
  refine (aw.out _ (HT.out.below hB)).mono ?_
  rintro e W0 ⟨rfl, hb⟩
  replace U1 := U1.below hb
  replace hB := below_then hB hb
  clear hb
  obtain ⟨x1, x2, x3, x4⟩ := U1.cells
  simp only at x1 x2 x3 x4
  go_wp2_with fail
  clear x1 x2 x3 x4
  refine (R0.out _).mono ?_
  rintro e W1 ⟨rfl, hb⟩
  replace hB := below_then hB hb
  clear hb
  go_wp2
  go_ret
  exact ⟨rfl, hB⟩
theorem xjumpApart (X : JX) (aw : Hid (∀ W, Tab W → Calls Tryd.prog 8 #[] W (Bl true W))) (s : St) {h1 l1 h2 l2 : Int} {N M : Nat} (hs : s.Ok) (i : Wn h1 l1 N) (j : Wn h2 l2 M) (w : World) (T : Tab w) :
    Calls Tryd.prog 7 #[s.val, .agg #[.int .u64 h1, .int .u64 l1], .agg #[.int .u64 h2, .int .u64 l2]] w (Bl true w) := by
  by_cases h0 : s = St.zero
  · exact apartNone aw s.a s.b s.c s.d h1 l1 h2 l2 h0 w T
  · exact apartSome X aw s.a s.b s.c s.d h1 l1 h2 l2 N M hs h0 i j w T
end Go.Proofs.YtemgoikghaiamaaDoor
/-
  The statement's own walk: of each state the rule tells all 0, and nothing parts it; a polynomial and its rest tell the same.
-/
namespace Go.Proofs.YtemgoikghaiamaaDoor
open Go.RowKit G
set_option linter.unusedVariables false
set_option maxRecDepth 100000

/-- What stands behind the great test. -/
def CutR (W0 : World) (v : Value) (wr : World) : Prop := v = .bool true ∧ Below W0.heap.size W0 wr
theorem gone128 : gc (pr 2 (2 ^ 128) rP ^^^ 2) rP = 1 := (irr_iff (by rw [rP_len]; decide)).1 rP_irr 128 (by decide) (by rw [rP_len]; decide)
theorem words_of_len {n m : Nat} (h : len n ≤ m) (k : Nat) (hk : m ≤ 64 * k) : (wordsOf n).length ≤ k := wordsOf_len k (Nat.lt_of_lt_of_le (len_lt n) (Nat.pow_le_pow_right (by decide) (Nat.le_trans h hk)))
theorem pr_len_rule (a n : Nat) : len (pr a n rP) ≤ 256 := by have := pr_lt (a := a) (n := n) rP_ne; rw [rP_len] at this; omega
theorem ruleLong (aw : Hid (∀ W, Tab W → Calls Tryd.prog 8 #[] W (Bl true W))) (a b c d L ca : Nat) (A : Option Addr) (h : 12 < L) (w : World) (T : Tab w) :
    Calls Tryd.prog 6 #[.agg #[.int .u64 (a : Int), .int .u64 (b : Int), .int .u64 (c : Int), .int .u64 (d : Int)], .slice A L ca] w (Bl true w) := by
  have hB : Below w.heap.size w w := Below.refl _ _
  have HT := Lib.hid T
  have n1 : (L : Int) > 12 := by omega
  clear T h
  go_enter Tryd.func6, Tryd.ntmps6
  go_wp2_with fail
  replace hB := below_alloc hB (.cells #[.int .u64 (a : Int), .int .u64 (b : Int), .int .u64 (c : Int), .int .u64 (d : Int)] 24)
  generalize w.alloc _ = V at hB ⊢
  refine (aw.out _ (HT.out.below hB)).mono ?_
  rintro e W0 ⟨rfl, hb⟩
  replace hB := below_then hB hb
  clear hb
  go_wp2
  go_ret
  exact ⟨rfl, hB⟩
set_option maxHeartbeats 8000000 in
theorem ruleShort (X : JX) (aw : Hid (∀ W, Tab W → Calls Tryd.prog 8 #[] W (Bl true W))) (a b c d L ca : Nat) (A : Option Addr) (xs : List Nat) (hs : (⟨a, b, c, d⟩ : St).Ok) (hL : xs.length = L) (h : L ≤ 12) (w : World) (P : Pol w A ca xs) (T : Tab w) :
    Calls Tryd.prog 6 #[.agg #[.int .u64 (a : Int), .int .u64 (b : Int), .int .u64 (c : Int), .int .u64 (d : Int)], .slice A L ca] w (Bl true w) := by
  have hB : Below w.heap.size w w := Below.refl _ _
  have HT := Lib.hid T
  have HS := Lib.hid hs
  have HL := Lib.hid hL
  have r0 : leN (wordsOf rP) ≠ 0 := by rw [leN_wordsOf]; intro e; have := rP_len; rw [e] at this; simp [len_zero] at this
  have HR0 := Lib.hid r0
  have lr : (wordsOf rP).length ≤ 5 := words_of_len (Nat.le_of_eq rP_len) 5 (by decide)
  have CX : Hid (∀ W, Calls Tryd.prog 25 #[.int .i64 1] W (fun e w' => ∃ (B : Option Addr) (cap : Nat), e = .returned (.slice B 1 cap) ∧ Pol w' B cap [2] ∧ Below W.heap.size W w')) := Lib.hid (fun W => (cX 1 (by decide) W).mono (by
    have e2 : wordsOf (2 ^ 1) = [2] := by rw [Nat.pow_one, wordsOf_pos (by decide), wordsOf_zero]
    rintro e w' ⟨B, cap, rfl, Q, hb⟩
    rw [e2] at Q ⊢
    exact ⟨B, cap, rfl, Q, hb⟩))
  have le2 : leN [2] = 2 := rfl
  have HE2 := Lib.hid le2
  have HE1 := Lib.hid (show ([2] : List Nat).length = 1 from rfl)
  clear T hs hL r0 le2
  have n1 : ¬ (L : Int) > 12 := by omega
  go_enter Tryd.func6, Tryd.ntmps6
  go_wp2_with fail
  have U1 := Bx.new w ⟨a, b, c, d⟩ 24
  have LB : Below w.heap.size w (w.alloc (.cells #[.int .u64 (a : Int), .int .u64 (b : Int), .int .u64 (c : Int), .int .u64 (d : Int)] 24)) := below_alloc (Below.refl _ _) _
  replace P := P.below LB
  replace hB := below_then hB LB
  simp only at U1
  clear LB
  generalize w.alloc _ = V at U1 P hB ⊢
  generalize w.heap.size = c0 at U1 ⊢
  refine (aw.out _ (HT.out.below hB)).mono ?_
  rintro e W0 ⟨rfl, hb⟩
  replace U1 := U1.below hb
  replace P := P.below hb
  replace hB := below_then hB hb
  clear hb
  go_wp2_with fail
  refine (X.rule _ (HT.out.below hB)).mono ?_
  rintro e W1 ⟨A5, c5, rfl, P5, hb⟩
  replace U1 := U1.below hb
  replace P := P.below hb
  replace hB := below_then hB hb
  clear hb
  generalize hlr : (wordsOf rP).length = lr' at lr ⊢
  have HLR := Lib.hid hlr
  clear hlr
  go_wp2_with fail
  refine (gMod (rt (leN xs) rP) P P5 HL.out HLR.out (by rw [leN_wordsOf]) (by omega) (by omega) HR0.out).mono ?_
  rintro e W2 ⟨A6, c6, rfl, P6, hb⟩
  replace U1 := U1.below hb
  replace P := P.below hb
  replace P5 := P5.below hb
  replace hB := below_then hB hb
  clear hb
  go_wp2_with fail
  refine (CX.out _).mono ?_
  rintro e W3 ⟨B1, d1, rfl, Q1, hb⟩
  replace U1 := U1.below hb
  replace P := P.below hb
  replace P5 := P5.below hb
  replace P6 := P6.below hb
  replace hB := below_then hB hb
  clear hb
  go_wp2_with fail
  refine (gSquares 256 2 256 rfl Q1 P5 rfl HLR.out (by decide) (by omega) HR0.out (by decide) (by rw [leN_wordsOf, HE2.out]; exact far_pr)).mono ?_
  rintro e W4 ⟨A8, c8, rfl, P8, hb⟩
  replace U1 := U1.below hb
  replace P := P.below hb
  replace P5 := P5.below hb
  replace P6 := P6.below hb
  replace hB := below_then hB hb
  clear hb Q1
  go_wp2_with fail
  refine (CX.out _).mono ?_
  rintro e W5 ⟨B2, d2, rfl, Q2, hb⟩
  replace U1 := U1.below hb
  replace P := P.below hb
  replace P5 := P5.below hb
  replace P6 := P6.below hb
  replace P8 := P8.below hb
  replace hB := below_then hB hb
  clear hb
  go_wp2_with fail
  generalize hH : pr 2 (2 ^ 128) rP = H
  have HH := Lib.hid hH
  clear hH
  refine (gSquares 128 H 128 rfl Q2 P5 rfl HLR.out (by decide) (by omega) HR0.out (by decide) (by rw [leN_wordsOf, HE2.out]; exact HH.out)).mono ?_
  rintro e W6 ⟨A10, c10, rfl, P10, hb⟩
  replace U1 := U1.below hb
  replace P := P.below hb
  replace P5 := P5.below hb
  replace P6 := P6.below hb
  replace P8 := P8.below hb
  replace hB := below_then hB hb
  clear hb
  clear Q2
  go_wp2_with fail
  refine (CX.out _).mono ?_
  rintro e W7 ⟨B3, d3, rfl, Q3, hb⟩
  replace U1 := U1.below hb
  replace P := P.below hb
  replace P5 := P5.below hb
  replace P6 := P6.below hb
  replace P8 := P8.below hb
  replace P10 := P10.below hb
  replace hB := below_then hB hb
  clear hb
  have lH : (wordsOf H).length ≤ 5 := words_of_len (m := 256) (by rw [← HH.out]; exact pr_len_rule 2 (2 ^ 128)) 5 (by decide)
  go_wp2_with fail
  refine (gAdd (H ^^^ 2) P10 Q3 rfl rfl (by rw [leN_wordsOf, HE2.out]) (by omega) (by decide)).mono ?_
  rintro e W8 ⟨A11, c11, rfl, P11, hb⟩
  replace U1 := U1.below hb
  replace P := P.below hb
  replace P5 := P5.below hb
  replace P6 := P6.below hb
  replace P8 := P8.below hb
  replace P10 := P10.below hb
  replace hB := below_then hB hb
  clear hb
  clear Q3
  go_wp2_with fail
  refine (gGcd 1 P11 P5 rfl HLR.out (by rw [leN_wordsOf, leN_wordsOf, ← HH.out]; exact gone128) (by have := words_of_len (n := H ^^^ 2) (m := 256) (len_xor_le H 2 256 (by rw [← HH.out]; exact pr_len_rule 2 (2 ^ 128)) (len_le (by decide))) 5 (by decide); omega) (by omega)).mono ?_
  rintro e W9 ⟨A12, c12, rfl, P12, hb⟩
  replace U1 := U1.below hb
  replace P := P.below hb
  replace P5 := P5.below hb
  replace P6 := P6.below hb
  replace P8 := P8.below hb
  replace P10 := P10.below hb
  replace hB := below_then hB hb
  clear hb
  clear P11 P10
  go_wp2_with fail
  have lR6 : (wordsOf (rt (leN xs) rP)).length ≤ 5 := words_of_len (m := 256) (by have := rt_lt (a := leN xs) rP_ne; rw [rP_len] at this; omega) 5 (by decide)
  have TV := Lib.hid (HT.out.below hB)
  have A1 : Hid (∀ W, Below W9.heap.size W9 W → Calls Tryd.prog 11 #[.slice A5 lr' c5, .agg #[.int .u64 (a : Int), .int .u64 (b : Int), .int .u64 (c : Int), .int .u64 (d : Int)]] W (fun e w' => e = .returned (.agg #[.int .u64 0, .int .u64 0, .int .u64 0, .int .u64 0]) ∧ Below W.heap.size W w')) := Lib.hid (fun W hW => by
    have := X.at_ ⟨a, b, c, d⟩ A5 c5 lr' (wordsOf rP) W HS.out (P5.below hW) HLR.out (by omega) (TV.out.below hW)
    rw [leN_wordsOf, polS_rule HS.out] at this
    exact this)
  generalize hY : polS (leN xs) ⟨a, b, c, d⟩ = Y
  have HY := Lib.hid hY
  clear hY
  obtain ⟨y0, y1, y2, y3⟩ := Y
  have A2 : Hid (∀ W, Below W9.heap.size W9 W → Calls Tryd.prog 11 #[.slice A L ca, .agg #[.int .u64 (a : Int), .int .u64 (b : Int), .int .u64 (c : Int), .int .u64 (d : Int)]] W (fun e w' => e = .returned (.agg #[.int .u64 (y0 : Int), .int .u64 (y1 : Int), .int .u64 (y2 : Int), .int .u64 (y3 : Int)]) ∧ Below W.heap.size W w')) := Lib.hid (fun W hW => by
    have := X.at_ ⟨a, b, c, d⟩ A ca L xs W HS.out (P.below hW) HL.out (by omega) (TV.out.below hW)
    rw [HY.out] at this
    exact this)
  have A3 : Hid (∀ W, Below W9.heap.size W9 W → Calls Tryd.prog 11 #[.slice A6 (wordsOf (rt (leN xs) rP)).length c6, .agg #[.int .u64 (a : Int), .int .u64 (b : Int), .int .u64 (c : Int), .int .u64 (d : Int)]] W (fun e w' => e = .returned (.agg #[.int .u64 (y0 : Int), .int .u64 (y1 : Int), .int .u64 (y2 : Int), .int .u64 (y3 : Int)]) ∧ Below W.heap.size W w')) := Lib.hid (fun W hW => by
    have := X.at_ ⟨a, b, c, d⟩ A6 c6 _ (wordsOf (rt (leN xs) rP)) W HS.out (P6.below hW) rfl (by omega) (TV.out.below hW)
    rw [leN_wordsOf, polS_rest (leN xs) HS.out, HY.out] at this
    exact this)
  have HQ : Hid (∀ (x0 x1 x2 x3 : Nat) (W : World), Sem.run Tryd.prog (Op.equalIn 10000 24 (.agg #[.int .u64 (x0 : Int), .int .u64 (x1 : Int), .int .u64 (x2 : Int), .int .u64 (x3 : Int)]) (.agg #[.int .u64 (x0 : Int), .int .u64 (x1 : Int), .int .u64 (x2 : Int), .int .u64 (x3 : Int)])) W = .ok true W) := Lib.hid (fun x0 x1 x2 x3 W => by
    have := sameS ⟨x0, x1, x2, x3⟩ ⟨x0, x1, x2, x3⟩ W
    rwa [decide_eq_true rfl] at this)
  have q0 : ∀ W, Sem.run Tryd.prog (Op.equalIn 10000 24 (.agg #[.int .u64 0, .int .u64 0, .int .u64 0, .int .u64 0]) (.agg #[.int .u64 0, .int .u64 0, .int .u64 0, .int .u64 0])) W = .ok true W := fun W => sameS St.zero St.zero W
  have H8 := Lib.hid P8
  have H12 := Lib.hid P12
  have HU := Lib.hid U1
  have w2 : wordsOf 2 = [2] := by rw [wordsOf_pos (by decide), wordsOf_zero]
  have w1 : wordsOf 1 = [1] := by rw [wordsOf_pos (by decide), wordsOf_zero]
  have L8 := Lib.hid (show (wordsOf 2).length = 1 by rw [w2]; rfl)
  have L12 := Lib.hid (show (wordsOf 1).length = 1 by rw [w1]; rfl)
  have HB := Lib.hid hB
  clear P8 P12 U1 P P5 P6 HH HS HY w2 w1 HR0 lR6 hB
  go_cut [4] (CutR W9)
  case first =>
    have q := HQ.out y0 y1 y2 y3
    have fX : Below W9.heap.size W9 W9 := Below.refl _ _
    obtain ⟨k0, k1, k2, k3⟩ := HU.out.cells
    simp only at k0 k1 k2 k3
    have su := HU.out.lt
    go_region_held3 (fun w' => (w'.cell? ⟨c0, 0, none⟩ = some (.int .u64 (a : Int)) ∧ w'.cell? ⟨c0, 1, none⟩ = some (.int .u64 (b : Int))) ∧ (w'.cell? ⟨c0, 2, none⟩ = some (.int .u64 (c : Int)) ∧ w'.cell? ⟨c0, 3, none⟩ = some (.int .u64 (d : Int)))) (go_keep)
      (first
        | (go_at_call 11; ((with_reducible refine (A1.out _ (by first | exact fX | exact fX.drew)).mono ?_); rintro e x1 ⟨rfl, hb⟩; clear k0 k1 k2 k3 su; replace fX := below_then (by first | exact fX | exact fX.drew) hb; clear hb; obtain ⟨k0, k1, k2, k3⟩ := (HU.out.below fX).cells; simp only at k0 k1 k2 k3; have su := (HU.out.below fX).lt))
        | (go_at_call 11; ((with_reducible refine (A2.out _ (by first | exact fX | exact fX.drew)).mono ?_); rintro e x2 ⟨rfl, hb⟩; clear k0 k1 k2 k3 su; replace fX := below_then (by first | exact fX | exact fX.drew) hb; clear hb; obtain ⟨k0, k1, k2, k3⟩ := (HU.out.below fX).cells; simp only at k0 k1 k2 k3; have su := (HU.out.below fX).lt))
        | (go_at_call 11; ((with_reducible refine (A3.out _ (by first | exact fX | exact fX.drew)).mono ?_); rintro e x3 ⟨rfl, hb⟩; clear k0 k1 k2 k3 su; replace fX := below_then (by first | exact fX | exact fX.drew) hb; clear hb; obtain ⟨k0, k1, k2, k3⟩ := (HU.out.below fX).cells; simp only at k0 k1 k2 k3; have su := (HU.out.below fX).lt))
        | (go_at_call 25; ((with_reducible refine (CX.out _).mono ?_); rintro e x4 ⟨B4, d4, rfl, Q4, hb⟩; have HQ4 := Lib.hid Q4; clear Q4; clear k0 k1 k2 k3 su; replace fX := below_then (by first | exact fX | exact fX.drew) hb; clear hb; obtain ⟨k0, k1, k2, k3⟩ := (HU.out.below fX).cells; simp only at k0 k1 k2 k3; have su := (HU.out.below fX).lt))
        | (go_at_call 28; ((with_reducible refine (gSame true (H8.out.below fX) HQ4.out rfl HE1.out (by rw [leN_wordsOf, HE2.out]; unfold sameN; exact decide_eq_true rfl) (by rw [L8.out]; decide)).mono ?_); rintro e x5 ⟨rfl, hb⟩; clear k0 k1 k2 k3 su; replace fX := below_then fX hb; clear hb; obtain ⟨k0, k1, k2, k3⟩ := (HU.out.below fX).cells; simp only at k0 k1 k2 k3; have su := (HU.out.below fX).lt))
        | (go_at_call 29; ((with_reducible refine (gDeg 0 (H12.out.below fX) rfl (by rw [leN_wordsOf, show len 1 = 1 from by decide +kernel]; decide) (by rw [L12.out]; decide)).mono ?_); rintro e x6 ⟨rfl, rfl⟩)))
    all_goals
      go_wp2_with fail
      go_meet
      exact ⟨rfl, fX⟩
  obtain ⟨rfl, hb⟩ := hcut
  have hB := below_then HB.out hb
  go_wp2
  go_ret
  exact ⟨rfl, hB⟩
theorem xjumpRule (X : JX) (aw : Hid (∀ W, Tab W → Calls Tryd.prog 8 #[] W (Bl true W))) (s : St) {A : Option Addr} {L ca : Nat} {xs : List Nat} (hs : s.Ok) (hL : xs.length = L) (w : World) (P : Pol w A ca xs) (T : Tab w) :
    Calls Tryd.prog 6 #[s.val, .slice A L ca] w (Bl true w) := by
  by_cases h : 12 < L
  · exact ruleLong aw s.a s.b s.c s.d L ca A h w T
  · exact ruleShort X aw s.a s.b s.c s.d L ca A xs hs hL (by omega) w P T
end Go.Proofs.YtemgoikghaiamaaDoor
/-
  The statement's own walk: a jump is so many steps, one by one.
-/
namespace Go.Proofs.YtemgoikghaiamaaDoor
open Go.RowKit G
set_option linter.unusedVariables false
set_option maxRecDepth 100000

theorem CutJ.early {W0 x : World} {Y : St} {k : Int} {p : Nat} (hb : Below W0.heap.size W0 x) (hp : W0.heap.size ≤ p) (z : Bx 24 x p St.zero) : CutJ W0 Y k (.pointer (some ⟨p, 0, none⟩)) (.int .i64 k) ((((x.setCell ⟨p, 0, none⟩ (.int .u64 (Y.a : Int))).setCell ⟨p, 1, none⟩ (.int .u64 (Y.b : Int))).setCell ⟨p, 2, none⟩ (.int .u64 (Y.c : Int))).setCell ⟨p, 3, none⟩ (.int .u64 (Y.d : Int))) :=
  ⟨p, rfl, rfl, z.put Y, below_put hb hp⟩
/-- A new block of 0s ahead of a call. -/
theorem early_of {w v : World} (hb : Below (w.alloc (.cells #[.int .u64 0, .int .u64 0, .int .u64 0, .int .u64 0] 24)).heap.size (w.alloc (.cells #[.int .u64 0, .int .u64 0, .int .u64 0, .int .u64 0] 24)) v) : Bx 24 v w.heap.size St.zero := Bx.below (Bx.new w St.zero _) hb
theorem sw {x : Nat} (h : x < 18446744073709551616) : Wn (0 : Int) (x : Int) x := ⟨by omega, by omega, by omega, by omega, by omega⟩
set_option maxHeartbeats 4000000 in
theorem stepsSome (X : JX) (aw : Hid (∀ W, Tab W → Calls Tryd.prog 8 #[] W (Bl true W))) (a b c d n : Nat) (hs : (⟨a, b, c, d⟩ : St).Ok) (h0 : (⟨a, b, c, d⟩ : St) ≠ St.zero) (hn : n ≤ 600) (w : World) (T : Tab w) :
    Calls Tryd.prog 4 #[.agg #[.int .u64 (a : Int), .int .u64 (b : Int), .int .u64 (c : Int), .int .u64 (d : Int)], .int .u16 (n : Int)] w (Bl true w) := by
  have hB : Below w.heap.size w w := Below.refl _ _
  have q : ∀ W, Sem.run Tryd.prog (Op.equalIn 10000 24 (.agg #[.int .u64 (a : Int), .int .u64 (b : Int), .int .u64 (c : Int), .int .u64 (d : Int)]) (.agg #[.int .u64 0, .int .u64 0, .int .u64 0, .int .u64 0])) W = .ok false W := fun W => by
    have := sameZ ⟨a, b, c, d⟩ W
    rwa [decide_eq_false h0] at this
  have HT := Lib.hid T
  clear T
  go_enter Tryd.func4, Tryd.ntmps4
  go_wp2_with fail
  have U1 := Bx.new w ⟨a, b, c, d⟩ 24
  replace hB := below_alloc hB (.cells #[.int .u64 (a : Int), .int .u64 (b : Int), .int .u64 (c : Int), .int .u64 (d : Int)] 24)
  simp only at U1
  generalize World.alloc _ _ = V at U1 hB ⊢
  refine (aw.out _ (HT.out.below hB)).mono ?_
  rintro e W0 ⟨rfl, hb⟩
  replace U1 := U1.below hb
  replace hB := below_then hB hb
  clear hb
  have n1 : ¬ (n : Int) > 600 := by omega
  have n0 : (0 : Int) ≤ (n : Int) := by omega
  obtain ⟨x1, x2, x3, x4⟩ := U1.cells
  simp only at x1 x2 x3 x4
  have HU := Lib.hid U1
  have HB := Lib.hid hB
  clear U1 hB
  go_wp2_with fail
  have O : Hid (∀ W, Calls Tryd.prog 17 #[.int .u64 (n : Int)] W (fun e w' => e = .returned (.agg #[.int .u64 0, .int .u64 (n : Int)]) ∧ Below W.heap.size W w')) := Lib.hid (fun W => by
    have := cOf n n rfl (by omega) W
    unfold AnsW hiW loW at this
    rwa [Nat.div_eq_of_lt (by omega), Nat.mod_eq_of_lt (by omega)] at this)
  have TW := Lib.hid (HT.out.below HB.out)
  have J : Hid (∀ W, Below W0.heap.size W0 W → Calls Tryd.prog 9 #[.agg #[.int .u64 (a : Int), .int .u64 (b : Int), .int .u64 (c : Int), .int .u64 (d : Int)], .agg #[.int .u64 0, .int .u64 (n : Int)]] W (AnsSE (iterS ⟨a, b, c, d⟩ n) 0 W)) := Lib.hid (fun W hW => X.jumpY ⟨a, b, c, d⟩ 0 n n W hs h0 (sw (by omega)) (TW.out.below hW))
  have R := Lib.hid (yJump7 ⟨a, b, c, d⟩ hs n (by omega))
  generalize iterS ⟨a, b, c, d⟩ n = Y at J R
  obtain ⟨y0, y1, y2, y3⟩ := Y
  have R2 : Hid (∀ W : World, Calls Tryd.prog 18 #[.agg #[.int .u64 (a : Int), .int .u64 (b : Int), .int .u64 (c : Int), .int .u64 (d : Int)], .int .i64 (n : Int)] W (fun e w' => e = .returned (.agg #[.int .u64 (y0 : Int), .int .u64 (y1 : Int), .int .u64 (y2 : Int), .int .u64 (y3 : Int)]) ∧ Below W.heap.size W w')) := R
  clear R
  clear q hs h0
  have hw : IntKind.u64.wrap (n : Int) = (n : Int) := by rw [wrap_nat, Nat.mod_eq_of_lt (by omega)]
  go_cut [5, 6] (CutJ W0 ⟨y0, y1, y2, y3⟩ 0)
  case first =>
    have hX : Below W0.heap.size W0 W0 := Below.refl _ _
    have su := HU.out.lt
    go_region_with (first
      | (go_at_call 17; (with_reducible refine (O.out _).mono ?_); rintro e v1 ⟨rfl, hb⟩; (first | (have z : Bx 24 v1 W0.heap.size St.zero := early_of (w := World.drew W0) hb; have zl := Lib.hid (Nat.le_refl W0.heap.size)) | skip); replace hX := (show Below W0.heap.size W0 v1 from below_then (by first | exact hX | exact hX.drew | exact hX.alloc hX.size _ | exact hX.drew.alloc hX.drew.size _ | exact (hX.alloc hX.size _).drew | exact (hX.drew.alloc hX.drew.size _).drew | exact hX.drew.drew) hb); clear hb; clear x1 x2 x3 x4; obtain ⟨x1, x2, x3, x4⟩ := (HU.out.below hX).cells; simp only at x1 x2 x3 x4; have su := (HU.out.below hX).lt)
      | (go_at_call 9; (with_reducible refine (J.out _ (by first | exact hX | exact hX.drew | exact hX.alloc hX.size _ | exact hX.drew.alloc hX.drew.size _ | exact (hX.alloc hX.size _).drew | exact (hX.drew.alloc hX.drew.size _).drew | exact hX.drew.drew)).mono ?_); rintro e v2 ⟨rfl, hb⟩; (first | (replace z := Bx.below z hb) | (have z : Bx 24 v2 v1.heap.size St.zero := early_of hb; have zl := Lib.hid hX.size) | skip); replace hX := (show Below W0.heap.size W0 v2 from below_then (by first | exact hX | exact hX.drew | exact hX.alloc hX.size _ | exact hX.drew.alloc hX.drew.size _ | exact (hX.alloc hX.size _).drew | exact (hX.drew.alloc hX.drew.size _).drew | exact hX.drew.drew) hb); clear hb; (first | (obtain ⟨e0, e1, e2, e3⟩ := z.cells; obtain ⟨f0, f1, f2, f3⟩ := z.free; simp only [St.zero] at e0 e1 e2 e3) | skip)))
    all_goals
      go_wp2_with fail
      go_meet
      first
        | with_reducible exact CutJ.early hX zl.out z
        | with_reducible exact CutJ.of hX
  obtain ⟨bJ, rfl, rfl, BJ, hb⟩ := hcut
  have HQ : Hid (∀ W, Sem.run Tryd.prog (Op.equalIn 10000 23 (.agg #[.int .u64 (y0 : Int), .int .u64 (y1 : Int), .int .u64 (y2 : Int), .int .u64 (y3 : Int)]) (.agg #[.int .u64 (y0 : Int), .int .u64 (y1 : Int), .int .u64 (y2 : Int), .int .u64 (y3 : Int)])) W = .ok true W) := Lib.hid (fun W => by
    have := sameR ⟨y0, y1, y2, y3⟩ ⟨y0, y1, y2, y3⟩ W
    rwa [decide_eq_true rfl] at this)
  have hw2 : IntKind.i64.wrap (n : Int) = (n : Int) := by rw [IntKind.wrap_i64]; omega
  have HU2 := Lib.hid (HU.out.below hb)
  have HB2 := Lib.hid (below_then HB.out hb)
  have HJ := Lib.hid BJ
  clear BJ hb HB HU O J TW hw x1 x2 x3 x4
  go_wp2_with fail
  refine wp_region_class (fun w' => Below wc.heap.size wc w') (by kernel_rfl) (by kernel_rfl) (Below.refl _ _).drew ?_
  iterate 11
    (refine WQ.yes ?_ (by rfl) (fun w' hC => ?_) ?_
     rotate_left
     · (obtain ⟨x1, x2, x3, x4⟩ := (HU2.out.below hC).cells
        obtain ⟨z1, z2, z3, z4⟩ := (HJ.out.below hC).cells
        simp only at x1 x2 x3 x4 z1 z2 z3 z4
        have q := HQ.out w'
        go_simp
        first | done | with_reducible rfl | exact ⟨rfl, rfl⟩ | (go_at_call 18; (with_reducible exact quietA4 (R2.out _) hC)))
     (try simp only [Act.put, List.setIfInBounds_toArray, List.set_cons_zero, List.set_cons_succ]))
  refine WQ.nil ?_
  intro wz hX
  go_wp2
  go_ret
  exact ⟨rfl, below_then HB2.out hX⟩
set_option maxHeartbeats 2000000 in
theorem stepsNone (aw : Hid (∀ W, Tab W → Calls Tryd.prog 8 #[] W (Bl true W))) (a b c d n : Nat) (h : 600 < n ∨ n ≤ 600 ∧ (⟨a, b, c, d⟩ : St) = St.zero) (w : World) (T : Tab w) :
    Calls Tryd.prog 4 #[.agg #[.int .u64 (a : Int), .int .u64 (b : Int), .int .u64 (c : Int), .int .u64 (d : Int)], .int .u16 (n : Int)] w (Bl true w) := by
  have hB : Below w.heap.size w w := Below.refl _ _
  have HT := Lib.hid T
  clear T
  go_enter Tryd.func4, Tryd.ntmps4
  go_wp2_with fail
  have U1 := Bx.new w ⟨a, b, c, d⟩ 24
  replace hB := below_alloc hB (.cells #[.int .u64 (a : Int), .int .u64 (b : Int), .int .u64 (c : Int), .int .u64 (d : Int)] 24)
  simp only at U1
  generalize World.alloc _ _ = V at U1 hB ⊢
  refine (aw.out _ (HT.out.below hB)).mono ?_
  rintro e W0 ⟨rfl, hb⟩
  replace U1 := U1.below hb
  replace hB := below_then hB hb
  clear hb
  rcases h with h1 | ⟨h1, h2⟩
  · have n1 : (n : Int) > 600 := by omega
    clear h1 U1
    go_wp2
    go_ret
    exact ⟨rfl, hB⟩
  · have n1 : ¬ (n : Int) > 600 := by omega
    have q : ∀ W, Sem.run Tryd.prog (Op.equalIn 10000 24 (.agg #[.int .u64 (a : Int), .int .u64 (b : Int), .int .u64 (c : Int), .int .u64 (d : Int)]) (.agg #[.int .u64 0, .int .u64 0, .int .u64 0, .int .u64 0])) W = .ok true W := fun W => by
      have := sameZ ⟨a, b, c, d⟩ W
      rwa [decide_eq_true h2] at this
    obtain ⟨x1, x2, x3, x4⟩ := U1.cells
    simp only at x1 x2 x3 x4
    clear h1 h2 U1
    go_wp2
    go_ret
    exact ⟨rfl, hB⟩
theorem xjumpSteps (X : JX) (aw : Hid (∀ W, Tab W → Calls Tryd.prog 8 #[] W (Bl true W))) (s : St) (n : Nat) (hs : s.Ok) (w : World) (T : Tab w) : Calls Tryd.prog 4 #[s.val, .int .u16 (n : Int)] w (Bl true w) := by
  by_cases h1 : 600 < n
  · exact stepsNone aw s.a s.b s.c s.d n (.inl h1) w T
  · by_cases h0 : s = St.zero
    · exact stepsNone aw s.a s.b s.c s.d n (.inr ⟨by omega, h0⟩) w T
    · exact stepsSome X aw s.a s.b s.c s.d n hs h0 (by omega) w T
end Go.Proofs.YtemgoikghaiamaaDoor
