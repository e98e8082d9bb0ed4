/-
  What the document's own table's Handles, Lay, Add and Drop answer.
-/
import Derived.Test.YtlimfgmmbkgeeaaTbR
namespace Go.Proofs.Ytlimfgmmbkgeeaa
open Go.RowKit
set_option linter.unusedVariables false
set_option maxRecDepth 100000

theorem none_rows (v : Value) (n c base : Nat) (xs : List Value) (w : World) (hown : w.ownsRow base 57 2 v n xs) : (Builtin.append_ #[28, 28] 28 #[v, .slice none 0 c]).run Try.prog w = .ok v w := by
  obtain ⟨i0, hi, hz0, hz1, hz2⟩ := info_parts infoR
  rcases hown.2 with ⟨rfl, rfl⟩ | ⟨g, cap, cur, rfl, _, _, hnc, _⟩
  · simp [Builtin.append_, run_underlying Try.underlying28, sizeOf, typeInfo, hi, Builtin.lenOf, Builtin.firstCells]
  · simp [Builtin.append_, run_underlying Try.underlying28, sizeOf, typeInfo, hi, Builtin.lenOf, Builtin.firstCells, hnc, storeCells]
/-- A list of rows, nil or not, is appended to a list of the call's own. -/
theorem wpList_rows {ops : Array Oper} {rest : List Oper} {o : Oper} {a : Act} {Q : Exit → Act → World → Prop} {w : World} (hgd : o.guard = none) (s x : Operand)
    (ho : o.op = .call { callee := .builtin .append, args := #[s, x], argTypes := #[28, 28] }) (hty : o.type = 28) (v u : Value) (base : Nat) (l : List (Int × Int)) (hs : a.eval s = v) (hx : a.eval x = u) (hown : w.ownsRow base 57 2 v 0 []) (hu : RL 0 w u l)
    (hn : l.length ≤ 1000) (hbase : base ≤ w.heap.size) (h : ∀ v' w', w'.ownsRow base 57 2 v' l.length (encs l) → w.grownBy w' v.ownBlock → wpList Try.prog ops Q rest (a.put o.dst v') w') : wpList Try.prog ops Q (o :: rest) a w := by
  obtain ⟨i0, hi, hz0, hz1, hz2⟩ := info_parts infoR
  rcases hu.2 with ⟨rfl, h0⟩ | ⟨g, cap, cur, rfl, _⟩
  · have e : l = [] := List.eq_nil_of_length_eq_zero h0
    subst e
    refine wpList_plain hgd fun _ hK => ?_
    have hrun := none_rows v 0 0 base [] w hown
    unfold Oper.wp execOp
    simp only [ho, hty, resolve, invoke, builtin, Sem.run_bind, Sem.run_pure, Result.andThen_ok, List.map_toArray, List.map_cons, List.map_nil, hs, hx, hrun]
    exact hK _ _ (h v w hown ⟨rfl, rfl, rfl, Nat.le_refl _, fun _ _ _ => rfl⟩)
  · refine wpList_append_own w hgd s x 28 ho base 57 i0 _ 2 16 Try.underlying28 hi hz0 hz1 hz2 rfl (by decide) v 0 [] hs hown ⟨g, 0, none⟩ l.length cap (encs l) hx (encs_length l) (hu.cells rfl) (encs_one l) (by unfold maxLen; omega) (by omega) hbase fun v' w' h1 h2 _ => h v' w' (by rw [Nat.zero_add, List.nil_append] at h1; exact h1) h2
theorem new2 (w : World) (u v : Value) (t : TypeId) : ∀ (j : Nat) (y : Value), [u, v][j]? = some y → (w.alloc (.cells #[u, v] t)).cell? ((⟨w.heap.size, 0, none⟩ : Addr).add j) = some y := by
  intro j y hy
  match j, hy with
  | 0, hy =>
    simp only [List.getElem?_cons_zero, Option.some.injEq] at hy
    subst hy
    rw [Addr.add_lit]
    exact (Blk.new w #[u, v] t).cell 0 u rfl
  | 1, hy =>
    simp only [List.getElem?_cons_succ, List.getElem?_cons_zero, Option.some.injEq] at hy
    subst hy
    rw [Addr.add_lit]
    exact (Blk.new w #[u, v] t).cell 1 v rfl
set_option maxHeartbeats 2000000 in
theorem rLay {w : World} {p : Nat} {F : Nat → Prop} {t : Tb} (h : RT w p F t) (x y : Int) :
    Calls Try.prog 11 #[.pointer (some ⟨p, 0, none⟩), .int .i64 x, .int .u64 y] w (fun e w' => e = .returned (.int .i64 (layE t x)) ∧ RPost F w p (layT t x y) w') := by
  have ok := h.ok
  obtain ⟨v, B, o, n, f⟩ := h.ex
  obtain ⟨A, cap, rfl, hc1, hc2, _⟩ := rl_slice o
  have c0 := B.cell 0 _ rfl
  have c1 := B.cell 1 _ rfl
  by_cases hl : 16 ≤ t.l.length
  · have R : Hid (layE t x = 5 ∧ RPost F w p (layT t x y) w) := Lib.hid (by
      have e : layE t x = 5 := if_pos hl
      unfold layT
      rw [e]
      exact ⟨rfl, RPost.same h (Below.refl _ _)⟩)
    clear h B o n f ok
    rw [R.out.1]
    have hl' : (t.l.length : Int) ≥ 16 := by omega
    generalize t.l.length = k at *
    generalize t.n = m at *
    go_enter Try.func11, Try.ntmps11
    go_wp2
    go_ret
    exact ⟨rfl, R.out.2⟩
  · by_cases hn : x < t.n ∨ 2147483647 ≤ x
    · have R : Hid (layE t x = 1 ∧ RPost F w p (layT t x y) w) := Lib.hid (by
        have e : layE t x = 1 := (if_neg hl).trans (if_pos hn)
        unfold layT
        rw [e]
        exact ⟨rfl, RPost.same h (Below.refl _ _)⟩)
      clear h B o n f ok
      rw [R.out.1]
      have hl' : ¬ ((t.l.length : Int) ≥ 16) := by omega
      generalize t.l.length = k at *
      generalize t.n = m at *
      by_cases hx : x < m
      · go_enter Try.func11, Try.ntmps11
        go_wp2
        go_ret
        exact ⟨rfl, R.out.2⟩
      · have hx' : x ≥ 2147483647 := by omega
        go_enter Try.func11, Try.ntmps11
        go_wp2
        go_ret
        exact ⟨rfl, R.out.2⟩
    · have e0 : layE t x = 0 := (if_neg hl).trans (if_neg hn)
      have R : Hid (layE t x = 0) := Lib.hid e0
      have RT0 : Hid (layT t x y = putT t x y) := Lib.hid (if_pos e0)
      have n0 := ok.n0
      have K := Lib.hid (ok.put (h := x) (v := y) (by omega) (by omega) (by omega))
      rw [R.out, RT0.out]
      have hl' : ¬ ((t.l.length : Int) ≥ 16) := by omega
      have hx : ¬ x < t.n := by omega
      have hx' : ¬ x ≥ 2147483647 := by omega
      have hw : IntKind.i64.wrap (x + 1) = x + 1 := by rw [IntKind.wrap_i64]; omega
      have hw2 : RowKit.wrap64 (x + 1) = x + 1 := by unfold RowKit.wrap64; omega
      have H := Lib.hid (And.intro h (And.intro B (And.intro o (And.intro n f))))
      have hp := B.lt
      have H0 := Lib.hid (World.ownsRow_made (base := w.heap.size) (e := 57) (size := 2) w #[] 0 (Nat.le_refl _) (by decide) rfl)
      have OL := Lib.hid (rl_below o (below_allocs w (.cells #[] 57)))
      have s0 : w.heap.size ≤ (w.alloc (.cells #[] 57)).heap.size := by simp
      have ll : t.l.length ≤ 1000 := by omega
      obtain ⟨i0, hi, hz0, hz1, hz2⟩ := info_parts infoR
      have HI := Lib.hid hi
      have HZ0 := Lib.hid hz0
      have HZ1 := Lib.hid hz1
      have HZ2 := Lib.hid hz2
      have d1 : t.l.length + 1 ≤ maxLen := by unfold maxLen; omega
      have d2 : (t.l.length + 1) * 16 ≤ 140737488355328 := by omega
      clear h B o n f ok hl hn e0 R RT0 n0 hi hz0 hz1 hz2
      go_enter Try.func11, Try.ntmps11
      go_upto_region 6 with (first
        | (at_builtin; refine wpList_rows rfl _ _ rfl rfl (.slice (some ⟨w.heap.size, 0, none⟩) 0 0) _ w.heap.size t.l rfl rfl H0.out OL.out ll s0 ?_; intro v1 w1 hown hgrow; have B1 := Lib.hid ((below_allocs w (.cells #[] 57)).grown hgrow s0 (fun j hj => by simp only [Value.ownBlock, Option.some.injEq] at hj; omega)); have O1 := Lib.hid hown; have s1 := B1.out.size; have N1 := Lib.hid (new2 w1 (.int .i64 x) (.int .u64 y) 57); clear hown hgrow OL H0)
        | (at_builtin; refine wpList_append_lies _ rfl _ _ 28 rfl w.heap.size 57 i0 _ 2 16 Try.underlying28 HI.out HZ0.out HZ1.out HZ2.out rfl (by decide) _ _ _ rfl (O1.out.alloc _) ⟨w1.heap.size, 0, none⟩ 1 1 [.int .i64 x, .int .u64 y] rfl rfl N1.out (by simp [Value.oneCell']) (by omega) d1 d2 (by simp; omega) (w1.heap.size + 1) (by simp) ?_; intro g cap2 w2 hown hgrow hat hlt; have B2 := Lib.hid ((below_then B1.out ((below_allocs w1 (.cells #[.int .i64 x, .int .u64 y] 57)).mono (Nat.le_refl _))).grown hgrow (Nat.le_trans s1 (by simp)) (fun j hj => (O1.out.lt j hj).1)); have O2 := Lib.hid hown; have c0 := (H.out.2.1.below B2.out).cell 0 _ rfl; have f0 := (H.out.2.1.below B2.out).free 0; clear hown hgrow hat hlt O1 N1))
      have B3 := (H.out.2.1.below B2.out).set 0 (.slice (some ⟨g, 0, none⟩) (t.l.length + 1) cap2)
      have k3 := (Kept.refl (fun b => b = p) w2).set (a := ⟨p, 0, none⟩) (.inl rfl) (.slice (some ⟨g, 0, none⟩) (t.l.length + 1) cap2)
      have hg : g ≠ p := fun e => by have := (O2.out.lt g rfl).1; omega
      have e4 : (putT t x y).l = t.l ++ [(x, y)] := rfl
      have R : Hid (∀ w4, w4 = (w2.setCell ⟨p, 0, none⟩ (.slice (some ⟨g, 0, none⟩) (t.l.length + 1) cap2)).setCell ⟨p, 1, none⟩ (.int .i64 (x + 1)) → RPost F w p (putT t x y) w4) := Lib.hid (fun w4 e => by
        subst e
        have o2 := O2.out
        refine RPost.make H.out.1 B2.out (v := .slice (some ⟨g, 0, none⟩) (t.l.length + 1) cap2) ?_ (fun b e => ?_) (fun e => ?_) K.out (k3.set (a := ⟨p, 1, none⟩) (.inl rfl) _) (B3.set 1 _)
        · rw [e4]
          refine owns_base ?_ (base := w.heap.size) (fun b e => Nat.zero_le _)
          rw [encs_append, List.length_append]
          exact o2
        · exact .inr (o2.lt b e).1
        · simp only [Value.ownBlock, Option.some.injEq] at e; exact hg e)
      have c1 := B3.cell 1 _ rfl
      have f1 := B3.free 1
      clear B3 k3 c0 f0 O2 hg e4
      generalize World.setCell w2 _ _ = w3 at *
      go_wp2_with fail
      go_ret
      exact ⟨rfl, R.out _ rfl⟩
end Go.Proofs.Ytlimfgmmbkgeeaa
