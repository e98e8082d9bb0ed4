/-
  What the calls New, full, Next, put, Goes, Add and Lay of package table do.
-/
import Derived.Test.YtlimfgmmbkgeeaaTbA
namespace Go.Proofs.Ytlimfgmmbkgeeaa
open Go.RowKit
set_option linter.unusedVariables false
set_option maxRecDepth 100000

theorem tNew (w : World) : Calls Try.prog 7 #[] w (fun e w' => ∃ p, e = .returned (.pointer (some ⟨p, 0, none⟩)) ∧ w.heap.size ≤ p ∧ At w' p (fun b => b = p) ⟨[], 0⟩ ∧ Below w.heap.size w w') := by
  go_enter Try.func7, Try.ntmps7
  go_wp2
  go_ret
  refine ⟨w.heap.size, rfl, Nat.le_refl _, ⟨⟨.slice none 0 0, .slice none 0 0, ⟨Blk.new w _ _, World.ownsRow_nil _ _ _ _, World.ownsRow_nil _ _ _ _, fun e => (by cases e), fun e => (by cases e), fun b e => (by cases e)⟩, rfl, fun b e => (by cases e), fun b e => (by cases e)⟩, fun b e => ?_, ok_new⟩, below_allocs _ _⟩
  subst e
  simp
theorem tFull {w : World} {p : Nat} {F : Nat → Prop} {t : Tb} (h : At w p F t) : Calls Try.prog 30 #[.pointer (some ⟨p, 0, none⟩)] w (fun e w' => e = .returned (.bool (decide (16 ≤ t.l.length))) ∧ w = w') := by
  obtain ⟨sh, sv, T, _⟩ := h.ex
  obtain ⟨A, cap, rfl, hc1, hc2⟩ := own_slice T.hs
  have c0 := T.blk.cell 0 _ rfl
  have e : t.h.length = t.l.length := t.h_len
  rw [e] at c0
  clear T h hc1 hc2 e
  generalize t.l.length = k at c0 ⊢
  go_enter Try.func30, Try.ntmps30
  go_wp2
  go_ret
  refine ⟨?_, rfl⟩
  show Ending.returned (.bool (decide ((16 : Int) ≤ (k : Int)))) = _
  rw [show decide ((16 : Int) ≤ (k : Int)) = decide (16 ≤ k) from decide_eq_decide.2 (by omega)]
theorem tNext {w : World} {p : Nat} {F : Nat → Prop} {t : Tb} (h : At w p F t) : Calls Try.prog 15 #[.pointer (some ⟨p, 0, none⟩)] w (fun e w' => e = .returned (.int .i64 t.n) ∧ w = w') := by
  obtain ⟨sh, sv, T, _⟩ := h.ex
  have c2 := T.blk.cell 2 _ rfl
  clear T h
  go_enter Try.func15, Try.ntmps15
  go_wp2
  go_ret
  exact ⟨rfl, rfl⟩
theorem tGoes {w : World} {p : Nat} {F : Nat → Prop} {t : Tb} (h : At w p F t) (x : Int) : Calls Try.prog 24 #[.pointer (some ⟨p, 0, none⟩), .int .i64 x] w (fun e w' => e = .returned (.int .i64 (goesE t x)) ∧ Post F w p (goesT t x) w') := by
  have ok := h.ok
  obtain ⟨sh, sv, M⟩ := h.mv
  have c2 := M.tg.blk.cell 2 _ rfl
  have f2 := M.tg.blk.free 2
  by_cases hx : x < t.n
  · have R : Hid (goesE t x = 1 ∧ Post F w p (goesT t x) w) := Lib.hid (by
      have e : goesE t x = 1 := if_pos (.inl hx)
      refine ⟨e, ?_⟩
      unfold goesT
      rw [e]
      exact M.post ok)
    clear M
    generalize t.n = n at hx c2
    go_enter Try.func24, Try.ntmps24
    go_wp2
    go_ret
    exact ⟨by rw [R.out.1]; rfl, R.out.2⟩
  · by_cases hy : 2147483647 < x
    · have R : Hid (goesE t x = 1 ∧ Post F w p (goesT t x) w) := Lib.hid (by
        have e : goesE t x = 1 := if_pos (.inr hy)
        refine ⟨e, ?_⟩
        unfold goesT
        rw [e]
        exact M.post ok)
      clear M
      generalize t.n = n at hx c2
      have hy' : x > 2147483647 := hy
      go_enter Try.func24, Try.ntmps24
      go_wp2
      go_ret
      exact ⟨by rw [R.out.1]; rfl, R.out.2⟩
    · have R : Hid (goesE t x = 0 ∧ Post F w p (goesT t x) (w.setCell ⟨p, 2, none⟩ (.int .i64 x))) := Lib.hid (by
        have e : goesE t x = 0 := if_neg (by omega)
        refine ⟨e, ?_⟩
        have k := ok.goes x
        unfold goesT at k ⊢
        rw [if_pos e] at k ⊢
        exact (M.setN x).post (t := ⟨t.l, x⟩) k)
      clear M
      generalize t.n = n at hx c2
      have hy' : ¬ x > 2147483647 := hy
      go_enter Try.func24, Try.ntmps24
      go_wp2
      go_ret
      exact ⟨by rw [R.out.1]; rfl, R.out.2⟩
set_option maxHeartbeats 1000000 in
theorem tPut {w : World} {p : Nat} {F : Nat → Prop} {t : Tb} (h : At w p F t) (x v : Int) (hl : t.l.length < 16) (h0 : t.n ≤ x) (h1 : x < 2147483647) :
    Calls Try.prog 31 #[.pointer (some ⟨p, 0, none⟩), .int .i64 x, .int .u64 v] w (fun e w' => e = .returned (.tuple #[]) ∧ Post F w p (putT t x v) w') := by
  have K := Lib.hid (h.ok.put hl h0 h1 (v := v))
  have eH : (putT t x v).h = t.h ++ [x] := put_h t x v
  have eV : (putT t x v).v = t.v ++ [v] := by simp [putT, Tb.v]
  have lH : t.h.length < 16 := by rw [t.h_len]; exact hl
  have lV : t.v.length < 16 := by simpa [Tb.v] using hl
  have hx : IntKind.i64.wrap (x + 1) = x + 1 := by have := h.ok.n0; rw [IntKind.wrap_i64]; omega
  have hx2 : RowKit.wrap64 (x + 1) = x + 1 := by have := h.ok.n0; unfold RowKit.wrap64; omega
  obtain ⟨sh, sv, M⟩ := h.mv
  obtain ⟨i0, hi, hz0, hz1, hz2⟩ := info_parts infoI
  obtain ⟨j0, hj, hy0, hy1, hy2⟩ := info_parts infoU
  have HI := Lib.hid hi
  have HZ0 := Lib.hid hz0
  have HZ1 := Lib.hid hz1
  have HZ2 := Lib.hid hz2
  have HJ := Lib.hid hj
  have HY0 := Lib.hid hy0
  have HY1 := Lib.hid hy1
  have HY2 := Lib.hid hy2
  have EE := Lib.hid (And.intro eH eV)
  clear hi hz0 hz1 hz2 hj hy0 hy1 hy2 h h0 h1 hl eH eV
  generalize t.h = hs at M lH EE
  generalize t.v = vs at M lV EE
  have d1 : hs.length + 1 ≤ maxLen := by unfold maxLen; omega
  have d2 : (hs.length + 1) * 8 ≤ 140737488355328 := by omega
  have d3 : vs.length + 1 ≤ maxLen := by unfold maxLen; omega
  have d4 : (vs.length + 1) * 8 ≤ 140737488355328 := by omega
  have M0 := Lib.hid (M.below (below_allocs w (.cells #[.int .i64 x] 3)))
  have c0 := M.tg.blk.cell 0 _ rfl
  have hat0 := below_allocs w (.cells #[.int .i64 x] 3)
  have c0' := M0.out.tg.blk.cell 0 _ rfl
  have N1 := Lib.hid (new1 w (.int .i64 x) 3)
  clear M hat0
  go_enter Try.func31, Try.ntmps31
  go_upto_region 1 with (at_builtin; refine wpList_append_lies _ rfl _ _ 44 rfl 0 3 i0 (.int .i64 0) 1 8 Try.underlying44 HI.out HZ0.out HZ1.out HZ2.out rfl (by decide) _ _ _ rfl M0.out.tg.hs ⟨w.heap.size, 0, none⟩ 1 1 [.int .i64 x] rfl rfl N1.out (by simp [Value.oneCell']) (by omega) d1 d2 (Nat.zero_le _) (w.heap.size + 1) (by simp) ?_; intro g cap w1 hown hgrow hat hlt; have k1 := Kept.grown (F := fun b => sh.ownBlock = some b) hgrow (fun b e => e); have M1 := Lib.hid (M0.out.setH (hs' := hs ++ [x]) k1 (by rw [List.length_append, List.map_append]; exact hown) (fun b e => by simp only [Value.ownBlock, Option.some.injEq] at e; subst e; exact hat.elim .inl (fun q => .inr (by rw [q]; simp)))); have c0 := M0.out.tg.blk.kept k1 M0.out.tg.n1; have f0 := c0.free 0; have c0 := c0.cell 0 _ rfl; clear M0 hown hgrow hat hlt k1)
  generalize w1.setCell _ _ = w2 at M1 ⊢
  have M2 := Lib.hid (M1.out.below (below_allocs w2 (.cells #[.int .u64 v] 26)))
  have N2 := Lib.hid (new1 w2 (.int .u64 v) 26)
  have c1 := M1.out.tg.blk.cell 1 _ rfl
  have c1' := M2.out.tg.blk.cell 1 _ rfl
  clear M1 c0 f0 c0' N1
  go_upto_region 2 with (at_builtin; refine wpList_append_lies _ rfl _ _ 53 rfl 0 26 j0 (.int .u64 0) 1 8 Try.underlying53 HJ.out HY0.out HY1.out HY2.out rfl (by decide) _ _ _ rfl M2.out.tg.vs ⟨w2.heap.size, 0, none⟩ 1 1 [.int .u64 v] rfl rfl N2.out (by simp [Value.oneCell']) (by omega) d3 d4 (Nat.zero_le _) (w2.heap.size + 1) (by simp) ?_; intro g2 cap2 w3 hown hgrow hat hlt; have k1 := Kept.grown (F := fun b => sv.ownBlock = some b) hgrow (fun b e => e); have M3 := Lib.hid (M2.out.setV (vs' := vs ++ [v]) k1 (by rw [List.length_append, List.map_append]; exact hown) (fun b e => by simp only [Value.ownBlock, Option.some.injEq] at e; subst e; exact hat.elim .inl (fun q => .inr (by rw [q]; simp)))); have c1 := M2.out.tg.blk.kept k1 M2.out.tg.n2; have f1 := c1.free 1; have c1 := c1.cell 1 _ rfl; clear M2 hown hgrow hat hlt k1)
  generalize w3.setCell _ _ = w4 at M3 ⊢
  have M4 := Lib.hid (M3.out.setN (x + 1))
  have c2 := M3.out.tg.blk.cell 2 _ rfl
  have f2 := M3.out.tg.blk.free 2
  clear M3 c1 f1 c1' N2
  have R : Hid (Post F w p (putT t x v) (w4.setCell ⟨p, 2, none⟩ (.int .i64 (x + 1)))) := Lib.hid (by
    have q := M4.out
    rw [← EE.out.1, ← EE.out.2] at q
    exact q.post (t := putT t x v) K.out)
  clear M4 EE
  go_wp2_with fail
  go_end0
  exact ⟨rfl, R.out⟩
set_option maxHeartbeats 1000000 in
theorem tAdd {w : World} {p : Nat} {F : Nat → Prop} {t : Tb} (h : At w p F t) (v : Int) :
    Calls Try.prog 21 #[.pointer (some ⟨p, 0, none⟩), .int .u64 v] w (fun e w' => e = .returned (.tuple #[.int .i64 (addN t), .int .i64 (addE t)]) ∧ Post F w p (addT t v) w') := by
  have ok := h.ok
  have FL := Lib.hid (tFull h)
  by_cases hl : 16 ≤ t.l.length
  · have R : Hid ((addN t = 0 ∧ addE t = 5) ∧ Post F w p (addT t v) w) := Lib.hid (by
      have e : addE t = 5 := if_pos hl
      unfold addN addT
      rw [e]
      obtain ⟨sh, sv, M⟩ := h.mv
      exact ⟨⟨rfl, rfl⟩, M.post ok⟩)
    obtain ⟨sh, sv, T, _⟩ := h.ex
    have c2 := T.blk.cell 2 _ rfl
    rw [decide_eq_true hl] at FL
    clear h T ok hl
    rw [R.out.1.1, R.out.1.2]
    generalize t.n = n at c2
    go_enter Try.func21, Try.ntmps21
    go_wp2_with fail
    refine FL.out.mono ?_
    rintro e V ⟨rfl, rfl⟩
    go_wp2_with fail
    go_returns
    exact ⟨rfl, R.out.2⟩
  · rw [decide_eq_false hl] at FL
    by_cases hn : 2147483647 ≤ t.n
    · have R : Hid ((addN t = 0 ∧ addE t = 10) ∧ Post F w p (addT t v) w) := Lib.hid (by
        have e : addE t = 10 := (if_neg hl).trans (if_pos hn)
        unfold addN addT
        rw [e]
        obtain ⟨sh, sv, M⟩ := h.mv
        exact ⟨⟨rfl, rfl⟩, M.post ok⟩)
      obtain ⟨sh, sv, T, _⟩ := h.ex
      have c2 := T.blk.cell 2 _ rfl
      clear h T ok hl
      rw [R.out.1.1, R.out.1.2]
      generalize t.n = n at c2 hn
      have hn' : n ≥ 2147483647 := hn
      go_enter Try.func21, Try.ntmps21
      go_wp2_with fail
      refine FL.out.mono ?_
      rintro e V ⟨rfl, rfl⟩
      go_wp2_with fail
      go_returns
      exact ⟨rfl, R.out.2⟩
    · have R : Hid (addN t = t.n ∧ addE t = 0) := Lib.hid (by
        have e : addE t = 0 := (if_neg hl).trans (if_neg hn)
        unfold addN
        rw [e]
        exact ⟨rfl, rfl⟩)
      have RT : Hid (addT t v = putT t t.n v) := Lib.hid (if_pos R.out.2)
      have P := Lib.hid (tPut h t.n v (by omega) (Int.le_refl _) (by omega))
      obtain ⟨sh, sv, T, _⟩ := h.ex
      have c2 := T.blk.cell 2 _ rfl
      clear h T ok hl
      rw [R.out.1, R.out.2, RT.out]
      clear RT R
      generalize t.n = n at c2 hn P ⊢
      have hn' : ¬ n ≥ 2147483647 := hn
      go_enter Try.func21, Try.ntmps21
      go_wp2_with fail
      refine FL.out.mono ?_
      rintro e V ⟨rfl, rfl⟩
      go_wp2_with fail
      refine P.out.mono ?_
      rintro e V ⟨rfl, X⟩
      have X := Lib.hid X
      clear c2
      go_wp2_with fail
      go_returns
      exact ⟨rfl, X.out⟩
set_option maxHeartbeats 1000000 in
theorem tLay {w : World} {p : Nat} {F : Nat → Prop} {t : Tb} (h : At w p F t) (x v : Int) :
    Calls Try.prog 23 #[.pointer (some ⟨p, 0, none⟩), .int .i64 x, .int .u64 v] w (fun e w' => e = .returned (.int .i64 (layE t x)) ∧ Post F w p (layT t x v) w') := by
  have ok := h.ok
  have FL := Lib.hid (tFull h)
  by_cases hl : 16 ≤ t.l.length
  · have R : Hid (layE t x = 5 ∧ Post F w p (layT t x v) w) := Lib.hid (by
      have e : layE t x = 5 := if_pos hl
      unfold layT
      rw [e]
      obtain ⟨sh, sv, M⟩ := h.mv
      exact ⟨rfl, M.post ok⟩)
    rw [decide_eq_true hl] at FL
    clear h ok hl
    rw [R.out.1]
    go_enter Try.func23, Try.ntmps23
    go_wp2_with fail
    refine FL.out.mono ?_
    rintro e V ⟨rfl, rfl⟩
    go_wp2_with fail
    go_ret
    exact ⟨rfl, R.out.2⟩
  · rw [decide_eq_false hl] at FL
    by_cases hn : x < t.n ∨ 2147483647 ≤ x
    · have R : Hid (layE t x = 1 ∧ Post F w p (layT t x v) w) := Lib.hid (by
        have e : layE t x = 1 := (if_neg hl).trans (if_pos hn)
        unfold layT
        rw [e]
        obtain ⟨sh, sv, M⟩ := h.mv
        exact ⟨rfl, M.post ok⟩)
      obtain ⟨sh, sv, T, _⟩ := h.ex
      have c2 := T.blk.cell 2 _ rfl
      clear h T ok hl
      rw [R.out.1]
      generalize t.n = n at c2 hn
      by_cases hx : x < n
      · go_enter Try.func23, Try.ntmps23
        go_wp2_with fail
        refine FL.out.mono ?_
        rintro e V ⟨rfl, rfl⟩
        go_wp2_with fail
        go_ret
        exact ⟨rfl, R.out.2⟩
      · have hx' : x ≥ 2147483647 := by omega
        go_enter Try.func23, Try.ntmps23
        go_wp2_with fail
        refine FL.out.mono ?_
        rintro e V ⟨rfl, rfl⟩
        go_wp2_with fail
        go_ret
        exact ⟨rfl, R.out.2⟩
    · have R : Hid (layE t x = 0) := Lib.hid ((if_neg hl).trans (if_neg hn))
      have RT : Hid (layT t x v = putT t x v) := Lib.hid (if_pos R.out)
      have P := Lib.hid (tPut h x v (by omega) (by omega) (by omega))
      obtain ⟨sh, sv, T, _⟩ := h.ex
      have c2 := T.blk.cell 2 _ rfl
      clear h T ok hl
      rw [R.out, RT.out]
      clear RT R
      generalize t.n = n at c2 hn
      have hx : ¬ x < n := by omega
      have hx' : ¬ x ≥ 2147483647 := by omega
      clear hn
      go_enter Try.func23, Try.ntmps23
      go_wp2_with fail
      refine FL.out.mono ?_
      rintro e V ⟨rfl, rfl⟩
      go_wp2_with fail
      refine P.out.mono ?_
      rintro e V ⟨rfl, X⟩
      have X := Lib.hid X
      clear c2
      go_wp2_with fail
      go_ret
      exact ⟨rfl, X.out⟩
end Go.Proofs.Ytlimfgmmbkgeeaa
