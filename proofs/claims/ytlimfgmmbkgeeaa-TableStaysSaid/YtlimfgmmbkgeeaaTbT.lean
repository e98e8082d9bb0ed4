/-
  What the document's own table's Add, Handles and Drop answer.
-/
import Derived.Test.YtlimfgmmbkgeeaaTbS
namespace Go.Proofs.Ytlimfgmmbkgeeaa
open Go.RowKit
set_option linter.unusedVariables false
set_option maxRecDepth 100000

set_option maxHeartbeats 1000000 in
theorem rAdd {w : World} {p : Nat} {F : Nat → Prop} {t : Tb} (h : RT w p F t) (y : Int) :
    Calls Try.prog 9 #[.pointer (some ⟨p, 0, none⟩), .int .u64 y] w (fun e w' => e = .returned (.tuple #[.int .i64 (addN t), .int .i64 (addE t)]) ∧ RPost F w p (addT t y) w') := by
  have L := Lib.hid (rLay h t.n y)
  obtain ⟨v, B, o, n, f⟩ := h.ex
  obtain ⟨A, cap, rfl, hc1, hc2, _⟩ := rl_slice o
  have c0 := B.cell 0 _ rfl
  have c1 := B.cell 1 _ rfl
  by_cases hl : 16 ≤ t.l.length
  · have R : Hid ((addN t = 0 ∧ addE t = 5) ∧ RPost F w p (addT t y) w) := Lib.hid (by
      have e : addE t = 5 := if_pos hl
      unfold addN addT
      rw [e]
      exact ⟨⟨rfl, rfl⟩, RPost.same h (Below.refl _ _)⟩)
    clear h B o n f L
    rw [R.out.1.1, R.out.1.2]
    have hl' : (t.l.length : Int) ≥ 16 := by omega
    generalize t.l.length = k at *
    generalize t.n = m at *
    go_enter Try.func9, Try.ntmps9
    go_wp2
    go_returns
    exact ⟨rfl, R.out.2⟩
  · by_cases hn : 2147483647 ≤ t.n
    · have R : Hid ((addN t = 0 ∧ addE t = 10) ∧ RPost F w p (addT t y) w) := Lib.hid (by
        have e : addE t = 10 := (if_neg hl).trans (if_pos hn)
        unfold addN addT
        rw [e]
        exact ⟨⟨rfl, rfl⟩, RPost.same h (Below.refl _ _)⟩)
      clear h B o n f L
      rw [R.out.1.1, R.out.1.2]
      have hl' : ¬ ((t.l.length : Int) ≥ 16) := by omega
      generalize t.l.length = k at *
      generalize t.n = m at *
      have hn' : m ≥ 2147483647 := hn
      go_enter Try.func9, Try.ntmps9
      go_wp2
      go_returns
      exact ⟨rfl, R.out.2⟩
    · have e0 : addE t = 0 := (if_neg hl).trans (if_neg hn)
      have e1 : layE t t.n = 0 := (if_neg hl).trans (if_neg (by omega))
      have R : Hid ((addN t = t.n ∧ addE t = 0) ∧ addT t y = layT t t.n y) := Lib.hid ⟨⟨if_pos e0, e0⟩, (if_pos e0).trans (if_pos e1).symm⟩
      rw [e1] at L
      clear h B o n f e0 e1
      rw [R.out.1.1, R.out.1.2, R.out.2]
      clear R
      have hl' : ¬ ((t.l.length : Int) ≥ 16) := by omega
      have hn' : ¬ t.n ≥ 2147483647 := hn
      generalize layT t t.n y = t' at *
      generalize t.l.length = k at *
      generalize t.n = m at *
      go_enter Try.func9, Try.ntmps9
      go_wp2_with fail
      refine L.out.mono ?_
      rintro e V ⟨rfl, X⟩
      have X := Lib.hid X
      clear c0 c1
      go_wp2_with fail
      go_returns
      exact ⟨rfl, X.out⟩
theorem take_more {α : Type} (l : List α) (i : Nat) (d : α) (h : i < l.length) : l.take (i + 1) = l.take i ++ [l.getD i d] := by
  rw [List.take_add_one, List.getElem?_eq_getElem h, List.getD_eq_getElem?_getD, List.getElem?_eq_getElem h]
  rfl
set_option maxHeartbeats 2000000 in
theorem rHandles {w : World} {p : Nat} {F : Nat → Prop} {t : Tb} (h : RT w p F t) : Calls Try.prog 18 #[.pointer (some ⟨p, 0, none⟩)] w (AnsI t.h w) := by
  have hm := h.ok.many
  obtain ⟨v0, B, o, _⟩ := h.ex
  obtain ⟨A, cap, rfl, hc1, hc2, _⟩ := rl_slice o
  have H := Lib.hid (And.intro B o)
  have hp := B.lt
  have H0 := Lib.hid (World.ownsRow_made (base := w.heap.size) (e := 3) (size := 1) w #[] 0 (Nat.le_refl _) (by decide) rfl)
  have c0 := (B.below (below_allocs w (.cells #[] 3))).cell 0 _ rfl
  have eh : t.h = t.l.map Prod.fst := rfl
  obtain ⟨i0, hi, hz0, hz1, hz2⟩ := info_parts infoI
  have HI := Lib.hid hi
  have HZ0 := Lib.hid hz0
  have HZ1 := Lib.hid hz1
  have HZ2 := Lib.hid hz2
  clear hi hz0 hz1 hz2 B o h
  rw [eh]
  clear eh
  generalize t.l = l at *
  generalize t.n = n at *
  go_enter Try.func18, Try.ntmps18
  go_wp2_with fail
  go_loopg [3, 4] l.length (fun g v iv wr => ∃ i : Nat, i + g = l.length ∧ iv = .int .i64 i ∧ Hid (IL w.heap.size wr v ((l.take i).map Prod.fst)) ∧ Hid (Below w.heap.size w wr))
  case atStart => exact ⟨0, by omega, rfl, H0, Lib.hid (below_allocs _ _)⟩
  case round =>
    clear c0 H0
    obtain ⟨i, hi, rfl, O, BW⟩ := hrel
    have c0 := (H.out.1.below BW.out).cell 0 _ rfl
    have sw := BW.out.size
    by_cases hlt : i < l.length
    · have hlt' : (i : Int) < l.length := by omega
      obtain ⟨A', cap', e', _, _, HC⟩ := rl_slice (rl_below H.out.2 BW.out)
      simp only [Value.slice.injEq, true_and] at e'
      obtain ⟨rfl, rfl⟩ := e'
      obtain ⟨g, rfl, _, d0, d1⟩ := HC i hlt
      have tm := take_more l i (0, 0) hlt
      have TM : Hid ((l.take (i + 1)).map Prod.fst = (l.take i).map Prod.fst ++ [(l.getD i (0, 0)).1]) := Lib.hid (by rw [tm, List.map_append]; rfl)
      have kl : ((l.take i).map Prod.fst).length ≤ 16 := by simp; omega
      clear HC tm
      have O2 : Hid (∀ (v' : Value) (w2 : World), w2.ownsRow w.heap.size 3 1 v' (((l.take i).map Prod.fst).length + 1) (((l.take i).map Prod.fst).map (Value.int .i64) ++ [.int .i64 (l.getD i (0, 0)).1]) → IL w.heap.size w2 v' ((l.take (i + 1)).map Prod.fst)) := Lib.hid (fun v' w2 ho => by
        rw [TM.out]
        show w2.ownsRow _ _ 1 v' (_ ++ [_]).length ((_ ++ [_]).map _)
        rw [List.length_append, List.map_append]; exact ho)
      clear TM
      generalize hL2 : (l.take (i + 1)).map Prod.fst = l2 at O2
      have HL2 := Lib.hid hL2
      clear hL2
      generalize (l.take i).map Prod.fst = l1 at *
      generalize (l.getD i (0, 0)).1 = y at *
      generalize (l.getD i (0, 0)).2 = y2 at *
      have N1 := Lib.hid (new1 wr (.int .i64 y) 3)
      have q1 : l1.length + 1 ≤ maxLen := by unfold maxLen; omega
      have q2 : (l1.length + 1) * 8 ≤ 140737488355328 := by omega
      go_wp2_with (at_builtin; refine wpList_append_own _ rfl _ _ 44 rfl w.heap.size 3 i0 (.int .i64 0) 1 8 Try.underlying44 HI.out HZ0.out HZ1.out HZ2.out rfl (by decide) _ _ _ rfl (O.out.alloc _) ⟨wr.heap.size, 0, none⟩ 1 1 [.int .i64 y] rfl rfl N1.out (by simp [Value.oneCell']) q1 q2 (by simp; omega) ?_; intro v' w2 hown hgrow _; have O3 := Lib.hid (O2.out _ _ hown); have B3 := Lib.hid ((below_then BW.out (below_allocs wr _)).grown hgrow (Nat.le_trans sw (by simp)) (fun j hj => (O.out.lt j hj).1)); clear hown hgrow)
      go_roundg (gk - 1)
      case measure => omega
      case rel => exact ⟨i + 1, by omega, by go_num, by rw [HL2.out]; exact O3, B3⟩
    · obtain rfl : i = l.length := by omega
      rw [List.take_length] at O
      go_wp2
      go_ret
      exact ⟨_, rfl, O.out, BW.out⟩
/-- The rows whose handle is another one. -/
abbrev keep (x : Int) (l : List (Int × Int)) : List (Int × Int) := l.filter (fun y => y.1 != x)
theorem keep_more (x : Int) (l : List (Int × Int)) (i : Nat) (h : i < l.length) : ((l.getD i (0, 0)).1 = x → keep x (l.take (i + 1)) = keep x (l.take i)) ∧ ((l.getD i (0, 0)).1 ≠ x → keep x (l.take (i + 1)) = keep x (l.take i) ++ [l.getD i (0, 0)]) := by
  unfold keep
  rw [take_more l i (0, 0) h, List.filter_append]
  refine ⟨fun e => ?_, fun e => ?_⟩
  · rw [List.filter_cons_of_neg (by rw [e]; simp), List.filter_nil, List.append_nil]
  · rw [List.filter_cons_of_pos (by simpa using e), List.filter_nil]
theorem keep_less (x : Int) (l : List (Int × Int)) : decide ((keep x l).length < l.length) = (l.map Prod.fst).contains x := by
  rw [Bool.eq_iff_iff, decide_eq_true_iff, List.contains_iff_mem, List.mem_map, List.length_filter_lt_length_iff_exists]
  constructor
  · rintro ⟨y, hy, e⟩
    exact ⟨y, hy, by simpa using e⟩
  · rintro ⟨y, hy, e⟩
    exact ⟨y, hy, by simpa using e⟩
set_option maxHeartbeats 4000000 in
theorem rDrop {w : World} {p : Nat} {F : Nat → Prop} {t : Tb} (h : RT w p F t) (x : Int) :
    Calls Try.prog 10 #[.pointer (some ⟨p, 0, none⟩), .int .i64 x] w (fun e w' => e = .returned (.bool (hasT t x)) ∧ RPost F w p (dropT t x) w') := by
  have hm := h.ok.many
  have K := Lib.hid (h.ok.drop x)
  obtain ⟨v0, B, o, _⟩ := h.ex
  obtain ⟨A, cap, rfl, hc1, hc2, _⟩ := rl_slice o
  have H := Lib.hid (And.intro B (And.intro o h))
  have hp := B.lt
  have H0 := Lib.hid (World.ownsRow_made (base := w.heap.size) (e := 57) (size := 2) w #[] 0 (Nat.le_refl _) (by decide) rfl)
  have c0 := (B.below (below_allocs w (.cells #[] 57))).cell 0 _ rfl
  have eh : hasT t x = (t.l.map Prod.fst).contains x := rfl
  have ED : Hid ((dropT t x).l = keep x t.l ∧ (dropT t x).n = t.n) := Lib.hid ⟨rfl, rfl⟩
  have LB := Lib.hid (keep_less x t.l)
  have LK := Lib.hid (keep_more x t.l)
  obtain ⟨i0, hi, hz0, hz1, hz2⟩ := info_parts infoR
  have HI := Lib.hid hi
  have HZ0 := Lib.hid hz0
  have HZ1 := Lib.hid hz1
  have HZ2 := Lib.hid hz2
  clear hi hz0 hz1 hz2 B o h
  rw [eh, ← LB.out]
  clear eh LB
  generalize dropT t x = t' at *
  generalize hL : t.l = l at *
  generalize t.n = n at *
  have HL := Lib.hid hL
  clear hL
  go_enter Try.func10, Try.ntmps10
  go_wp2_with fail
  go_loopg [5, 6] l.length (fun g v iv wr => ∃ i : Nat, i + g = l.length ∧ iv = .int .i64 i ∧ Hid (RL w.heap.size wr v (keep x (l.take i))) ∧ Hid (Below w.heap.size w wr))
  case atStart => exact ⟨0, by omega, rfl, H0, Lib.hid (below_allocs _ _)⟩
  case round =>
    clear c0 H0
    obtain ⟨i, hi, rfl, O, BW⟩ := hrel
    have c0 := (H.out.1.below BW.out).cell 0 _ rfl
    have sw := BW.out.size
    by_cases hlt : i < l.length
    · have hlt' : (i : Int) < l.length := by omega
      obtain ⟨A', cap', e', _, _, HC⟩ := rl_slice (rl_below H.out.2.1 BW.out)
      simp only [Value.slice.injEq, true_and] at e'
      obtain ⟨rfl, rfl⟩ := e'
      obtain ⟨g, rfl, _, d0, d1⟩ := HC i hlt
      obtain ⟨k1, k2⟩ := LK.out i hlt
      have kl : (keep x (l.take i)).length ≤ 16 := Nat.le_trans (List.length_filter_le _ _) (by simp; omega)
      by_cases he : (l.getD i (0, 0)).1 = x
      · have O2 : Hid (RL w.heap.size wr u5 (keep x (l.take (i + 1)))) := Lib.hid (by rw [k1 he]; exact O.out)
        clear k1 k2 HC kl O
        generalize (l.getD i (0, 0)).1 = y at d0 he
        go_wp2_with fail
        go_roundg (gk - 1)
        case measure => omega
        case rel => exact ⟨i + 1, by omega, by go_num, O2, BW⟩
      · have O2 : Hid (∀ (v' : Value) (w2 : World), w2.ownsRow w.heap.size 57 2 v' ((keep x (l.take i)).length + 1) (encs (keep x (l.take i)) ++ [.int .i64 (l.getD i (0, 0)).1, .int .u64 (l.getD i (0, 0)).2]) → RL w.heap.size w2 v' (keep x (l.take (i + 1)))) := Lib.hid (fun v' w2 ho => by
          rw [k2 he]
          show w2.ownsRow _ _ 2 v' (_ ++ [_]).length (encs (_ ++ [_]))
          rw [List.length_append, encs_append]; exact ho)
        clear k1 k2 HC
        generalize hL2 : keep x (l.take (i + 1)) = l2 at O2
        have HL2 := Lib.hid hL2
        clear hL2
        generalize keep x (l.take i) = l1 at *
        generalize (l.getD i (0, 0)).1 = y at *
        generalize (l.getD i (0, 0)).2 = y2 at *
        have N1 := Lib.hid (new2 wr (.int .i64 y) (.int .u64 y2) 57)
        have q1 : l1.length + 1 ≤ maxLen := by unfold maxLen; omega
        have q2 : (l1.length + 1) * 16 ≤ 140737488355328 := by omega
        go_wp2_with (at_builtin; refine wpList_append_own _ rfl _ _ 28 rfl w.heap.size 57 i0 _ 2 16 Try.underlying28 HI.out HZ0.out HZ1.out HZ2.out rfl (by decide) _ _ _ rfl (O.out.alloc _) ⟨wr.heap.size, 0, none⟩ 1 1 [.int .i64 y, .int .u64 y2] rfl rfl N1.out (by simp [Value.oneCell']) q1 q2 (by simp; omega) ?_; intro v' w2 hown hgrow _; have O3 := Lib.hid (O2.out _ _ hown); have B3 := Lib.hid ((below_then BW.out (below_allocs wr _)).grown hgrow (Nat.le_trans sw (by simp)) (fun j hj => (O.out.lt j hj).1)); clear hown hgrow)
        go_roundg (gk - 1)
        case measure => omega
        case rel => exact ⟨i + 1, by omega, by go_num, by rw [HL2.out]; exact O3, B3⟩
    · obtain rfl : i = l.length := by omega
      rw [List.take_length] at O
      have O1 := Lib.hid (owns_base (base' := 0) O.out (fun _ _ => Nat.zero_le _))
      obtain ⟨A2, cap2, rfl, _, _, _⟩ := rl_slice O.out
      have f0 := (H.out.1.below BW.out).free 0
      have R : Hid (RPost F w p t' (wr.setCell ⟨p, 0, none⟩ (.slice A2 (keep x l).length cap2))) := Lib.hid (by
        have B1 := (H.out.1.below BW.out).set 0 (.slice A2 (keep x l).length cap2)
        refine RPost.make H.out.2.2 BW.out (v := .slice A2 (keep x l).length cap2) (by rw [ED.out.1]; exact O1.out) (fun b e => .inr (O.out.lt b e).1) (fun e => ?_) K.out ((Kept.refl (fun b => b = p) wr).set (a := ⟨p, 0, none⟩) (.inl rfl) _) ?_
        · have := (O.out.lt p e).1; omega
        · rw [ED.out.2]; exact B1)
      clear O O1 ED LK
      have EK : Hid (decide (((keep x l).length : Int) < (l.length : Int)) = decide ((keep x l).length < l.length)) := Lib.hid (decide_eq_decide.2 (by omega))
      generalize hk : ((keep x l).length : Int) = k at *
      go_wp2
      go_ret
      exact ⟨by rw [← EK.out]; rfl, R.out⟩
end Go.Proofs.Ytlimfgmmbkgeeaa
