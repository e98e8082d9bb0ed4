/-
  What the calls Of, Add, Up and Mul of the reference of layer 2 answer.
-/
import Derived.Test.YtkfebhfbdhdibaaGfpTb
import Derived.Test.YtkfebhfbdhdibaaGfpK
import Derived.RegionTactic
namespace Go.Proofs.Ytkfebhfbdhdibaa
open Go.RowKit G
set_option linter.unusedVariables false

abbrev u64s (xs : List Nat) : List Value := xs.map fun x : Nat => Value.int .u64 (x : Int)
/-- A list of words that grows: a slice of the call's own. -/
structure GrowW (w : World) (v : Value) (xs : List Nat) (wr : World) : Prop where
  own : wr.ownsRow w.heap.size 45 1 v xs.length (u64s xs)
  wds : Wds xs
  below : Below w.heap.size w wr
theorem GrowW.start (w : World) : GrowW w (.slice (some ⟨w.heap.size, 0, none⟩) 0 0) [] (w.alloc (.cells #[] 45)) :=
  ⟨World.ownsRow_made w #[] 0 (Nat.le_refl _) (by decide) rfl, fun x hx => (by cases hx), below_alloc (Below.refl _ _) _⟩
theorem GrowW.far {w wr w' : World} {v : Value} {xs : List Nat} (h : GrowW w v xs wr) (hb : Below wr.heap.size wr w') : GrowW w v xs w' := ⟨owns_below h.own hb, h.wds, below_then h.below hb⟩
theorem GrowW.step {w wr w' : World} {v v' : Value} {xs ys : List Nat} (h : GrowW w v xs wr) (hy : Wds ys) (hown : w'.ownsRow w.heap.size 45 1 v' (xs.length + ys.length) (u64s xs ++ u64s ys)) (hg : wr.grownBy w' v.ownBlock) : GrowW w v' (xs ++ ys) w' :=
  ⟨by rw [List.length_append, u64s, List.map_append]; exact hown, fun x hx => by
    rcases List.mem_append.1 hx with hx | hx
    · exact h.wds x hx
    · exact hy x hx, h.below.grown hg h.below.size (fun j hj => (h.own.lt j hj).1)⟩
theorem sz_len (N k : Nat) : 64 * k < len N ↔ k < (wordsOf N).length := by
  show _ ↔ k < sz N
  by_cases h0 : N = 0
  · subst h0; rw [sz_zero, len_zero]; omega
  · obtain ⟨m, hm⟩ : ∃ m, sz N = m + 1 := ⟨sz N - 1, by have : 0 < sz N := by unfold sz; rw [wordsOf_pos h0]; simp
                                                        omega⟩
    obtain ⟨d1, d2, d3⟩ := deg_top (wordsOf N) N m (wds_wordsOf N) (leN_wordsOf N) hm
    have a := len_pos d1
    have b := len_word ((wds_wordsOf N).get m)
    rw [hm, d2]
    omega
theorem take_next (xs : List Nat) (k x : Nat) (hk : k < xs.length) (hx : xs.getD k 0 = x) : xs.take (k + 1) = xs.take k ++ [x] := by
  rw [List.take_succ_eq_append_getElem hk, ← hx]
  simp [List.getD_eq_getElem?_getD, List.getElem?_eq_getElem hk]
set_option maxHeartbeats 1000000 in
theorem ofWalk (A : Option Addr) (cap L N : Nat) (xs : List Nat) (hL : Hid (xs.length = L)) (hN : Hid (leB xs = N)) (hl : L ≤ 900000) (w : World) (H : Hid (Lst w A cap xs)) :
    Calls Try.prog 15 #[.slice A L cap] w (Ans N w) := by
  obtain ⟨i0, hi, hz0, hz1, hz2⟩ := info_parts infoW
  have HI := Lib.hid hi
  have HZ0 := Lib.hid hz0
  have HZ1 := Lib.hid hz1
  have HZ2 := Lib.hid hz2
  clear hi hz0 hz1 hz2
  have ll : len N ≤ L := by rw [← hN.out, ← hL.out]; exact len_le (leB_lt xs H.out.bit)
  go_enter Try.func15, Try.ntmps15
  go_wp2_with fail
  refine (rTrim N H.out hL.out hN.out (by omega)).mono ?_
  rintro e w1 ⟨A1, c1, rfl, l1, hb⟩
  have LN := Lib.hid (bitsOf_len N)
  obtain ⟨K, hK⟩ : ∃ K, (bitsOf N).length = K := ⟨_, rfl⟩
  rw [hK]
  have KN := Lib.hid (show K = len N from by rw [← hK]; exact LN.out)
  have bK : K ≤ 900000 := by have := KN.out; omega
  have HK := Lib.hid hK
  have HB := Lib.hid hb
  have HL1 := Lib.hid l1
  clear hK hb l1 LN ll
  go_wp2_with fail
  go_loopg [3, 4] (K + 64) (fun g v i wr => ∃ k p : Nat, p ≤ K + 63 ∧ p + g = K + 64 ∧ Hid (p = 64 * k) ∧ i = .int .i64 p ∧ k ≤ (wordsOf N).length ∧ Hid (GrowW w1 v ((wordsOf N).take k) wr))
  case atStart => exact ⟨0, 0, by omega, by omega, Lib.hid rfl, rfl, by omega, Lib.hid (GrowW.start w1)⟩
  case round =>
    obtain ⟨k, p, hp, hg, HP, rfl, hk, GR⟩ := hrel
    by_cases hlt : p < K
    · have pl : (p : Int) < (K : Int) := by omega
      have kw : k < (wordsOf N).length := (sz_len N k).1 (by rw [← HP.out, ← KN.out]; exact hlt)
      have W := wordWalk A1 c1 K p N (bitsOf N) HK (Lib.hid (leB_bitsOf N)) (by omega) (by omega) wr (Lib.hid (HL1.out.below GR.out.below))
      obtain ⟨x, hx⟩ : ∃ x, N / 2 ^ p % 18446744073709551616 = x := ⟨_, rfl⟩
      rw [hx] at W
      have xw : x < 18446744073709551616 := by omega
      have T := Lib.hid (take_next (wordsOf N) k x kw (by rw [wordsOf_get, ← HP.out]; exact hx))
      have HW := Lib.hid W
      have SZ := GR.out.below.size
      have LT := Lib.hid (show ((wordsOf N).take k).length = k from by rw [List.length_take]; omega)
      have kb : k ≤ 900000 := by have := HP.out; omega
      clear hx W
      go_wp2_with (first
        | (go_at_call 36; ((with_reducible refine (HW.out).mono ?_); rintro e w' ⟨rfl, rfl⟩))
        | (at_builtin; refine wpList_append_own _ rfl _ _ 22 rfl w1.heap.size 45 i0 (.int .u64 0) 1 8 Try.underlying22 HI.out HZ0.out HZ1.out HZ2.out rfl (by decide) _ _ _ rfl (GR.out.own.alloc _) ⟨wr.heap.size, 0, none⟩ 1 1 [.int .u64 (x : Int)] rfl rfl (new1 wr _ _) (by simp [Value.oneCell']) (by rw [LT.out]; unfold maxLen; omega) (by rw [LT.out]; omega) (by simp; omega) ?_; intro v' w2 hown hgrow _; have G2 := Lib.hid ((GR.out.far (w' := wr.alloc _) (below_alloc (Below.refl _ _) (.cells #[.int .u64 (x : Int)] 45))).step (ys := [x]) (fun y hy => by rw [List.mem_singleton.1 hy]; exact xw) hown hgrow); rw [← T.out] at G2; clear hown hgrow))
      go_roundg (gk - 64)
      case measure => omega
      case rel => exact ⟨k + 1, p + 64, by omega, by omega, Lib.hid (by have := HP.out; omega), by go_num, by omega, G2⟩
    · have pl : ¬ ((p : Int) < (K : Int)) := by omega
      have e : k = (wordsOf N).length := by
        have := (sz_len N k)
        rw [← HP.out, ← KN.out] at this
        omega
      have own := GR.out.own
      rw [e, List.take_length] at own
      obtain ⟨A2, c2, rfl, P2⟩ := Pol.of_owns (wds_wordsOf N) own
      have bl := Lib.hid (below_then HB.out GR.out.below)
      clear own e
      go_wp2
      go_ret
      exact ⟨A2, c2, rfl, P2, bl.out⟩
theorem rOf {A : Option Addr} {cap L : Nat} {xs : List Nat} {w : World} (N : Nat) (H : Lst w A cap xs) (hL : xs.length = L) (hN : leB xs = N) (hl : L ≤ 900000) :
    Calls Try.prog 15 #[.slice A L cap] w (Ans N w) := ofWalk A cap L N xs (Lib.hid hL) (Lib.hid hN) hl w (Lib.hid H)

set_option maxHeartbeats 1000000 in
theorem addWalkB (A B : Option Addr) (ca cb L K M N : Nat) (xs ys : List Nat) (hL : Hid (xs.length = L)) (hK : Hid (ys.length = K)) (hM : Hid (max L K = M)) (hN : Hid (leB xs ^^^ leB ys = N)) (hl : L ≤ 100000) (hk : K ≤ 100000) (w : World) (P : Hid (Lst w A ca xs)) (Q : Hid (Lst w B cb ys)) :
    Calls Try.prog 34 #[.slice A L ca, .slice B K cb] w (AnsB (bitsOf N) w) := by
  obtain ⟨i0, hi, hz0, hz1, hz2⟩ := info_parts infoI
  have HI := Lib.hid hi
  have HZ0 := Lib.hid hz0
  have HZ1 := Lib.hid hz1
  have HZ2 := Lib.hid hz2
  clear hi hz0 hz1 hz2
  have bM : M ≤ 100000 := by have := hM.out; omega
  go_enter Try.func34, Try.ntmps34
  go_wp2
  go_loopg [5, 6] M (fun g v i wr => ∃ (k : Nat) (ps : List Nat), k + g = M ∧ i = .int .i64 k ∧ Hid (ps.length = k) ∧ Hid (∀ i, i < k → ps.getD i 0 = (xs.getD i 0 + ys.getD i 0) % 2) ∧ Hid (Grow w v ps wr))
  case atStart => exact ⟨0, [], by omega, rfl, Lib.hid rfl, Lib.hid (fun i hi => by omega), Lib.hid (Grow.start w)⟩
  case round =>
    obtain ⟨k, ps, hk, rfl, hp, hq, GR⟩ := hrel
    by_cases hlt : k < M
    · have W1 := rAt k _ (P.out.below GR.out.below) hL.out rfl
      have W2 := rAt k _ (Q.out.below GR.out.below) hK.out rfl
      have bx := P.out.bit.get k
      have by' := Q.out.bit.get k
      have SZ := GR.out.below.size
      have NX := Lib.hid (show ∀ i, i < k + 1 → (ps ++ [(xs.getD k 0 + ys.getD k 0) % 2]).getD i 0 = (xs.getD i 0 + ys.getD i 0) % 2 from fun i hi => by
        by_cases e : i = k
        · subst e
          rw [List.getD_eq_getElem?_getD, List.getElem?_append_right (by rw [hp.out]; exact Nat.le_refl _), hp.out]; simp
        · rw [← hq.out i (by omega)]
          simp only [List.getD_eq_getElem?_getD]
          rw [List.getElem?_append_left (by rw [hp.out]; omega)])
      generalize xs.getD k 0 = x at W1 bx NX
      generalize ys.getD k 0 = y at W2 by' NX
      have HW1 := Lib.hid W1
      have HW2 := Lib.hid W2
      clear W1 W2
      have l1 : k < L ∨ ¬ k < L := by omega
      rcases l1 with l1 | l1
      · have l1' : (k : Int) < (L : Int) := by omega
        go_wp2_with (first
          | (go_at_call 45; ((with_reducible refine (HW1.out).mono ?_); rintro e w' ⟨rfl, rfl⟩))
          | (go_at_call 45; ((with_reducible refine (HW2.out).mono ?_); rintro e w' ⟨rfl, rfl⟩))
          | (at_builtin; refine wpList_append_own _ rfl _ _ 26 rfl w.heap.size 3 i0 (.int .i64 0) 1 8 Try.underlying26 HI.out HZ0.out HZ1.out HZ2.out rfl (by decide) _ _ _ rfl (GR.out.own.alloc _) ⟨wr.heap.size, 0, none⟩ 1 1 [.int .i64 (((x + y) % 2 : Nat) : Int)] rfl rfl (new1 wr _ _) (by simp [Value.oneCell']) (by rw [hp.out]; unfold maxLen; omega) (by rw [hp.out]; omega) (by simp; omega) ?_; intro v' w2 hown hgrow _; have G2 := Lib.hid ((GR.out.far (w' := wr.alloc _) (below_alloc (Below.refl _ _) (.cells #[.int .i64 (((x + y) % 2 : Nat) : Int)] 3))).step (ys := [(x + y) % 2]) (fun z hz => by rw [List.mem_singleton.1 hz]; omega) hown hgrow); clear hown hgrow))
        go_roundg (gk - 1)
        case measure => omega
        case rel => exact ⟨k + 1, _, by omega, by go_num, Lib.hid (by rw [List.length_append, hp.out]; rfl), NX, G2⟩
      · have l1' : ¬ ((k : Int) < (L : Int)) := by omega
        have l2' : (k : Int) < (K : Int) := by have := hM.out; omega
        go_wp2_with (first
          | (go_at_call 45; ((with_reducible refine (HW1.out).mono ?_); rintro e w' ⟨rfl, rfl⟩))
          | (go_at_call 45; ((with_reducible refine (HW2.out).mono ?_); rintro e w' ⟨rfl, rfl⟩))
          | (at_builtin; refine wpList_append_own _ rfl _ _ 26 rfl w.heap.size 3 i0 (.int .i64 0) 1 8 Try.underlying26 HI.out HZ0.out HZ1.out HZ2.out rfl (by decide) _ _ _ rfl (GR.out.own.alloc _) ⟨wr.heap.size, 0, none⟩ 1 1 [.int .i64 (((x + y) % 2 : Nat) : Int)] rfl rfl (new1 wr _ _) (by simp [Value.oneCell']) (by rw [hp.out]; unfold maxLen; omega) (by rw [hp.out]; omega) (by simp; omega) ?_; intro v' w2 hown hgrow _; have G2 := Lib.hid ((GR.out.far (w' := wr.alloc _) (below_alloc (Below.refl _ _) (.cells #[.int .i64 (((x + y) % 2 : Nat) : Int)] 3))).step (ys := [(x + y) % 2]) (fun z hz => by rw [List.mem_singleton.1 hz]; omega) hown hgrow); clear hown hgrow))
        go_roundg (gk - 1)
        case measure => omega
        case rel => exact ⟨k + 1, _, by omega, by go_num, Lib.hid (by rw [List.length_append, hp.out]; rfl), NX, G2⟩
    · have l1 : ¬ ((k : Int) < (L : Int)) := by have := hM.out; omega
      have l2 : ¬ ((k : Int) < (K : Int)) := by have := hM.out; omega
      have e : leB ps = N := by
        rw [← hN.out]
        refine leB_sum ps xs ys GR.out.bit P.out.bit Q.out.bit (fun i => ?_)
        by_cases hi : i < k
        · exact hq.out i hi
        · rw [List.getD_eq_getElem?_getD, List.getD_eq_getElem?_getD, List.getD_eq_getElem?_getD, List.getElem?_eq_none (by rw [hp.out]; omega), List.getElem?_eq_none (by rw [hL.out]; omega), List.getElem?_eq_none (by rw [hK.out]; omega)]; rfl
      obtain ⟨A', c', rfl, l⟩ := GR.out.lst
      have T := Lib.hid (rTrim N l rfl e (by rw [hp.out]; omega))
      clear e
      go_wp2_with (go_at_call 25; ((with_reducible refine (T.out).mono ?_); rintro e w1 ⟨A1, c1, rfl, ls, hb⟩))
      go_ret
      exact ⟨A1, c1, rfl, ls, below_then GR.out.below hb⟩
theorem rAdd {A B : Option Addr} {ca cb L K : Nat} {xs ys : List Nat} {w : World} (N : Nat) (P : Lst w A ca xs) (Q : Lst w B cb ys) (hL : xs.length = L) (hK : ys.length = K) (hN : leB xs ^^^ leB ys = N) (hl : L ≤ 100000) (hk : K ≤ 100000) :
    Calls Try.prog 34 #[.slice A L ca, .slice B K cb] w (AnsB (bitsOf N) w) :=
  addWalkB A B ca cb L K _ N xs ys (Lib.hid hL) (Lib.hid hK) (Lib.hid rfl) (Lib.hid hN) hl hk w (Lib.hid P) (Lib.hid Q)
end Go.Proofs.Ytkfebhfbdhdibaa
