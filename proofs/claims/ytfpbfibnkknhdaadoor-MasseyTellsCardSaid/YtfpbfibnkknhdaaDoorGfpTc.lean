/-
  What the calls Of, Add, Up and Mul of the reference of layer 2 answer.
-/
import Derived.Test.YtfpbfibnkknhdaaDoorGfpTb
import Derived.Test.YtfpbfibnkknhdaaDoorGfpK
import Derived.RegionTactic
namespace Go.Proofs.YtfpbfibnkknhdaaDoor
open Go.RowKit G
set_option linter.unusedVariables false

abbrev u64s (xs : List Nat) : List Value := xs.map fun x : Nat => Value.int .u64 (x : Int)
/-- A list of words that grows: a slice of the call's own. -/
structure GrowW (w : World) (v : Value) (xs : List Nat) (wr : World) : Prop where
  own : wr.ownsRow w.heap.size 50 1 v xs.length (u64s xs)
  wds : Wds xs
  below : Below w.heap.size w wr
theorem GrowW.start (w : World) : GrowW w (.slice (some ⟨w.heap.size, 0, none⟩) 0 0) [] (w.alloc (.cells #[] 50)) :=
  ⟨World.ownsRow_made w #[] 0 (Nat.le_refl _) (by decide) rfl, fun x hx => (by cases hx), below_alloc (Below.refl _ _) _⟩
theorem GrowW.far {w wr w' : World} {v : Value} {xs : List Nat} (h : GrowW w v xs wr) (hb : Below wr.heap.size wr w') : GrowW w v xs w' := ⟨owns_below h.own hb, h.wds, below_then h.below hb⟩
theorem GrowW.step {w wr w' : World} {v v' : Value} {xs ys : List Nat} (h : GrowW w v xs wr) (hy : Wds ys) (hown : w'.ownsRow w.heap.size 50 1 v' (xs.length + ys.length) (u64s xs ++ u64s ys)) (hg : wr.grownBy w' v.ownBlock) : GrowW w v' (xs ++ ys) w' :=
  ⟨by rw [List.length_append, u64s, List.map_append]; exact hown, fun x hx => by
    rcases List.mem_append.1 hx with hx | hx
    · exact h.wds x hx
    · exact hy x hx, h.below.grown hg h.below.size (fun j hj => (h.own.lt j hj).1)⟩
theorem sz_len (N k : Nat) : 64 * k < len N ↔ k < (wordsOf N).length := by
  show _ ↔ k < sz N
  by_cases h0 : N = 0
  · subst h0; rw [sz_zero, len_zero]; omega
  · obtain ⟨m, hm⟩ : ∃ m, sz N = m + 1 := ⟨sz N - 1, by have : 0 < sz N := by unfold sz; rw [wordsOf_pos h0]; simp
                                                        omega⟩
    obtain ⟨d1, d2, d3⟩ := deg_top (wordsOf N) N m (wds_wordsOf N) (leN_wordsOf N) hm
    have a := len_pos d1
    have b := len_word ((wds_wordsOf N).get m)
    rw [hm, d2]
    omega
theorem take_next (xs : List Nat) (k x : Nat) (hk : k < xs.length) (hx : xs.getD k 0 = x) : xs.take (k + 1) = xs.take k ++ [x] := by
  rw [List.take_succ_eq_append_getElem hk, ← hx]
  simp [List.getD_eq_getElem?_getD, List.getElem?_eq_getElem hk]
set_option maxHeartbeats 1000000 in
theorem ofWalk (A : Option Addr) (cap L N : Nat) (xs : List Nat) (hL : Hid (xs.length = L)) (hN : Hid (leB xs = N)) (hl : L ≤ 900000) (w : World) (H : Hid (Lst w A cap xs)) :
    Calls Tryd.prog 18 #[.slice A L cap] w (Ans N w) := by
  obtain ⟨i0, hi, hz0, hz1, hz2⟩ := info_parts infoW
  have HI := Lib.hid hi
  have HZ0 := Lib.hid hz0
  have HZ1 := Lib.hid hz1
  have HZ2 := Lib.hid hz2
  clear hi hz0 hz1 hz2
  have ll : len N ≤ L := by rw [← hN.out, ← hL.out]; exact len_le (leB_lt xs H.out.bit)
  go_enter Tryd.func18, Tryd.ntmps18
  go_wp2_with fail
  refine (rTrim N H.out hL.out hN.out (by omega)).mono ?_
  rintro e w1 ⟨A1, c1, rfl, l1, hb⟩
  have LN := Lib.hid (bitsOf_len N)
  obtain ⟨K, hK⟩ : ∃ K, (bitsOf N).length = K := ⟨_, rfl⟩
  rw [hK]
  have KN := Lib.hid (show K = len N from by rw [← hK]; exact LN.out)
  have bK : K ≤ 900000 := by have := KN.out; omega
  have HK := Lib.hid hK
  have HB := Lib.hid hb
  have HL1 := Lib.hid l1
  clear hK hb l1 LN ll
  go_wp2_with fail
  go_loopg [3, 4] (K + 64) (fun g v i wr => ∃ k p : Nat, p ≤ K + 63 ∧ p + g = K + 64 ∧ Hid (p = 64 * k) ∧ i = .int .i64 p ∧ k ≤ (wordsOf N).length ∧ Hid (GrowW w1 v ((wordsOf N).take k) wr))
  case atStart => exact ⟨0, 0, by omega, by omega, Lib.hid rfl, rfl, by omega, Lib.hid (GrowW.start w1)⟩
  case round =>
    obtain ⟨k, p, hp, hg, HP, rfl, hk, GR⟩ := hrel
    by_cases hlt : p < K
    · have pl : (p : Int) < (K : Int) := by omega
      have kw : k < (wordsOf N).length := (sz_len N k).1 (by rw [← HP.out, ← KN.out]; exact hlt)
      have W := wordWalk A1 c1 K p N (bitsOf N) HK (Lib.hid (leB_bitsOf N)) (by omega) (by omega) wr (Lib.hid (HL1.out.below GR.out.below))
      obtain ⟨x, hx⟩ : ∃ x, N / 2 ^ p % 18446744073709551616 = x := ⟨_, rfl⟩
      rw [hx] at W
      have xw : x < 18446744073709551616 := by omega
      have T := Lib.hid (take_next (wordsOf N) k x kw (by rw [wordsOf_get, ← HP.out]; exact hx))
      have HW := Lib.hid W
      have SZ := GR.out.below.size
      have LT := Lib.hid (show ((wordsOf N).take k).length = k from by rw [List.length_take]; omega)
      have kb : k ≤ 900000 := by have := HP.out; omega
      clear hx W
      go_wp2_with (first
        | (go_at_call 27; ((with_reducible refine (HW.out).mono ?_); rintro e w' ⟨rfl, rfl⟩))
        | (at_builtin; refine wpList_append_own _ rfl _ _ 22 rfl w1.heap.size 50 i0 (.int .u64 0) 1 8 Tryd.underlying22 HI.out HZ0.out HZ1.out HZ2.out rfl (by decide) _ _ _ rfl (GR.out.own.alloc _) ⟨wr.heap.size, 0, none⟩ 1 1 [.int .u64 (x : Int)] rfl rfl (new1 wr _ _) (by simp [Value.oneCell']) (by rw [LT.out]; unfold maxLen; omega) (by rw [LT.out]; omega) (by simp; omega) ?_; intro v' w2 hown hgrow _; have G2 := Lib.hid ((GR.out.far (w' := wr.alloc _) (below_alloc (Below.refl _ _) (.cells #[.int .u64 (x : Int)] 50))).step (ys := [x]) (fun y hy => by rw [List.mem_singleton.1 hy]; exact xw) hown hgrow); rw [← T.out] at G2; clear hown hgrow))
      go_roundg (gk - 64)
      case measure => omega
      case rel => exact ⟨k + 1, p + 64, by omega, by omega, Lib.hid (by have := HP.out; omega), by go_num, by omega, G2⟩
    · have pl : ¬ ((p : Int) < (K : Int)) := by omega
      have e : k = (wordsOf N).length := by
        have := (sz_len N k)
        rw [← HP.out, ← KN.out] at this
        omega
      have own := GR.out.own
      rw [e, List.take_length] at own
      obtain ⟨A2, c2, rfl, P2⟩ := Pol.of_owns (wds_wordsOf N) own
      have bl := Lib.hid (below_then HB.out GR.out.below)
      clear own e
      go_wp2
      go_ret
      exact ⟨A2, c2, rfl, P2, bl.out⟩
theorem rOf {A : Option Addr} {cap L : Nat} {xs : List Nat} {w : World} (N : Nat) (H : Lst w A cap xs) (hL : xs.length = L) (hN : leB xs = N) (hl : L ≤ 900000) :
    Calls Tryd.prog 18 #[.slice A L cap] w (Ans N w) := ofWalk A cap L N xs (Lib.hid hL) (Lib.hid hN) hl w (Lib.hid H)

end Go.Proofs.YtfpbfibnkknhdaaDoor
