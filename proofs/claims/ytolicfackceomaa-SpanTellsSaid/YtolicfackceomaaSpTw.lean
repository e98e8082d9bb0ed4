/-
  What Twice of the reference of layer 15 answers.
-/
import Derived.Test.YtolicfackceomaaSpTm
import Derived.Test.YtolicfackceomaaSpS
import Derived.Test.YtolicfackceomaaSpQ
namespace Go.Proofs.Ytolicfackceomaa
open Go.RowKit
set_option linter.unusedVariables false
set_option maxRecDepth 100000

theorem count_ahead (l : List Sp) (i k : Nat) (s : Sp) (hk : k < l.length) : ((l.take i).take (k + 1)).count s = ((l.take i).take k).count s + if k < i ∧ l.getD k default = s then 1 else 0 := by
  by_cases h : k < i
  · have e : ∀ j, j ≤ i → (l.take i).take j = l.take j := fun j hj => by rw [List.take_take, Nat.min_eq_left hj]
    rw [e (k + 1) h, e k (Nat.le_of_lt h), take_succ_getD l k hk, List.count_append, List.count_singleton]
    simp [h]
  · have e : ∀ j, i ≤ j → (l.take i).take j = l.take i := fun j hj => by rw [List.take_take, Nat.min_eq_right hj]
    rw [e (k + 1) (by omega), e k (by omega), if_neg (fun c => h c.1), Nat.add_zero]
theorem count_behind (l : List Sp) (i k : Nat) (s : Sp) (hk : k < l.length) : ((l.take (k + 1)).drop (i + 1)).count s = ((l.take k).drop (i + 1)).count s + if i < k ∧ l.getD k default = s then 1 else 0 := by
  rw [take_succ_getD l k hk, List.drop_append, List.count_append]
  have ln : (l.take k).length = k := by rw [List.length_take]; omega
  rw [ln]
  by_cases h : i < k
  · rw [show i + 1 - k = 0 from by omega, List.drop_zero, List.count_singleton]
    simp [h]
  · have e : ([l.getD k default] : List Sp).drop (i + 1 - k) = [] := List.drop_eq_nil_of_le (by simp; omega)
    rw [if_neg (fun c => h c.1), e]; rfl
theorem twB_yes (X l : List Sp) (i : Nat) (hi : i < l.length) (h1 : (l.take i).count (l.getD i default) = 0) (h2 : 0 < (l.drop (i + 1)).count (l.getD i default)) : X ++ twB (l.take i) (l.drop i) = (X ++ [l.getD i default]) ++ twB (l.take (i + 1)) (l.drop (i + 1)) := by
  rw [drop_getD' l i hi, twB_cons, if_pos ⟨h1, h2⟩, take_succ_getD l i hi, List.append_assoc]; rfl
theorem twB_no (l : List Sp) (i : Nat) (hi : i < l.length) (h : ¬ ((l.take i).count (l.getD i default) = 0 ∧ 0 < (l.drop (i + 1)).count (l.getD i default))) : twB (l.take i) (l.drop i) = twB (l.take (i + 1)) (l.drop (i + 1)) := by
  rw [drop_getD' l i hi, twB_cons, if_neg h, take_succ_getD l i hi]
set_option maxHeartbeats 16000000 in
theorem rTwice (A : Option Addr) (cap : Nat) (l : List Sp) (w : World) (h : SL w A cap l) (hn : l.length ≤ 1000) :
    Calls Try.prog 26 #[.slice A l.length cap] w (AnsL (tw (cntL l) l) w) := by
  obtain ⟨i0, hi, hz0, hz1, hz2⟩ := info_parts infoR
  have HI := Lib.hid hi
  have HZ0 := Lib.hid hz0
  have HZ1 := Lib.hid hz1
  have HZ2 := Lib.hid hz2
  have H := Lib.hid h
  have hcap1 := h.cap1
  have hcap2 := h.cap2
  clear hi hz0 hz1 hz2 h
  rw [tw_is]
  obtain ⟨R, hR⟩ : ∃ R, twB [] l = R := ⟨_, rfl⟩
  have HR := Lib.hid hR
  rw [hR]
  clear hR
  go_enter Try.func26, Try.ntmps26
  go_wp2_with fail
  go_loopg [3, 4] l.length (fun g v iv wr => ∃ (i : Nat) (X : List Sp), i + g = l.length ∧ iv = .int .i64 i ∧ X.length ≤ i ∧ Hid (R = X ++ twB (l.take i) (l.drop i)) ∧ Hid (Grow 34 w.heap.size w v X wr))
  case atStart => exact ⟨0, [], by omega, rfl, Nat.le_refl _, Lib.hid (by rw [List.drop_zero, List.take_zero]; exact HR.out.symm), Lib.hid (grow_start _ w)⟩
  case round =>
    obtain ⟨i, X, hi, rfl, hX, T, G⟩ := hrel
    by_cases hlt : i < l.length
    · have hlt' : (i : Int) < l.length := by omega
      obtain ⟨s, hs⟩ : ∃ s, l.getD i default = s := ⟨_, rfl⟩
      have ES := Lib.hid hs
      clear hs
      have G0 := G
      clear G
      go_wp2_with fail
      go_loopg [5, 6, 7] l.length (fun g av bv kv wr => ∃ k : Nat, k + g = l.length ∧ av = .int .i64 ((((l.take i).take k).count s : Nat) : Int) ∧ bv = .int .i64 ((((l.take k).drop (i + 1)).count s : Nat) : Int) ∧ kv = .int .i64 k ∧ Hid (Grow 34 w.heap.size w u3 X wr))
      case atStart => exact ⟨0, by omega, by simp, by simp, rfl, G0⟩
      case round =>
        clear G0
        obtain ⟨k, hk, rfl, rfl, rfl, G⟩ := hrel
        by_cases hkl : k < l.length
        · have hkl' : (k : Int) < l.length := by omega
          obtain ⟨b, o, p, q, r, t, rfl, hl, HS, c0, c1, c2, c3⟩ := (H.out.below G.out.below).at4 hlt
          obtain ⟨b', o', p', q', r', t', e', hl2, HS', d0, d1, d2, d3⟩ := (H.out.below G.out.below).at4 hkl
          obtain ⟨rfl, rfl⟩ : b = b' ∧ o = o' := by simpa using e'
          rw [ES.out] at HS
          have eq := fun w => eqRS p' q' r' t' p q r t w
          rw [ws_same HS'.out HS.out] at eq
          have EA := Lib.hid (count_ahead l i k s hkl)
          have EB := Lib.hid (count_behind l i k s hkl)
          have ba : ((l.take i).take k).count s ≤ 1000 := Nat.le_trans List.count_le_length (by rw [List.length_take, List.length_take]; omega)
          have bb : ((l.take k).drop (i + 1)).count s ≤ 1000 := Nat.le_trans List.count_le_length (by rw [List.length_drop, List.length_take]; omega)
          generalize ((l.take i).take k).count s = a1 at EA ba ⊢
          generalize ((l.take k).drop (i + 1)).count s = b1 at EB bb ⊢
          clear e' hl2 HS HS'
          by_cases hd : l.getD k default = s
          · rw [decide_eq_true hd] at eq
            by_cases h1 : k < i
            · have h1' : (k : Int) < (i : Int) := by omega
              have h2' : ¬ (i : Int) < (k : Int) := by omega
              go_wp2_with fail
              refine wp_region_class (fun w' => Below wr.heap.size wr w') (by kernel_rfl) (by kernel_rfl) (Below.refl _ _).drew ?_
              iterate 14
                (refine WQ.yes ?_ (by kernel_rfl) (fun w' hC => ?_) ?_
                 rotate_left
                 · (have x0 := (hC.cell (p := ⟨b, o + k * 4, none⟩) hl).trans d0
                    have x1 := (hC.cell (p := ⟨b, o + k * 4 + 1, none⟩) hl).trans d1
                    have x2 := (hC.cell (p := ⟨b, o + k * 4 + 2, none⟩) hl).trans d2
                    have x3 := (hC.cell (p := ⟨b, o + k * 4 + 3, none⟩) hl).trans d3
                    have y0 := (hC.cell (p := ⟨b, o + i * 4, none⟩) hl).trans c0
                    have y1 := (hC.cell (p := ⟨b, o + i * 4 + 1, none⟩) hl).trans c1
                    have y2 := (hC.cell (p := ⟨b, o + i * 4 + 2, none⟩) hl).trans c2
                    have y3 := (hC.cell (p := ⟨b, o + i * 4 + 3, none⟩) hl).trans c3
                    go_simp
                    first | done | with_reducible rfl | exact ⟨rfl, rfl⟩)
                 (try simp only [Act.put, List.setIfInBounds_toArray, List.set_cons_zero, List.set_cons_succ]))
              refine WQ.nil ?_
              intro wz hX
              replace c0 := (hX.cell (p := ⟨b, o + i * 4, none⟩) hl).trans c0
              replace c1 := (hX.cell (p := ⟨b, o + i * 4 + 1, none⟩) hl).trans c1
              replace c2 := (hX.cell (p := ⟨b, o + i * 4 + 2, none⟩) hl).trans c2
              replace c3 := (hX.cell (p := ⟨b, o + i * 4 + 3, none⟩) hl).trans c3
              replace d0 := (hX.cell (p := ⟨b, o + k * 4, none⟩) hl).trans d0
              replace d1 := (hX.cell (p := ⟨b, o + k * 4 + 1, none⟩) hl).trans d1
              replace d2 := (hX.cell (p := ⟨b, o + k * 4 + 2, none⟩) hl).trans d2
              replace d3 := (hX.cell (p := ⟨b, o + k * 4 + 3, none⟩) hl).trans d3
              replace G := Lib.hid (G.out.far hX)
              replace hl := Nat.lt_of_lt_of_le hl hX.size
              clear hX
              go_wp2_with fail
              refine wp_region_class (fun w' => Below wz.heap.size wz w') (by kernel_rfl) (by kernel_rfl) (Below.refl _ _).drew ?_
              iterate 14
                (refine WQ.yes ?_ (by kernel_rfl) (fun w' hC => ?_) ?_
                 rotate_left
                 · (have x0 := (hC.cell (p := ⟨b, o + k * 4, none⟩) hl).trans d0
                    have x1 := (hC.cell (p := ⟨b, o + k * 4 + 1, none⟩) hl).trans d1
                    have x2 := (hC.cell (p := ⟨b, o + k * 4 + 2, none⟩) hl).trans d2
                    have x3 := (hC.cell (p := ⟨b, o + k * 4 + 3, none⟩) hl).trans d3
                    have y0 := (hC.cell (p := ⟨b, o + i * 4, none⟩) hl).trans c0
                    have y1 := (hC.cell (p := ⟨b, o + i * 4 + 1, none⟩) hl).trans c1
                    have y2 := (hC.cell (p := ⟨b, o + i * 4 + 2, none⟩) hl).trans c2
                    have y3 := (hC.cell (p := ⟨b, o + i * 4 + 3, none⟩) hl).trans c3
                    go_simp
                    first | done | with_reducible rfl | exact ⟨rfl, rfl⟩)
                 (try simp only [Act.put, List.setIfInBounds_toArray, List.set_cons_zero, List.set_cons_succ]))
              refine WQ.nil ?_
              intro wy hX
              replace G := Lib.hid (G.out.far hX)
              clear hX c0 c1 c2 c3 d0 d1 d2 d3 hl
              go_wp2
              go_roundg (gk - 1)
              case measure => omega
              case rel => exact ⟨k + 1, by omega, by rw [EA.out]; rw [if_pos ⟨h1, hd⟩]; go_num, by rw [EB.out]; rw [if_neg (fun c => absurd c.1 (by omega))]; rfl, by go_num, G⟩
            · have h1' : ¬ (k : Int) < (i : Int) := by omega
              by_cases h2 : i < k
              · have h2' : (i : Int) < (k : Int) := by omega
                go_wp2_with fail
                refine wp_region_class (fun w' => Below wr.heap.size wr w') (by kernel_rfl) (by kernel_rfl) (Below.refl _ _).drew ?_
                iterate 14
                  (refine WQ.yes ?_ (by kernel_rfl) (fun w' hC => ?_) ?_
                   rotate_left
                   · (have x0 := (hC.cell (p := ⟨b, o + k * 4, none⟩) hl).trans d0
                      have x1 := (hC.cell (p := ⟨b, o + k * 4 + 1, none⟩) hl).trans d1
                      have x2 := (hC.cell (p := ⟨b, o + k * 4 + 2, none⟩) hl).trans d2
                      have x3 := (hC.cell (p := ⟨b, o + k * 4 + 3, none⟩) hl).trans d3
                      have y0 := (hC.cell (p := ⟨b, o + i * 4, none⟩) hl).trans c0
                      have y1 := (hC.cell (p := ⟨b, o + i * 4 + 1, none⟩) hl).trans c1
                      have y2 := (hC.cell (p := ⟨b, o + i * 4 + 2, none⟩) hl).trans c2
                      have y3 := (hC.cell (p := ⟨b, o + i * 4 + 3, none⟩) hl).trans c3
                      go_simp
                      first | done | with_reducible rfl | exact ⟨rfl, rfl⟩)
                   (try simp only [Act.put, List.setIfInBounds_toArray, List.set_cons_zero, List.set_cons_succ]))
                refine WQ.nil ?_
                intro wz hX
                replace c0 := (hX.cell (p := ⟨b, o + i * 4, none⟩) hl).trans c0
                replace c1 := (hX.cell (p := ⟨b, o + i * 4 + 1, none⟩) hl).trans c1
                replace c2 := (hX.cell (p := ⟨b, o + i * 4 + 2, none⟩) hl).trans c2
                replace c3 := (hX.cell (p := ⟨b, o + i * 4 + 3, none⟩) hl).trans c3
                replace d0 := (hX.cell (p := ⟨b, o + k * 4, none⟩) hl).trans d0
                replace d1 := (hX.cell (p := ⟨b, o + k * 4 + 1, none⟩) hl).trans d1
                replace d2 := (hX.cell (p := ⟨b, o + k * 4 + 2, none⟩) hl).trans d2
                replace d3 := (hX.cell (p := ⟨b, o + k * 4 + 3, none⟩) hl).trans d3
                replace G := Lib.hid (G.out.far hX)
                replace hl := Nat.lt_of_lt_of_le hl hX.size
                clear hX
                go_wp2_with fail
                refine wp_region_class (fun w' => Below wz.heap.size wz w') (by kernel_rfl) (by kernel_rfl) (Below.refl _ _).drew ?_
                iterate 14
                  (refine WQ.yes ?_ (by kernel_rfl) (fun w' hC => ?_) ?_
                   rotate_left
                   · (have x0 := (hC.cell (p := ⟨b, o + k * 4, none⟩) hl).trans d0
                      have x1 := (hC.cell (p := ⟨b, o + k * 4 + 1, none⟩) hl).trans d1
                      have x2 := (hC.cell (p := ⟨b, o + k * 4 + 2, none⟩) hl).trans d2
                      have x3 := (hC.cell (p := ⟨b, o + k * 4 + 3, none⟩) hl).trans d3
                      have y0 := (hC.cell (p := ⟨b, o + i * 4, none⟩) hl).trans c0
                      have y1 := (hC.cell (p := ⟨b, o + i * 4 + 1, none⟩) hl).trans c1
                      have y2 := (hC.cell (p := ⟨b, o + i * 4 + 2, none⟩) hl).trans c2
                      have y3 := (hC.cell (p := ⟨b, o + i * 4 + 3, none⟩) hl).trans c3
                      go_simp
                      first | done | with_reducible rfl | exact ⟨rfl, rfl⟩)
                   (try simp only [Act.put, List.setIfInBounds_toArray, List.set_cons_zero, List.set_cons_succ]))
                refine WQ.nil ?_
                intro wy hX
                replace G := Lib.hid (G.out.far hX)
                clear hX c0 c1 c2 c3 d0 d1 d2 d3 hl
                go_wp2
                go_roundg (gk - 1)
                case measure => omega
                case rel => exact ⟨k + 1, by omega, by rw [EA.out]; rw [if_neg (fun c => h1 c.1)]; rfl, by rw [EB.out]; rw [if_pos ⟨h2, hd⟩]; go_num, by go_num, G⟩
              · have h2' : ¬ (i : Int) < (k : Int) := by omega
                go_wp2_with fail
                refine wp_region_class (fun w' => Below wr.heap.size wr w') (by kernel_rfl) (by kernel_rfl) (Below.refl _ _).drew ?_
                iterate 14
                  (refine WQ.yes ?_ (by kernel_rfl) (fun w' hC => ?_) ?_
                   rotate_left
                   · (have x0 := (hC.cell (p := ⟨b, o + k * 4, none⟩) hl).trans d0
                      have x1 := (hC.cell (p := ⟨b, o + k * 4 + 1, none⟩) hl).trans d1
                      have x2 := (hC.cell (p := ⟨b, o + k * 4 + 2, none⟩) hl).trans d2
                      have x3 := (hC.cell (p := ⟨b, o + k * 4 + 3, none⟩) hl).trans d3
                      have y0 := (hC.cell (p := ⟨b, o + i * 4, none⟩) hl).trans c0
                      have y1 := (hC.cell (p := ⟨b, o + i * 4 + 1, none⟩) hl).trans c1
                      have y2 := (hC.cell (p := ⟨b, o + i * 4 + 2, none⟩) hl).trans c2
                      have y3 := (hC.cell (p := ⟨b, o + i * 4 + 3, none⟩) hl).trans c3
                      go_simp
                      first | done | with_reducible rfl | exact ⟨rfl, rfl⟩)
                   (try simp only [Act.put, List.setIfInBounds_toArray, List.set_cons_zero, List.set_cons_succ]))
                refine WQ.nil ?_
                intro wz hX
                replace c0 := (hX.cell (p := ⟨b, o + i * 4, none⟩) hl).trans c0
                replace c1 := (hX.cell (p := ⟨b, o + i * 4 + 1, none⟩) hl).trans c1
                replace c2 := (hX.cell (p := ⟨b, o + i * 4 + 2, none⟩) hl).trans c2
                replace c3 := (hX.cell (p := ⟨b, o + i * 4 + 3, none⟩) hl).trans c3
                replace d0 := (hX.cell (p := ⟨b, o + k * 4, none⟩) hl).trans d0
                replace d1 := (hX.cell (p := ⟨b, o + k * 4 + 1, none⟩) hl).trans d1
                replace d2 := (hX.cell (p := ⟨b, o + k * 4 + 2, none⟩) hl).trans d2
                replace d3 := (hX.cell (p := ⟨b, o + k * 4 + 3, none⟩) hl).trans d3
                replace G := Lib.hid (G.out.far hX)
                replace hl := Nat.lt_of_lt_of_le hl hX.size
                clear hX
                go_wp2_with fail
                refine wp_region_class (fun w' => Below wz.heap.size wz w') (by kernel_rfl) (by kernel_rfl) (Below.refl _ _).drew ?_
                iterate 14
                  (refine WQ.yes ?_ (by kernel_rfl) (fun w' hC => ?_) ?_
                   rotate_left
                   · (have x0 := (hC.cell (p := ⟨b, o + k * 4, none⟩) hl).trans d0
                      have x1 := (hC.cell (p := ⟨b, o + k * 4 + 1, none⟩) hl).trans d1
                      have x2 := (hC.cell (p := ⟨b, o + k * 4 + 2, none⟩) hl).trans d2
                      have x3 := (hC.cell (p := ⟨b, o + k * 4 + 3, none⟩) hl).trans d3
                      have y0 := (hC.cell (p := ⟨b, o + i * 4, none⟩) hl).trans c0
                      have y1 := (hC.cell (p := ⟨b, o + i * 4 + 1, none⟩) hl).trans c1
                      have y2 := (hC.cell (p := ⟨b, o + i * 4 + 2, none⟩) hl).trans c2
                      have y3 := (hC.cell (p := ⟨b, o + i * 4 + 3, none⟩) hl).trans c3
                      go_simp
                      first | done | with_reducible rfl | exact ⟨rfl, rfl⟩)
                   (try simp only [Act.put, List.setIfInBounds_toArray, List.set_cons_zero, List.set_cons_succ]))
                refine WQ.nil ?_
                intro wy hX
                replace G := Lib.hid (G.out.far hX)
                clear hX c0 c1 c2 c3 d0 d1 d2 d3 hl
                go_wp2
                go_roundg (gk - 1)
                case measure => omega
                case rel => exact ⟨k + 1, by omega, by rw [EA.out]; rw [if_neg (fun c => h1 c.1)]; rfl, by rw [EB.out]; rw [if_neg (fun c => h2 c.1)]; rfl, by go_num, G⟩
          · rw [decide_eq_false hd] at eq
            go_wp2_with fail
            refine wp_region_class (fun w' => Below wr.heap.size wr w') (by kernel_rfl) (by kernel_rfl) (Below.refl _ _).drew ?_
            iterate 10
              (refine WQ.yes ?_ (by kernel_rfl) (fun w' hC => ?_) ?_
               rotate_left
               · (have x0 := (hC.cell (p := ⟨b, o + k * 4, none⟩) hl).trans d0
                  have x1 := (hC.cell (p := ⟨b, o + k * 4 + 1, none⟩) hl).trans d1
                  have x2 := (hC.cell (p := ⟨b, o + k * 4 + 2, none⟩) hl).trans d2
                  have x3 := (hC.cell (p := ⟨b, o + k * 4 + 3, none⟩) hl).trans d3
                  have y0 := (hC.cell (p := ⟨b, o + i * 4, none⟩) hl).trans c0
                  have y1 := (hC.cell (p := ⟨b, o + i * 4 + 1, none⟩) hl).trans c1
                  have y2 := (hC.cell (p := ⟨b, o + i * 4 + 2, none⟩) hl).trans c2
                  have y3 := (hC.cell (p := ⟨b, o + i * 4 + 3, none⟩) hl).trans c3
                  go_simp
                  first | done | with_reducible rfl | exact ⟨rfl, rfl⟩)
               (try simp only [Act.put, List.setIfInBounds_toArray, List.set_cons_zero, List.set_cons_succ]))
            iterate 3
              (refine WQ.no (by kernel_rfl) ?_; (try simp only [Act.put, List.setIfInBounds_toArray, List.set_cons_zero, List.set_cons_succ]))
            (refine WQ.yes ?_ (by kernel_rfl) (fun w' hC => ?_) ?_
             rotate_left
             · (have x0 := (hC.cell (p := ⟨b, o + k * 4, none⟩) hl).trans d0
                have x1 := (hC.cell (p := ⟨b, o + k * 4 + 1, none⟩) hl).trans d1
                have x2 := (hC.cell (p := ⟨b, o + k * 4 + 2, none⟩) hl).trans d2
                have x3 := (hC.cell (p := ⟨b, o + k * 4 + 3, none⟩) hl).trans d3
                have y0 := (hC.cell (p := ⟨b, o + i * 4, none⟩) hl).trans c0
                have y1 := (hC.cell (p := ⟨b, o + i * 4 + 1, none⟩) hl).trans c1
                have y2 := (hC.cell (p := ⟨b, o + i * 4 + 2, none⟩) hl).trans c2
                have y3 := (hC.cell (p := ⟨b, o + i * 4 + 3, none⟩) hl).trans c3
                go_simp
                first | done | with_reducible rfl | exact ⟨rfl, rfl⟩)
             (try simp only [Act.put, List.setIfInBounds_toArray, List.set_cons_zero, List.set_cons_succ]))
            refine WQ.nil ?_
            intro wz hX
            replace c0 := (hX.cell (p := ⟨b, o + i * 4, none⟩) hl).trans c0
            replace c1 := (hX.cell (p := ⟨b, o + i * 4 + 1, none⟩) hl).trans c1
            replace c2 := (hX.cell (p := ⟨b, o + i * 4 + 2, none⟩) hl).trans c2
            replace c3 := (hX.cell (p := ⟨b, o + i * 4 + 3, none⟩) hl).trans c3
            replace d0 := (hX.cell (p := ⟨b, o + k * 4, none⟩) hl).trans d0
            replace d1 := (hX.cell (p := ⟨b, o + k * 4 + 1, none⟩) hl).trans d1
            replace d2 := (hX.cell (p := ⟨b, o + k * 4 + 2, none⟩) hl).trans d2
            replace d3 := (hX.cell (p := ⟨b, o + k * 4 + 3, none⟩) hl).trans d3
            replace G := Lib.hid (G.out.far hX)
            replace hl := Nat.lt_of_lt_of_le hl hX.size
            clear hX
            go_wp2_with fail
            refine wp_region_class (fun w' => Below wz.heap.size wz w') (by kernel_rfl) (by kernel_rfl) (Below.refl _ _).drew ?_
            iterate 10
              (refine WQ.yes ?_ (by kernel_rfl) (fun w' hC => ?_) ?_
               rotate_left
               · (have x0 := (hC.cell (p := ⟨b, o + k * 4, none⟩) hl).trans d0
                  have x1 := (hC.cell (p := ⟨b, o + k * 4 + 1, none⟩) hl).trans d1
                  have x2 := (hC.cell (p := ⟨b, o + k * 4 + 2, none⟩) hl).trans d2
                  have x3 := (hC.cell (p := ⟨b, o + k * 4 + 3, none⟩) hl).trans d3
                  have y0 := (hC.cell (p := ⟨b, o + i * 4, none⟩) hl).trans c0
                  have y1 := (hC.cell (p := ⟨b, o + i * 4 + 1, none⟩) hl).trans c1
                  have y2 := (hC.cell (p := ⟨b, o + i * 4 + 2, none⟩) hl).trans c2
                  have y3 := (hC.cell (p := ⟨b, o + i * 4 + 3, none⟩) hl).trans c3
                  go_simp
                  first | done | with_reducible rfl | exact ⟨rfl, rfl⟩)
               (try simp only [Act.put, List.setIfInBounds_toArray, List.set_cons_zero, List.set_cons_succ]))
            iterate 3
              (refine WQ.no (by kernel_rfl) ?_; (try simp only [Act.put, List.setIfInBounds_toArray, List.set_cons_zero, List.set_cons_succ]))
            (refine WQ.yes ?_ (by kernel_rfl) (fun w' hC => ?_) ?_
             rotate_left
             · (have x0 := (hC.cell (p := ⟨b, o + k * 4, none⟩) hl).trans d0
                have x1 := (hC.cell (p := ⟨b, o + k * 4 + 1, none⟩) hl).trans d1
                have x2 := (hC.cell (p := ⟨b, o + k * 4 + 2, none⟩) hl).trans d2
                have x3 := (hC.cell (p := ⟨b, o + k * 4 + 3, none⟩) hl).trans d3
                have y0 := (hC.cell (p := ⟨b, o + i * 4, none⟩) hl).trans c0
                have y1 := (hC.cell (p := ⟨b, o + i * 4 + 1, none⟩) hl).trans c1
                have y2 := (hC.cell (p := ⟨b, o + i * 4 + 2, none⟩) hl).trans c2
                have y3 := (hC.cell (p := ⟨b, o + i * 4 + 3, none⟩) hl).trans c3
                go_simp
                first | done | with_reducible rfl | exact ⟨rfl, rfl⟩)
             (try simp only [Act.put, List.setIfInBounds_toArray, List.set_cons_zero, List.set_cons_succ]))
            refine WQ.nil ?_
            intro wy hX
            replace G := Lib.hid (G.out.far hX)
            clear hX c0 c1 c2 c3 d0 d1 d2 d3 hl
            go_wp2
            go_roundg (gk - 1)
            case measure => omega
            case rel => exact ⟨k + 1, by omega, by rw [EA.out]; rw [if_neg (fun c => hd c.2)]; rfl, by rw [EB.out]; rw [if_neg (fun c => hd c.2)]; rfl, by go_num, G⟩
        · obtain rfl : k = l.length := by omega
          have ea : (l.take i).take l.length = l.take i := List.take_of_length_le (by rw [List.length_take]; omega)
          rw [ea, List.take_length]
          have ba : (l.take i).count s ≤ 1000 := Nat.le_trans List.count_le_length (by rw [List.length_take]; omega)
          have bb : (l.drop (i + 1)).count s ≤ 1000 := Nat.le_trans List.count_le_length (by rw [List.length_drop]; omega)
          by_cases c : (l.take i).count s = 0 ∧ 0 < (l.drop (i + 1)).count s
          · obtain ⟨b, o, p, q, r, t, rfl, hl, HS, c0, c1, c2, c3⟩ := (H.out.below G.out.below).at4 hlt
            rw [ES.out] at HS
            have T2 : Hid (R = (X ++ [s]) ++ twB (l.take (i + 1)) (l.drop (i + 1))) := Lib.hid (by have := twB_yes X l i hlt (by rw [ES.out]; exact c.1) (by rw [ES.out]; exact c.2); rw [ES.out] at this; exact T.out.trans this)
            have k1 : (((l.take i).count s : Nat) : Int) = 0 := by omega
            have k2 : (0 : Int) < (((l.drop (i + 1)).count s : Nat) : Int) := by omega
            clear T c ba bb hkl
            generalize (l.take i).count s = a1 at k1 ⊢
            generalize (l.drop (i + 1)).count s = b1 at k2 ⊢
            have sz := G.out.below.size
            have hmax : l.length < 4294967296 := by omega
            go_wp2_with (at_builtin; refine wpList_append_own _ rfl _ _ 50 rfl w.heap.size 34 i0 (.agg #[.int .u64 0, .int .u64 0, .int .u64 0, .int .u64 0]) 4 32 Try.underlying50 HI.out HZ0.out HZ1.out HZ2.out rfl (by decide) _ _ _ rfl (G.out.own.alloc _) ⟨wr.heap.size, 0, none⟩ 1 1 (encs [s]) rfl rfl ?c1 ?c2 ?c3 ?c4 ?c5 ?_)
            case c1 => exact new4 wr s _ _ _ _ _ HS.out.enc
            case c2 => exact encs_one _
            case c3 => unfold maxLen; omega
            case c4 => omega
            case c5 => simp; omega
            intro v' w1 hown hgrow _
            have G1 := Lib.hid ((G.out.far (below_allocs wr (.cells #[.int .u64 p, .int .u64 q, .int .u64 r, .int .u64 t] 34))).step (k := [s]) (fun x hx => by rw [List.mem_singleton.1 hx]; exact HS.out.ok) (v' := v') (by simpa using hown) hgrow)
            clear hown hgrow G HS c0 c1 c2 c3 hl sz
            go_wp2
            go_roundg (l.length - (i + 1))
            case measure => omega
            case rel => exact ⟨i + 1, X ++ [s], by omega, by go_num, by simp; omega, T2, G1⟩
          · have T2 : Hid (R = X ++ twB (l.take (i + 1)) (l.drop (i + 1))) := Lib.hid (by have := twB_no l i hlt (by rw [ES.out]; exact c); rw [this] at T; exact T.out)
            clear T
            by_cases c1 : (l.take i).count s = 0
            · have k1 : (((l.take i).count s : Nat) : Int) = 0 := by omega
              have k2 : ¬ (0 : Int) < (((l.drop (i + 1)).count s : Nat) : Int) := by omega
              clear c c1 ba bb hkl
              generalize (l.take i).count s = a1 at k1 ⊢
              generalize (l.drop (i + 1)).count s = b1 at k2 ⊢
              go_wp2
              go_roundg (l.length - (i + 1))
              case measure => omega
              case rel => exact ⟨i + 1, X, by omega, by go_num, by omega, T2, G⟩
            · have k1 : ¬ (((l.take i).count s : Nat) : Int) = 0 := by omega
              clear c c1 ba bb hkl
              generalize (l.take i).count s = a1 at k1 ⊢
              generalize (l.drop (i + 1)).count s = b1 at ⊢
              go_wp2
              go_roundg (l.length - (i + 1))
              case measure => omega
              case rel => exact ⟨i + 1, X, by omega, by go_num, by omega, T2, G⟩
    · obtain rfl : i = l.length := by omega
      have T2 : Hid (R = X) := Lib.hid (by have := T.out; rw [List.drop_length] at this; simpa [twB] using this)
      clear T
      go_wp2
      go_ret
      rw [T2.out]
      exact G.out.ans
end Go.Proofs.Ytolicfackceomaa
