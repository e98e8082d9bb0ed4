/-
  What the call Apart of the reference of layer 15 answers.
-/
import Derived.Test.YtolicfackceomaaSpZ
import Derived.Test.YtolicfackceomaaSpS
namespace Go.Proofs.Ytolicfackceomaa
open Go.RowKit
set_option linter.unusedVariables false
set_option maxRecDepth 100000

theorem apart_no_right {l : List Sp} {i : Nat} (hi : i < l.length) (h : ¬ (l.getD i default).f ≤ (l.getD i default).t) : apartB l = false := by
  rw [← Bool.not_eq_true, apartB_iff]
  rintro ⟨a, _⟩
  refine h (a _ ?_)
  rw [List.getD_eq_getElem?_getD, List.getElem?_eq_getElem hi]; exact List.getElem_mem hi
theorem apart_no_meet {l : List Sp} {i k : Nat} (hi : i < l.length) (hk : k < i) (h : meetS (l.getD i default) (l.getD k default) = true) : apartB l = false := by
  rw [← Bool.not_eq_true, apartB_iff]
  rintro ⟨_, b⟩
  rw [List.pairwise_iff_getElem] at b
  have := b k i (by omega) hi hk
  rw [meetS_comm] at this
  rw [List.getD_eq_getElem?_getD, List.getD_eq_getElem?_getD, List.getElem?_eq_getElem hi, List.getElem?_eq_getElem (by omega)] at h
  simp only [Option.getD_some] at h
  rw [this] at h; cases h
theorem apart_yes {l : List Sp} (h : ∀ i, i < l.length → (l.getD i default).f ≤ (l.getD i default).t ∧ ∀ k, k < i → meetS (l.getD i default) (l.getD k default) = false) : apartB l = true := by
  rw [apartB_iff]
  constructor
  · intro s hs
    obtain ⟨i, hi, rfl⟩ := List.getElem_of_mem hs
    have := (h i hi).1
    rw [List.getD_eq_getElem?_getD, List.getElem?_eq_getElem hi] at this
    exact this
  · rw [List.pairwise_iff_getElem]
    intro i j hi hj hij
    have := (h j hj).2 i hij
    rw [List.getD_eq_getElem?_getD, List.getD_eq_getElem?_getD, List.getElem?_eq_getElem hi, List.getElem?_eq_getElem hj] at this
    rw [meetS_comm]; exact this
set_option maxHeartbeats 8000000 in
theorem rApart (A : Option Addr) (cap : Nat) (l : List Sp) (w : World) (h : SL w A cap l) :
    Calls Try.prog 22 #[.slice A l.length cap] w (AnsB (apartB l) w) := by
  have H := Lib.hid h
  have hcap1 := h.cap1
  have hcap2 := h.cap2
  clear h
  go_enter Try.func22, Try.ntmps22
  go_wp2
  go_loopg [3] l.length (fun g iv wr => ∃ i : Nat, i + g = l.length ∧ iv = .int .i64 i ∧ Hid (Below w.heap.size w wr) ∧ Hid (∀ j, j < i → (l.getD j default).f ≤ (l.getD j default).t ∧ ∀ k, k < j → meetS (l.getD j default) (l.getD k default) = false))
  case atStart => exact ⟨0, by omega, rfl, Lib.hid (Below.refl _ _), Lib.hid fun j hj => absurd hj (Nat.not_lt_zero _)⟩
  case round =>
    obtain ⟨i, hi, rfl, B, E⟩ := hrel
    by_cases hlt : i < l.length
    · have hlt' : (i : Int) < l.length := by omega
      obtain ⟨b, o, p, q, r, t, rfl, hl, HS, c0, c1, c2, c3⟩ := (H.out.below B.out).at4 hlt
      have RC := Lib.hid (srRight HS.out)
      by_cases hr : (l.getD i default).f ≤ (l.getD i default).t
      · rw [decide_eq_true hr] at RC
        have HR := Lib.hid hr
        clear hr
        go_wp2_with fail
        refine (RC.out _).mono ?_
        rintro er V ⟨rfl, hb⟩
        have B2 := Lib.hid (below_then B.out hb)
        clear hb B c0 c1 c2 c3 hl RC
        go_wp2_with fail
        go_loopg [4] i (fun g kv wr => ∃ k : Nat, k + g = i ∧ kv = .int .i64 k ∧ Hid (Below w.heap.size w wr) ∧ Hid (∀ j, j < k → meetS (l.getD i default) (l.getD j default) = false))
        case atStart => exact ⟨0, by omega, rfl, B2, Lib.hid fun j hj => absurd hj (Nat.not_lt_zero _)⟩
        case round =>
          clear B2
          obtain ⟨k, hk, rfl, B, M⟩ := hrel
          by_cases hki : k < i
          · have hki' : (k : Int) < (i : Int) := by omega
            have hkl' : (k : Int) < l.length := by omega
            obtain ⟨b', o', p0, q0, r0, t0, e', hl, HS, c0, c1, c2, c3⟩ := (H.out.below B.out).at4 hlt
            obtain ⟨rfl, rfl⟩ : b = b' ∧ o = o' := by simpa using e'
            obtain ⟨b', o', p', q', r', t', e'', hl2, HS', d0, d1, d2, d3⟩ := (H.out.below B.out).at4 (i := k) (by omega)
            obtain ⟨rfl, rfl⟩ : b = b' ∧ o = o' := by simpa using e''
            have MC := Lib.hid (srMeet HS.out HS'.out)
            cases hm : meetS (l.getD i default) (l.getD k default) with
            | true =>
              rw [hm] at MC
              have R := Lib.hid (apart_no_meet hlt hki hm)
              clear hm
              go_wp2_with fail
              refine wp_region_class (fun w' => Below wr.heap.size wr w') (by kernel_rfl) (by kernel_rfl) (Below.refl _ _).drew ?_
              iterate 9
                (refine WQ.yes ?_ (by rfl) (fun w' hC => ?_) ?_
                 rotate_left
                 · (have x0 := (hC.cell (p := ⟨b, o + i * 4, none⟩) hl).trans c0
                    have x1 := (hC.cell (p := ⟨b, o + i * 4 + 1, none⟩) hl).trans c1
                    have x2 := (hC.cell (p := ⟨b, o + i * 4 + 2, none⟩) hl).trans c2
                    have x3 := (hC.cell (p := ⟨b, o + i * 4 + 3, none⟩) hl).trans c3
                    have y0 := (hC.cell (p := ⟨b, o + k * 4, none⟩) hl).trans d0
                    have y1 := (hC.cell (p := ⟨b, o + k * 4 + 1, none⟩) hl).trans d1
                    have y2 := (hC.cell (p := ⟨b, o + k * 4 + 2, none⟩) hl).trans d2
                    have y3 := (hC.cell (p := ⟨b, o + k * 4 + 3, none⟩) hl).trans d3
                    go_simp
                    first | done | with_reducible rfl | exact ⟨rfl, rfl⟩ | (go_at_call 20; (with_reducible exact quietB (MC.out _) hC)))
                 (try simp only [Act.put, List.setIfInBounds_toArray, List.set_cons_zero, List.set_cons_succ]))
              refine WQ.nil ?_
              intro wz hX
              have B3 := Lib.hid (below_then B.out hX)
              clear hX B MC HS HS' c0 c1 c2 c3 d0 d1 d2 d3 hl hl2
              go_wp2_with fail
              go_ret
              exact ⟨by rw [R.out]; rfl, B3.out⟩
            | false =>
              rw [hm] at MC
              have M2 : Hid (∀ j, j < k + 1 → meetS (l.getD i default) (l.getD j default) = false) := Lib.hid (fun j hj => by
                by_cases e : j = k
                · subst e; exact hm
                · exact M.out j (by omega))
              clear hm M
              go_wp2_with fail
              refine wp_region_class (fun w' => Below wr.heap.size wr w') (by kernel_rfl) (by kernel_rfl) (Below.refl _ _).drew ?_
              iterate 9
                (refine WQ.yes ?_ (by rfl) (fun w' hC => ?_) ?_
                 rotate_left
                 · (have x0 := (hC.cell (p := ⟨b, o + i * 4, none⟩) hl).trans c0
                    have x1 := (hC.cell (p := ⟨b, o + i * 4 + 1, none⟩) hl).trans c1
                    have x2 := (hC.cell (p := ⟨b, o + i * 4 + 2, none⟩) hl).trans c2
                    have x3 := (hC.cell (p := ⟨b, o + i * 4 + 3, none⟩) hl).trans c3
                    have y0 := (hC.cell (p := ⟨b, o + k * 4, none⟩) hl).trans d0
                    have y1 := (hC.cell (p := ⟨b, o + k * 4 + 1, none⟩) hl).trans d1
                    have y2 := (hC.cell (p := ⟨b, o + k * 4 + 2, none⟩) hl).trans d2
                    have y3 := (hC.cell (p := ⟨b, o + k * 4 + 3, none⟩) hl).trans d3
                    go_simp
                    first | done | with_reducible rfl | exact ⟨rfl, rfl⟩ | (go_at_call 20; (with_reducible exact quietB (MC.out _) hC)))
                 (try simp only [Act.put, List.setIfInBounds_toArray, List.set_cons_zero, List.set_cons_succ]))
              refine WQ.nil ?_
              intro wz hX
              have B3 := Lib.hid (below_then B.out hX)
              clear hX B MC HS HS' c0 c1 c2 c3 d0 d1 d2 d3 hl hl2
              go_wp2_with fail
              go_roundg (gk - 1)
              case measure => omega
              case rel => exact ⟨k + 1, by omega, by go_num, B3, M2⟩
          · obtain rfl : k = i := by omega
            have E2 : Hid (∀ j, j < k + 1 → (l.getD j default).f ≤ (l.getD j default).t ∧ ∀ m, m < j → meetS (l.getD j default) (l.getD m default) = false) := Lib.hid (fun j hj => by
              by_cases e : j = k
              · subst e; exact ⟨HR.out, M.out⟩
              · exact E.out j (by omega))
            clear E M
            go_wp2_with fail
            go_roundg (l.length - (k + 1))
            case measure => omega
            case rel => exact ⟨k + 1, by omega, by go_num, B, E2⟩
      · rw [decide_eq_false hr] at RC
        have R := Lib.hid (apart_no_right hlt hr)
        clear hr
        go_wp2_with fail
        refine (RC.out _).mono ?_
        rintro er V ⟨rfl, hb⟩
        have B2 := Lib.hid (below_then B.out hb)
        clear hb B c0 c1 c2 c3 hl RC
        go_wp2_with fail
        go_ret
        exact ⟨by rw [R.out]; rfl, B2.out⟩
    · obtain rfl : i = l.length := by omega
      have R := Lib.hid (apart_yes E.out)
      go_wp2
      go_ret
      exact ⟨by rw [R.out]; rfl, B.out⟩
end Go.Proofs.Ytolicfackceomaa
