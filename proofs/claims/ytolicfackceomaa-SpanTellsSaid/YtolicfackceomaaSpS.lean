/-
  What the call Same of the reference answers: whether two lists of spans are the same.
-/
import Derived.Test.YtolicfackceomaaSpO
import Derived.Test.YtolicfackceomaaSpE
namespace Go.Proofs.Ytolicfackceomaa
open Go.RowKit
set_option linter.unusedVariables false
set_option maxRecDepth 100000

theorem same_no {l k : List Sp} {i : Nat} (h : l.getD i default ≠ k.getD i default) : decide (l = k) = false := by
  simp only [decide_eq_false_iff_not]
  rintro rfl
  exact h rfl
theorem same_yes {l k : List Sp} (hl : l.length = k.length) (h : ∀ j, j < l.length → l.getD j default = k.getD j default) : l = k := by
  refine List.ext_getElem hl (fun i h1 h2 => ?_)
  have := h i h1
  simpa [List.getD_eq_getElem?_getD, List.getElem?_eq_getElem h1, List.getElem?_eq_getElem h2] using this
set_option maxHeartbeats 4000000 in
theorem cSame (A B : Option Addr) (c1 c2 : Nat) (l k : List Sp) (w : World) (hl : SL w A c1 l) (hk : SL w B c2 k) (n1 : l.length ≤ 1000) (n2 : k.length ≤ 1000) :
    Calls Try.prog 24 #[.slice A l.length c1, .slice B k.length c2] w (AnsB (decide (l = k)) w) := by
  by_cases hn : l.length = k.length
  · have HL := Lib.hid hl
    have HK := Lib.hid hk
    have HN := Lib.hid hn
    rw [← hn]
    have hn' : ((l.length : Nat) : Int) = ((l.length : Nat) : Int) := rfl
    clear hl hk hn
    go_enter Try.func24, Try.ntmps24
    go_wp2
    go_loopg [5] l.length (fun g i wr => ∃ j : Nat, j + g = l.length ∧ i = .int .i64 j ∧ Below w.heap.size w wr ∧ Hid (∀ m, m < j → l.getD m default = k.getD m default))
    case atStart => exact ⟨0, by omega, rfl, Below.refl _ _, Lib.hid fun m h => absurd h (Nat.not_lt_zero _)⟩
    case round =>
      obtain ⟨j, hj, rfl, hB, E⟩ := hrel
      by_cases hlt : j < l.length
      · have hlt' : (j : Int) < l.length := by omega
        obtain ⟨b, o, p, q, r, t, rfl, hl, HS, x0, x1, x2, x3⟩ := (HL.out.below hB).at4 hlt
        obtain ⟨b', o', p', q', r', t', rfl, hl', HS', y0, y1, y2, y3⟩ := (HK.out.below hB).at4 (i := j) (by rw [← HN.out]; exact hlt)
        have Q := Lib.hid (ws_same HS.out HS'.out)
        have eq := fun w => eqRS p q r t p' q' r' t' w
        rw [ws_same HS.out HS'.out] at eq
        clear HS HS' Q
        by_cases hs : l.getD j default = k.getD j default
        · rw [decide_eq_true hs] at eq
          have E2 : Hid (∀ m, m < j + 1 → l.getD m default = k.getD m default) := Lib.hid (fun m hm => by
            by_cases e : m = j
            · subst e; exact hs
            · exact E.out m (by omega))
          clear hs E
          go_wp2_with fail
          go_region
          go_wp2
          go_roundg (gk - 1)
          case measure => omega
          case rel => exact ⟨j + 1, by omega, by go_num, hB.drew, E2⟩
        · rw [decide_eq_false hs] at eq
          have R := Lib.hid (same_no hs)
          clear hs
          go_wp2_with fail
          go_region
          go_wp2
          go_ret
          exact ⟨by rw [R.out]; rfl, hB.drew⟩
      · obtain rfl : j = l.length := by omega
        have R := Lib.hid (decide_eq_true (same_yes HN.out E.out))
        go_wp2
        go_ret
        exact ⟨by rw [R.out]; rfl, hB⟩
  · have hn' : ¬ ((l.length : Nat) : Int) = ((k.length : Nat) : Int) := by omega
    have R : Hid (decide (l = k) = false) := Lib.hid (decide_eq_false (fun e => hn (by rw [e])))
    clear hn hl hk
    go_enter Try.func24, Try.ntmps24
    go_wp2
    go_ret
    exact ⟨by rw [R.out]; rfl, Below.refl _ _⟩
end Go.Proofs.Ytolicfackceomaa
