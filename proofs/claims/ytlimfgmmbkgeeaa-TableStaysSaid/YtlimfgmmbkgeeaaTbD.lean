/-
  What the call Handles of package table does; lists of numbers copied, and compared.
-/
import Derived.Test.YtlimfgmmbkgeeaaTbC
namespace Go.Proofs.Ytlimfgmmbkgeeaa
open Go.RowKit
set_option linter.unusedVariables false
set_option maxRecDepth 100000

/-- A list of numbers that lies above B. -/
abbrev IL (B : Nat) (w : World) (v : Value) (l : List Int) : Prop := w.ownsRow B 3 1 v l.length (l.map (Value.int .i64))
theorem il_below {B : Nat} {w w' : World} {v : Value} {l : List Int} (h : IL B w v l) (hb : Below w.heap.size w w') : IL B w' v l := ⟨h.1, h.2.imp id fun ⟨g, cap, cur, a, b, c, r⟩ => ⟨g, cap, cur, a, b, by rw [hb.block g (Array.getElem?_eq_some_iff.1 c).1]; exact c, r⟩⟩
theorem il_zero {B : Nat} {w : World} {v : Value} {l : List Int} (h : IL B w v l) : IL 0 w v l := owns_base h (fun _ _ => Nat.zero_le _)
/-- The answer is a list of numbers of the call's own. -/
def AnsI (l : List Int) (w : World) (e : Ending) (w' : World) : Prop := ∃ v, e = .returned v ∧ IL w.heap.size w' v l ∧ Below w.heap.size w w'
theorem cloneI {w : World} {v : Value} {l : List Int} (own : IL 0 w v l) (hl : l.length ≤ 16) : Calls Try.prog 27 #[v] w (AnsI l w) := by
  obtain ⟨i0, hi, hz0, hz1, hz2⟩ := info_parts infoI
  rcases own.2 with ⟨rfl, hn⟩ | ⟨g, cap, cur, rfl, hg⟩
  · have e : l = [] := List.eq_nil_of_length_eq_zero hn
    subst e
    refine (AnyE.slices_Clone_nil clI 0 0 w).mono ?_
    rintro e w' ⟨rfl, rfl⟩
    exact ⟨_, rfl, World.ownsRow_nil _ _ _ _, Below.refl _ _⟩
  · refine (AnyE.slices_Clone clI i0 (.int .i64 0) 1 8 hi hz0 hz1 hz2 rfl (by decide) Try.sizeOf3 g 0 l.length cap (l.map (Value.int .i64)) w (by simp) (by unfold maxLen; omega) (by omega) (fun j u hu => ?_) (fun u hu => ?_)).mono ?_
    · rw [Nat.zero_add, ← hu]
      have hj : j < l.length := by simpa using (List.getElem?_eq_some_iff.1 hu).1
      exact own.cellAt j (by omega)
    · obtain ⟨x, _, rfl⟩ := List.mem_map.1 hu; rfl
    · rintro e w' ⟨v', rfl, h1, _, h3⟩
      exact ⟨v', rfl, h1, h3⟩
theorem cloneU {w : World} {v : Value} {l : List Int} (own : w.ownsRow 0 26 1 v l.length (l.map (Value.int .u64))) (hl : l.length ≤ 16) : Calls Try.prog 28 #[v] w (fun e w' => ∃ v', e = .returned v' ∧ w'.ownsRow w.heap.size 26 1 v' l.length (l.map (Value.int .u64)) ∧ Below w.heap.size w w') := by
  obtain ⟨i0, hi, hz0, hz1, hz2⟩ := info_parts infoU
  rcases own.2 with ⟨rfl, hn⟩ | ⟨g, cap, cur, rfl, hg⟩
  · have e : l = [] := List.eq_nil_of_length_eq_zero hn
    subst e
    refine (AnyE.slices_Clone_nil clU 0 0 w).mono ?_
    rintro e w' ⟨rfl, rfl⟩
    exact ⟨_, rfl, World.ownsRow_nil _ _ _ _, Below.refl _ _⟩
  · refine (AnyE.slices_Clone clU i0 (.int .u64 0) 1 8 hi hz0 hz1 hz2 rfl (by decide) Try.sizeOf26 g 0 l.length cap (l.map (Value.int .u64)) w (by simp) (by unfold maxLen; omega) (by omega) (fun j u hu => ?_) (fun u hu => ?_)).mono ?_
    · rw [Nat.zero_add, ← hu]
      have hj : j < l.length := by simpa using (List.getElem?_eq_some_iff.1 hu).1
      exact own.cellAt j (by omega)
    · obtain ⟨x, _, rfl⟩ := List.mem_map.1 hu; rfl
    · rintro e w' ⟨v', rfl, h1, _, h3⟩
      exact ⟨v', rfl, h1, h3⟩
theorem tHandles {w : World} {p : Nat} {F : Nat → Prop} {t : Tb} (h : At w p F t) : Calls Try.prog 17 #[.pointer (some ⟨p, 0, none⟩)] w (AnsI t.h w) := by
  obtain ⟨sh, sv, T, _⟩ := h.ex
  have C := Lib.hid (cloneI T.hs (by rw [t.h_len]; exact h.ok.many))
  have c0 := T.blk.cell 0 _ rfl
  clear T h
  go_enter Try.func17, Try.ntmps17
  go_wp2_with fail
  refine C.out.mono ?_
  rintro e V ⟨v, rfl, H⟩
  have H := Lib.hid H
  clear c0
  go_wp2
  go_ret
  exact ⟨v, rfl, H.out⟩
/-- An answer that is a truth, where nothing of what was there has turned. -/
abbrev AnsB (b : Bool) (w : World) (e : Ending) (w' : World) : Prop := e = .returned (.bool b) ∧ Below w.heap.size w w'
theorem il_slice {B : Nat} {w : World} {v : Value} {l : List Int} (h : IL B w v l) : ∃ A cap, v = .slice A l.length cap ∧ ∀ i, i < l.length → ∃ g, A = some ⟨g, 0, none⟩ ∧ g < w.heap.size ∧ w.cell? ⟨g, i, none⟩ = some (.int .i64 (l.getD i 0)) := by
  rcases h.2 with ⟨rfl, hn⟩ | ⟨g, cap, cur, rfl, hg⟩
  · exact ⟨none, 0, by rw [hn], fun i hi => by omega⟩
  · refine ⟨_, cap, rfl, fun i hi => ⟨g, rfl, (h.lt g rfl).2, ?_⟩⟩
    rw [h.cellAt i (by omega), List.getElem?_map, List.getElem?_eq_getElem hi, List.getD_eq_getElem?_getD, List.getElem?_eq_getElem hi]
    rfl
theorem ints_same {l k : List Int} (hn : l.length = k.length) (h : ∀ j, j < l.length → l.getD j 0 = k.getD j 0) : l = k := by
  refine List.ext_getElem hn fun j h1 h2 => ?_
  have := h j h1
  rwa [List.getD_eq_getElem?_getD, List.getD_eq_getElem?_getD, List.getElem?_eq_getElem h1, List.getElem?_eq_getElem h2] at this
set_option maxHeartbeats 2000000 in
theorem rInts {w : World} {v u : Value} {l k : List Int} (h1 : IL 0 w v l) (h2 : IL 0 w u k) (hl : l.length ≤ 1000) (hk : k.length ≤ 1000) : Calls Try.prog 16 #[v, u] w (AnsB (decide (l = k)) w) := by
  obtain ⟨A, ca, rfl, HA⟩ := il_slice h1
  obtain ⟨B, cb, rfl, HB⟩ := il_slice h2
  have HA := Lib.hid HA
  have HB := Lib.hid HB
  clear h1 h2
  by_cases hn : l.length = k.length
  · have HN := Lib.hid hn
    have hne : ¬ ((l.length : Int) ≠ (k.length : Int)) := by rw [hn]; simp
    rw [← hn]
    clear hn hne hk
    go_enter Try.func16, Try.ntmps16
    go_wp2
    go_loopg [5] l.length (fun g iv wr => ∃ i q : Nat, i + g = l.length ∧ iv = .int .i64 i ∧ wr = w.drewN q ∧ Hid (∀ j, j < i → l.getD j 0 = k.getD j 0))
    case atStart => exact ⟨0, 0, by omega, rfl, rfl, Lib.hid fun j hj => absurd hj (Nat.not_lt_zero _)⟩
    case round =>
      obtain ⟨i, q, hi, rfl, rfl, E⟩ := hrel
      by_cases hlt : i < l.length
      · have hlt' : (i : Int) < l.length := by omega
        obtain ⟨g, rfl, _, c0⟩ := HA.out i hlt
        obtain ⟨g2, rfl, _, d0⟩ := HB.out i (by have := HN.out; omega)
        have c1 : (w.drewN q).cell? ⟨g, i, none⟩ = some (.int .i64 (l.getD i 0)) := c0
        have d1 : (w.drewN q).cell? ⟨g2, i, none⟩ = some (.int .i64 (k.getD i 0)) := d0
        by_cases he : l.getD i 0 = k.getD i 0
        · have E2 : Hid (∀ j, j < i + 1 → l.getD j 0 = k.getD j 0) := Lib.hid (fun j hj => by
            by_cases e : j = i
            · subst e; exact he
            · exact E.out j (by omega))
          rw [he] at c0 c1
          generalize k.getD i 0 = y at c0 c1 d0 d1
          clear he E
          go_wp2_with fail
          go_quiet (fail)
          go_wp2_with fail
          go_roundg (gk - 1)
          case measure => omega
          case rel => exact ⟨i + 1, _, by omega, by go_num, rfl, E2⟩
        · have R : Hid (decide (l = k) = false) := Lib.hid (decide_eq_false fun e => he (by rw [e]))
          generalize l.getD i 0 = x at c0 c1 he
          generalize k.getD i 0 = y at d0 d1 he
          clear E
          go_wp2_with fail
          go_quiet (fail)
          go_wp2
          go_ret
          exact ⟨by rw [R.out]; rfl, rfl, rfl, rfl, Nat.le_refl _, fun _ _ => rfl⟩
      · obtain rfl : i = l.length := by omega
        have R : Hid (decide (l = k) = true) := Lib.hid (decide_eq_true (ints_same HN.out E.out))
        clear E
        go_wp2
        go_ret
        exact ⟨by rw [R.out]; rfl, below_drewN w q⟩
  · have R : Hid (decide (l = k) = false) := Lib.hid (decide_eq_false fun e => hn (by rw [e]))
    have hne : ¬ ((l.length : Int) = (k.length : Int)) := by omega
    go_enter Try.func16, Try.ntmps16
    go_wp2
    go_ret
    exact ⟨by rw [R.out]; rfl, Below.refl _ _⟩
end Go.Proofs.Ytlimfgmmbkgeeaa
