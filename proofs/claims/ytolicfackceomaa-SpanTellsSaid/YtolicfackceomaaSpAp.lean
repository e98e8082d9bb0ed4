/-
  What SpanApart counts, as mathematics.
-/
import Derived.Test.YtolicfackceomaaSpZ
import Derived.Test.YtolicfackceomaaSpY
namespace Go.Proofs.Ytolicfackceomaa
open Mt
set_option linter.unusedVariables false

/-- All lengths. -/
def sumS : List Sp → Nat
  | [] => 0
  | s :: l => lenS s + sumS l
def hadS (l : List Sp) (a : Nat) : Nat := (l.filter (fun s => hasS s a)).length
theorem len_cnt (s : Sp) (N : Nat) (h : s.t ≤ N) : lenS s = cnt (fun i => hasS s i) N := by
  by_cases c : s.f ≤ s.t
  · rw [cnt_congr (q := fun i => decide (s.f ≤ i ∧ i < s.t)) N (fun i _ => by rw [Bool.eq_iff_iff, hasS_iff]; simp), cnt_below _ _ c N h]; rfl
  · rw [cnt_none N (fun i _ => by rw [← Bool.not_eq_true, hasS_iff]; omega)]
    unfold lenS; omega
theorem meet_at {s u : Sp} {i : Nat} (h1 : hasS s i = true) (h2 : hasS u i = true) : meetS s u = true := by
  rw [hasS_iff] at h1 h2
  rw [meetS_iff]; omega
theorem meet_place {s u : Sp} (h : meetS s u = true) : hasS s (max s.f u.f) = true ∧ hasS u (max s.f u.f) = true := by
  unfold meetS at h
  rwa [Bool.and_eq_true] at h
/-- Lists that are apart are those of which all lengths are what is covered. -/
theorem cov_sum : ∀ (l : List Sp) (N : Nat), (∀ s ∈ l, s.t ≤ N) → covN l N ≤ sumS l ∧ (covN l N = sumS l ↔ l.Pairwise (fun s u => meetS s u = false))
  | [], N, _ => by
    unfold covN sumS
    rw [cnt_none (p := fun i => ([] : List Sp).any (fun s => hasS s i)) N (fun i _ => rfl)]
    simp
  | s :: l, N, h => by
    obtain ⟨h1, h2⟩ := cov_sum l N (fun u hu => h u (by simp [hu]))
    have hs := h s (by simp)
    have e : covN (s :: l) N = cnt (fun i => hasS s i || l.any (fun u => hasS u i)) N := rfl
    have le := cnt_or_le (fun i => hasS s i) (fun i => l.any (fun u => hasS u i)) N
    rw [← e, ← len_cnt s N hs] at le
    have le' : covN (s :: l) N ≤ lenS s + covN l N := le
    refine ⟨by unfold sumS; omega, ?_⟩
    rw [List.pairwise_cons, ← h2]
    constructor
    · intro q
      have q2 : covN (s :: l) N = lenS s + covN l N := by unfold sumS at q; omega
      refine ⟨fun u hu => ?_, by unfold sumS at q; omega⟩
      rw [← Bool.not_eq_true]
      intro m
      obtain ⟨a, b⟩ := meet_place m
      have hb := (hasS_iff _ _).1 a
      rw [e, len_cnt s N hs] at q2
      exact cnt_or_eq N q2 _ (by omega) a (List.any_eq_true.2 ⟨u, hu, b⟩)
    · rintro ⟨q1, q2⟩
      have := cnt_or (p := fun i => hasS s i) (q := fun i => l.any (fun u => hasS u i)) N (fun i _ a b => by
        obtain ⟨u, hu, b'⟩ := List.any_eq_true.1 b
        have := meet_at a b'
        rw [q1 u hu] at this
        cases this)
      rw [← e, ← len_cnt s N hs] at this
      unfold sumS
      have t2 : covN (s :: l) N = lenS s + covN l N := this
      omega
theorem had_one : ∀ (l : List Sp) (a : Nat), l.Pairwise (fun s u => meetS s u = false) → hadS l a ≤ 1
  | [], a, _ => by simp [hadS]
  | s :: l, a, h => by
    obtain ⟨h1, h2⟩ := List.pairwise_cons.1 h
    have ih := had_one l a h2
    unfold hadS at *
    cases hc : hasS s a with
    | false => simp [hc]; exact ih
    | true =>
      have : l.filter (fun u => hasS u a) = [] := by
        rw [List.filter_eq_nil_iff]
        intro u hu hx
        have := meet_at hc hx
        rw [h1 u hu] at this
        cases this
      simp [hc, this]
theorem tw_mem : ∀ (l : List Sp) (m : Sp → Nat) (s : Sp), s ∈ tw m l → 1 < m s ∧ s ∈ l
  | [], m, s, h => by cases h
  | u :: l, m, s, h => by
    rw [tw_cons] at h
    by_cases c : 1 < m u
    · rw [if_pos c] at h
      rcases List.mem_cons.1 h with rfl | h
      · exact ⟨c, by simp⟩
      · obtain ⟨a, b⟩ := tw_mem l _ s h
        unfold upd at a
        by_cases e : s = u
        · subst e; rw [if_pos rfl] at a; omega
        · rw [if_neg e] at a; exact ⟨a, by simp [b]⟩
    · rw [if_neg c] at h
      obtain ⟨a, b⟩ := tw_mem l m s h
      exact ⟨a, by simp [b]⟩
theorem twice_none : ∀ (l : List Sp) (s : Sp), l.Pairwise (fun s u => meetS s u = false) → s.f < s.t → l.count s ≤ 1
  | [], s, _, _ => by simp
  | u :: l, s, h, hs => by
    obtain ⟨h1, h2⟩ := List.pairwise_cons.1 h
    have ih := twice_none l s h2 hs
    rw [List.count_cons]
    by_cases e : u = s
    · subst e
      have : l.count u = 0 := by
        rw [List.count_eq_zero]
        intro hu
        have := h1 u hu
        rw [← Bool.not_eq_true, meetS_iff] at this
        omega
      simp [this]
    · simp [e]; exact ih
/-- What is apart has nothing with places twice. -/
theorem tw_short {l : List Sp} (h : apartB l = true) : ∀ s ∈ tw (cntL l) l, lenS s = 0 := by
  obtain ⟨h1, h2⟩ := (apartB_iff l).1 h
  intro s hs
  obtain ⟨a, b⟩ := tw_mem l _ s hs
  unfold cntL at a
  by_cases c : s.f < s.t
  · have := twice_none l s h2 c; omega
  · unfold lenS; omega
end Go.Proofs.Ytolicfackceomaa
