/-
  What lists of spans cover, and when they are apart, as mathematics; what Apart and Cover answer in these words.
-/
import Derived.Test.YtolicfackceomaaSpV
import Derived.Test.YtolicfackceomaaSpM
namespace Go.Proofs.Ytolicfackceomaa
open Go.RowKit Mt
set_option linter.unusedVariables false

theorem hasS_iff (s : Sp) (i : Nat) : hasS s i = true ↔ s.f ≤ i ∧ i < s.t := by unfold hasS; simp
theorem meetS_iff (s u : Sp) : meetS s u = true ↔ s.f < u.t ∧ u.f < s.t ∧ s.f < s.t ∧ u.f < u.t := by
  unfold meetS
  rw [Bool.and_eq_true, hasS_iff, hasS_iff]
  omega
theorem meetS_comm (s u : Sp) : meetS s u = meetS u s := by
  rw [Bool.eq_iff_iff, meetS_iff, meetS_iff]
  omega
theorem covO_cnt : ∀ (o : List Sp) (e N : Nat), o.Pairwise (fun s u => s.f ≤ u.f) → (∀ s ∈ o, s.t ≤ N) → covO e o = cnt (fun i => decide (e ≤ i) && o.any (fun s => hasS s i)) N
  | [], e, N, _, _ => by
    rw [cnt_none]
    · rfl
    · intro i _; simp
  | s :: o, e, N, hp, hN => by
    obtain ⟨h1, h2⟩ := List.pairwise_cons.1 hp
    rw [covO_cons, covO_cnt o (max e s.t) N h2 (fun u hu => hN u (by simp [hu]))]
    have hs := hN s (by simp)
    have e1 : lenS ⟨max e s.f, s.t⟩ = cnt (fun i => decide (max e s.f ≤ i ∧ i < s.t)) N := by
      by_cases c : max e s.f ≤ s.t
      · rw [cnt_below _ _ c N hs]; rfl
      · rw [cnt_none N (fun i hi => decide_eq_false (by omega))]
        show s.t - max e s.f = 0
        omega
    rw [e1, ← cnt_or N (fun i _ a b => by
      simp only [decide_eq_true_eq, Bool.and_eq_true] at a b
      omega)]
    refine cnt_congr N (fun i _ => ?_)
    rw [Bool.eq_iff_iff]
    simp only [Bool.or_eq_true, Bool.and_eq_true, decide_eq_true_eq, List.any_cons, hasS_iff, List.any_eq_true]
    constructor
    · rintro (⟨a, b⟩ | ⟨a, u, hu, b⟩)
      · exact ⟨by omega, .inl ⟨by omega, b⟩⟩
      · exact ⟨by omega, .inr ⟨u, hu, b⟩⟩
    · rintro ⟨a, (⟨b, c⟩ | ⟨u, hu, b, c⟩)⟩
      · exact .inl ⟨by omega, c⟩
      · have := h1 u hu
        by_cases d : i < s.t
        · exact .inl ⟨by omega, d⟩
        · exact .inr ⟨by omega, u, hu, b, c⟩
theorem srt_mem {l o : List Sp} (h : Srt l o) (s : Sp) : s ∈ o ↔ s ∈ l ∧ s.f < s.t := by
  rw [h.perm.mem_iff, List.mem_filter]
  unfold lenS
  simp only [Bool.not_eq_true', decide_eq_false_iff_not]
  exact and_congr_right (fun _ => by omega)
theorem any_srt {l o : List Sp} (h : Srt l o) (i : Nat) : o.any (fun s => hasS s i) = l.any (fun s => hasS s i) := by
  rw [Bool.eq_iff_iff, List.any_eq_true, List.any_eq_true]
  constructor
  · rintro ⟨s, hs, hi⟩
    exact ⟨s, ((srt_mem h s).1 hs).1, hi⟩
  · rintro ⟨s, hs, hi⟩
    have := (hasS_iff s i).1 hi
    exact ⟨s, (srt_mem h s).2 ⟨hs, by omega⟩, hi⟩
/-- How many places below N a list of spans has. -/
def covN (l : List Sp) (N : Nat) : Nat := cnt (fun i => l.any (fun s => hasS s i)) N
theorem covO_is {l o : List Sp} (h : Srt l o) (N : Nat) (hN : ∀ s ∈ l, s.t ≤ N) : covO 0 o = covN l N := by
  rw [covO_cnt o 0 N h.up (fun s hs => hN s ((srt_mem h s).1 hs).1)]
  refine cnt_congr N (fun i _ => ?_)
  rw [any_srt h]
  simp
theorem apO_iff : ∀ (o : List Sp) (e : Nat), o.Pairwise (fun s u => s.f ≤ u.f) → (∀ s ∈ o, s.f < s.t) → (apO e o = true ↔ (∀ s ∈ o, e ≤ s.f) ∧ o.Pairwise (fun s u => meetS s u = false))
  | [], e, _, _ => by simp [apO]
  | s :: o, e, hp, hn => by
    obtain ⟨h1, h2⟩ := List.pairwise_cons.1 hp
    have hs := hn s (by simp)
    have ih := apO_iff o (max e s.t) h2 (fun u hu => hn u (by simp [hu]))
    rw [apO_cons, Bool.and_eq_true, ih, decide_eq_true_eq, List.pairwise_cons]
    have m : ∀ u ∈ o, (meetS s u = false ↔ s.t ≤ u.f) := fun u hu => by
      have a := h1 u hu
      have b := hn u (by simp [hu])
      rw [← Bool.not_eq_true, meetS_iff]
      omega
    have e1 : ((⟨max e s.f, s.t⟩ : Sp) = s) ↔ e ≤ s.f := by
      obtain ⟨f, t⟩ := s
      simp only [Sp.mk.injEq, and_true]
      omega
    rw [e1]
    constructor
    · rintro ⟨a, b, c⟩
      refine ⟨fun u hu => ?_, fun u hu => (m u hu).2 (by have := b u hu; omega), c⟩
      rcases List.mem_cons.1 hu with rfl | hu
      · exact a
      · have := h1 u hu; omega
    · rintro ⟨a, b, c⟩
      have a1 := a s (by simp)
      exact ⟨a1, fun u hu => by have := (m u hu).1 (b u hu); omega, c⟩
/-- Do all of a list of spans that may be not meet? -/
def apartB : List Sp → Bool
  | [] => true
  | s :: l => decide (s.f ≤ s.t) && l.all (fun u => !meetS s u) && apartB l
theorem apartB_iff : ∀ l : List Sp, apartB l = true ↔ (∀ s ∈ l, s.f ≤ s.t) ∧ l.Pairwise (fun s u => meetS s u = false)
  | [] => by simp [apartB]
  | s :: l => by
    rw [apartB, Bool.and_eq_true, Bool.and_eq_true, apartB_iff l, List.pairwise_cons, decide_eq_true_eq, List.all_eq_true]
    simp only [List.mem_cons, forall_eq_or_imp, Bool.not_eq_true']
    constructor
    · rintro ⟨⟨a, b⟩, c, d⟩; exact ⟨⟨a, c⟩, b, d⟩
    · rintro ⟨⟨a, c⟩, b, d⟩; exact ⟨⟨a, b⟩, c, d⟩
theorem apart_is {l o : List Sp} (h : Srt l o) : ((!(l.any (fun s => !decide (s.f ≤ s.t)))) && apO 0 o) = apartB l := by
  have up := apO_iff o 0 h.up (fun s hs => ((srt_mem h s).1 hs).2)
  have sy : ∀ {s u : Sp}, meetS s u = false → meetS u s = false := fun {s u} k => by rw [meetS_comm]; exact k
  have pw : o.Pairwise (fun s u => meetS s u = false) ↔ l.Pairwise (fun s u => meetS s u = false) := by
    rw [h.perm.pairwise_iff (fun {s u} k => sy k), List.pairwise_filter]
    constructor
    · intro k
      refine k.imp (fun {s u} q => ?_)
      by_cases c : lenS s = 0
      · rw [← Bool.not_eq_true, meetS_iff]; unfold lenS at c; omega
      · by_cases d : lenS u = 0
        · rw [← Bool.not_eq_true, meetS_iff]; unfold lenS at d; omega
        · exact q (by simp [c]) (by simp [d])
    · intro k
      exact k.imp (fun {s u} q _ _ => q)
  rw [Bool.eq_iff_iff, Bool.and_eq_true, up, pw, apartB_iff]
  simp only [Bool.not_eq_true', List.any_eq_false, Bool.not_eq_true', decide_eq_false_iff_not, Nat.zero_le, implies_true, true_and]
  constructor
  · rintro ⟨a, b⟩; exact ⟨fun s hs => by have := a s hs; simpa using this, b⟩
  · rintro ⟨a, b⟩; exact ⟨fun s hs => by have := a s hs; simpa using this, b⟩
theorem cApart (A : Option Addr) (cap : Nat) (l : List Sp) (w : World) (h : SL w A cap l) (hn : l.length ≤ 1000) :
    Calls Try.prog 21 #[.slice A l.length cap] w (fun e w' => e = .returned (.bool (apartB l)) ∧ Below w.heap.size w w') := by
  refine (apartLoop A cap l w h hn).mono ?_
  rintro e w' ⟨b, o, rfl, hs, rfl, hb⟩
  exact ⟨by rw [← apart_is hs], hb⟩
theorem cCoverN (A : Option Addr) (cap : Nat) (l : List Sp) (w : World) (h : SL w A cap l) (hn : l.length ≤ 1000) (N : Nat) (hN : ∀ s ∈ l, s.t ≤ N) (hQ : N < Q) :
    Calls Try.prog 27 #[.slice A l.length cap] w (AnsW (covN l N) w) := by
  refine (cCover A cap l w h hn).mono ?_
  rintro e w' ⟨o, rfl, hs, hb⟩
  refine ⟨?_, hb⟩
  have lt : covN l N < Q := Nat.lt_of_le_of_lt (cnt_le _ N) hQ
  rw [covO_is hs N hN, Nat.mod_eq_of_lt lt]
end Go.Proofs.Ytolicfackceomaa
