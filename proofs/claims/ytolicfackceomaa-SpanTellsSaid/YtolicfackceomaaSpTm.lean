/-
  Mathematics of SpanTells: what the reference's Twice tells is what sp's own tells; what is left of a span without others, part by part, how many parts there are at most, and that their lengths are the places that none ahead has.
-/
import Derived.Test.YtolicfackceomaaSpAp
namespace Go.Proofs.Ytolicfackceomaa
open Go.RowKit
open Mt (cnt cnt_congr cnt_le cnt_or cnt_none)
set_option linter.unusedVariables false

/-- Twice as the reference goes: what stands ahead, what stands behind. -/
def twB : List Sp → List Sp → List Sp
  | _, [] => []
  | pre, s :: l => if pre.count s = 0 ∧ 0 < l.count s then s :: twB (pre ++ [s]) l else twB (pre ++ [s]) l
theorem twB_cons (pre : List Sp) (s : Sp) (l : List Sp) : twB pre (s :: l) = if pre.count s = 0 ∧ 0 < l.count s then s :: twB (pre ++ [s]) l else twB (pre ++ [s]) l := rfl
theorem tw_twB : ∀ (l pre : List Sp) (m : Sp → Nat), (∀ u, m u = if 0 < pre.count u ∧ 1 < (pre ++ l).count u then 0 else (pre ++ l).count u) → tw m l = twB pre l := by
  intro l
  induction l with
  | nil => intro pre m _; rfl
  | cons s l ih =>
    intro pre m hm
    rw [tw_cons, twB_cons]
    have hs := hm s
    have e : (pre ++ s :: l).count s = pre.count s + (1 + l.count s) := by rw [List.count_append, List.count_cons_self]; omega
    have e2 : ∀ u, (pre ++ [s] ++ l).count u = (pre ++ s :: l).count u := fun u => by rw [List.append_assoc]; rfl
    have e3 : ∀ u, (pre ++ [s]).count u = pre.count u + if u = s then 1 else 0 := fun u => by
      rw [List.count_append, List.count_singleton]
      by_cases h : u = s
      · subst h; simp
      · rw [if_neg h]; simp [Ne.symm h]
    by_cases c : pre.count s = 0 ∧ 0 < l.count s
    · have c1 : 1 < m s := by rw [hs, if_neg (by omega), e]; omega
      rw [if_pos c1, if_pos c]
      refine congrArg (s :: ·) (ih (pre ++ [s]) (upd m s 0) fun u => ?_)
      rw [e2 u, e3 u]
      unfold upd
      by_cases h : u = s
      · subst h; rw [if_pos rfl, if_pos rfl, if_pos (by omega)]
      · rw [if_neg h, if_neg h, hm u]; rfl
    · have c1 : ¬ 1 < m s := by
        rw [hs]
        split <;> omega
      rw [if_neg c1, if_neg c]
      refine ih (pre ++ [s]) m fun u => ?_
      rw [e2 u, e3 u, hm u]
      by_cases h : u = s
      · subst h
        rw [if_pos rfl]
        by_cases d : 0 < pre.count u
        · by_cases d2 : 1 < (pre ++ u :: l).count u
          · rw [if_pos ⟨d, d2⟩, if_pos ⟨by omega, d2⟩]
          · rw [if_neg (by omega), if_neg (by omega)]
        · have : l.count u = 0 := by omega
          rw [if_neg (by omega), if_neg (by omega)]
      · rw [if_neg h]; rfl
theorem tw_is (l : List Sp) : tw (cntL l) l = twB [] l := tw_twB l [] (cntL l) fun u => by unfold cntL; simp

/-- What is left of one span without another one. -/
def pt (t p : Sp) : List Sp := if meetS p t = true then (if p.f < t.f then [⟨p.f, t.f⟩] else []) ++ (if t.t < p.t then [⟨t.t, p.t⟩] else []) else [p]
def wo (t : Sp) (l : List Sp) : List Sp := l.flatMap (pt t)
theorem wo_cons (t p : Sp) (l : List Sp) : wo t (p :: l) = pt t p ++ wo t l := rfl
theorem wo_snoc (t p : Sp) (l : List Sp) : wo t (l ++ [p]) = wo t l ++ pt t p := by unfold wo; rw [List.flatMap_append]; simp
/-- Parts that lie one behind the other. -/
def Row (l : List Sp) : Prop := (∀ p ∈ l, p.f ≤ p.t) ∧ l.Pairwise (fun p q => p.t ≤ q.f)
theorem pt_mem {t p b : Sp} (hp : p.f ≤ p.t) (h : b ∈ pt t p) : p.f ≤ b.f ∧ b.t ≤ p.t ∧ b.f ≤ b.t := by
  unfold pt at h
  by_cases m : meetS p t = true
  · rw [if_pos m] at h
    have mi := (meetS_iff p t).1 m
    rcases List.mem_append.1 h with h | h
    · split at h
      · rw [List.mem_singleton.1 h]; dsimp only; omega
      · cases h
    · split at h
      · rw [List.mem_singleton.1 h]; dsimp only; omega
      · cases h
  · rw [if_neg m] at h
    rw [List.mem_singleton.1 h]; omega
theorem pt_row {t p : Sp} (hp : p.f ≤ p.t) : Row (pt t p) := by
  refine ⟨fun b hb => (pt_mem hp hb).2.2, ?_⟩
  unfold pt
  by_cases m : meetS p t = true
  · have mi := (meetS_iff p t).1 m
    rw [if_pos m]
    split <;> split <;> simp <;> omega
  · rw [if_neg m]; simp
theorem wo_mem {t b : Sp} {l : List Sp} (hl : ∀ p ∈ l, p.f ≤ p.t) (h : b ∈ wo t l) : ∃ p ∈ l, p.f ≤ b.f ∧ b.t ≤ p.t ∧ b.f ≤ b.t := by
  obtain ⟨p, hp, hb⟩ := List.mem_flatMap.1 h
  exact ⟨p, hp, pt_mem (hl p hp) hb⟩
theorem wo_row {t : Sp} : ∀ {l : List Sp}, Row l → Row (wo t l)
  | [], _ => ⟨fun p hp => (by cases hp), List.Pairwise.nil⟩
  | p :: l, h => by
    have hl : Row l := ⟨fun q hq => h.1 q (List.mem_cons_of_mem _ hq), (List.pairwise_cons.1 h.2).2⟩
    have hp := h.1 p List.mem_cons_self
    have ih := wo_row (t := t) hl
    rw [wo_cons]
    refine ⟨fun b hb => ?_, List.pairwise_append.2 ⟨(pt_row hp).2, ih.2, fun a ha b hb => ?_⟩⟩
    · rcases List.mem_append.1 hb with hb | hb
      · exact (pt_row hp).1 b hb
      · exact ih.1 b hb
    · obtain ⟨q, hq, h1, h2, h3⟩ := wo_mem hl.1 hb
      have := (List.pairwise_cons.1 h.2).1 q hq
      have := (pt_mem hp ha).2.1
      omega
theorem wo_far {t : Sp} : ∀ {l : List Sp}, (∀ q ∈ l, t.t ≤ q.f) → wo t l = l
  | [], _ => rfl
  | q :: l, h => by
    rw [wo_cons, wo_far fun x hx => h x (List.mem_cons_of_mem _ hx)]
    have := h q List.mem_cons_self
    unfold pt
    rw [if_neg (fun m => by have := (meetS_iff q t).1 m; omega)]
    rfl
theorem pt_two (t p : Sp) : (pt t p).length ≤ 2 := by
  unfold pt
  split
  · split <;> split <;> simp
  · simp
theorem wo_length {t : Sp} : ∀ {l : List Sp}, Row l → (wo t l).length ≤ l.length + 1
  | [], _ => Nat.zero_le _
  | p :: l, h => by
    have hl : Row l := ⟨fun q hq => h.1 q (List.mem_cons_of_mem _ hq), (List.pairwise_cons.1 h.2).2⟩
    have ih := wo_length (t := t) hl
    rw [wo_cons, List.length_append, List.length_cons]
    by_cases c : meetS p t = true ∧ p.f < t.f ∧ t.t < p.t
    · have hf : wo t l = l := wo_far fun q hq => by have := (List.pairwise_cons.1 h.2).1 q hq; omega
      rw [hf]
      have := pt_two t p
      omega
    · have : (pt t p).length ≤ 1 := by
        unfold pt
        by_cases m : meetS p t = true
        · rw [if_pos m]
          have c' : ¬ (p.f < t.f ∧ t.t < p.t) := fun h => c ⟨m, h⟩
          split <;> split <;> simp <;> omega
        · rw [if_neg m]; simp
      omega
theorem wo_ok {t : Sp} (ht : t.Ok) {l : List Sp} (h : ∀ p ∈ l, p.Ok) : ∀ b ∈ wo t l, b.Ok := by
  intro b hb
  obtain ⟨p, hp, hb⟩ := List.mem_flatMap.1 hb
  have ok := h p hp
  unfold pt at hb
  split at hb
  · rcases List.mem_append.1 hb with hb | hb
    · split at hb
      · rw [List.mem_singleton.1 hb]; exact ⟨ok.1, ht.1⟩
      · cases hb
    · split at hb
      · rw [List.mem_singleton.1 hb]; exact ⟨ht.2, ok.2⟩
      · cases hb
  · rw [List.mem_singleton.1 hb]; exact ok
/-- Which places are left. -/
theorem hadS_append (a b : List Sp) (i : Nat) : hadS (a ++ b) i = hadS a i + hadS b i := by unfold hadS; rw [List.filter_append, List.length_append]
theorem hadS_one (p : Sp) (i : Nat) : hadS [p] i = if hasS p i = true then 1 else 0 := by unfold hadS; by_cases h : hasS p i = true <;> simp [h]
theorem hadS_nil (i : Nat) : hadS [] i = 0 := rfl
theorem pt_had (t p : Sp) (i : Nat) : hadS (pt t p) i = if hasS t i = true then 0 else hadS [p] i := by
  unfold pt
  by_cases m : meetS p t = true
  · have mi := (meetS_iff p t).1 m
    rw [if_pos m, hadS_append]
    have h1 : ∀ (c : Prop) [Decidable c] (x : Sp), hadS (if c then [x] else []) i = if c ∧ hasS x i = true then 1 else 0 := fun c _ x => by
      by_cases hc : c
      · rw [if_pos hc, hadS_one]; simp [hc]
      · rw [if_neg hc, hadS_nil, if_neg (fun h => hc h.1)]
    rw [h1, h1, hadS_one]
    simp only [hasS_iff]
    split <;> split <;> (try split) <;> (try split) <;> first | rfl | omega
  · rw [if_neg m]
    split
    · rename_i h
      rw [hadS_one, if_neg]
      intro hp
      exact m (meet_at hp h)
    · rfl
theorem wo_had (t : Sp) (i : Nat) : ∀ l : List Sp, hadS (wo t l) i = if hasS t i = true then 0 else hadS l i
  | [] => by simp [wo, hadS_nil]
  | p :: l => by
    rw [wo_cons, hadS_append, wo_had t i l, pt_had, show p :: l = [p] ++ l from rfl, hadS_append]
    split <;> rfl
/-- What is left of a span behind so many. -/
def lf (s : Sp) (k : List Sp) : List Sp := k.foldl (fun l t => wo t l) (if s.f ≤ s.t then [s] else [])
theorem lf_snoc (s t : Sp) (k : List Sp) : lf s (k ++ [t]) = wo t (lf s k) := by unfold lf; rw [List.foldl_append]; rfl
theorem fold_had (i : Nat) : ∀ (k L : List Sp), hadS (k.foldl (fun l t => wo t l) L) i = if k.any (fun t => hasS t i) = true then 0 else hadS L i
  | [], L => by simp
  | t :: k, L => by
    rw [List.foldl_cons, fold_had i k (wo t L), wo_had, List.any_cons]
    cases hasS t i <;> cases k.any (fun t => hasS t i) <;> simp
theorem lf_had (s : Sp) (k : List Sp) (i : Nat) : hadS (lf s k) i = if k.any (fun t => hasS t i) = true then 0 else if hasS s i = true then 1 else 0 := by
  unfold lf
  rw [fold_had]
  by_cases h : s.f ≤ s.t
  · rw [if_pos h, hadS_one]
  · rw [if_neg h, hadS_nil]
    have : ¬ hasS s i = true := fun e => by have := (hasS_iff s i).1 e; omega
    rw [if_neg this]
theorem lf_one (s : Sp) (k : List Sp) (i : Nat) : hadS (lf s k) i ≤ 1 := by
  rw [lf_had]
  split
  · omega
  · split <;> omega
theorem fold_row : ∀ (k L : List Sp), Row L → Row (k.foldl (fun l t => wo t l) L) ∧ (k.foldl (fun l t => wo t l) L).length ≤ L.length + k.length
  | [], L, h => ⟨h, Nat.le_refl _⟩
  | t :: k, L, h => by
    obtain ⟨a, b⟩ := fold_row k (wo t L) (wo_row h)
    have := wo_length (t := t) h
    exact ⟨a, by rw [List.foldl_cons, List.length_cons]; omega⟩
theorem lf_row (s : Sp) (k : List Sp) : Row (lf s k) ∧ (lf s k).length ≤ 1 + k.length := by
  unfold lf
  by_cases h : s.f ≤ s.t
  · rw [if_pos h]
    exact fold_row k [s] ⟨fun p hp => by rw [List.mem_singleton.1 hp]; exact h, List.pairwise_singleton _ _⟩
  · rw [if_neg h]
    obtain ⟨a, b⟩ := fold_row k [] ⟨fun p hp => (by cases hp), List.Pairwise.nil⟩
    exact ⟨a, by rw [List.length_nil] at b; omega⟩
theorem lf_ok {s : Sp} (hs : s.Ok) : ∀ {k : List Sp}, (∀ t ∈ k, t.Ok) → ∀ p ∈ lf s k, p.Ok := by
  have : ∀ (k L : List Sp), (∀ t ∈ k, t.Ok) → (∀ p ∈ L, p.Ok) → ∀ p ∈ k.foldl (fun l t => wo t l) L, p.Ok := by
    intro k
    induction k with
    | nil => intro L _ h; exact h
    | cons t k ih => intro L hk hL; exact ih (wo t L) (fun u hu => hk u (List.mem_cons_of_mem _ hu)) (wo_ok (hk t List.mem_cons_self) hL)
  intro k hk
  refine this k _ hk fun p hp => ?_
  split at hp
  · rw [List.mem_singleton.1 hp]; exact hs
  · cases hp
theorem lf_le {N : Nat} {s : Sp} (hs : s.t ≤ N) : ∀ {k : List Sp}, (∀ t ∈ k, t.f ≤ N) → ∀ p ∈ lf s k, p.t ≤ N := by
  have : ∀ (k L : List Sp), (∀ t ∈ k, t.f ≤ N) → (∀ p ∈ L, p.t ≤ N) → ∀ p ∈ k.foldl (fun l t => wo t l) L, p.t ≤ N := by
    intro k
    induction k with
    | nil => intro L _ h; exact h
    | cons t k ih =>
      intro L hk hL
      refine ih (wo t L) (fun u hu => hk u (List.mem_cons_of_mem _ hu)) fun b hb => ?_
      obtain ⟨p, hp, hb⟩ := List.mem_flatMap.1 hb
      have ok := hL p hp
      have tk := hk t List.mem_cons_self
      unfold pt at hb
      split at hb
      · rcases List.mem_append.1 hb with hb | hb
        · split at hb
          · rw [List.mem_singleton.1 hb]; exact tk
          · cases hb
        · split at hb
          · rw [List.mem_singleton.1 hb]; exact ok
          · cases hb
      · rw [List.mem_singleton.1 hb]; exact ok
  intro k hk
  refine this k _ hk fun p hp => ?_
  split at hp
  · rw [List.mem_singleton.1 hp]; exact hs
  · cases hp
theorem sum_had : ∀ (P : List Sp) (N : Nat), (∀ p ∈ P, p.t ≤ N) → (∀ i, hadS P i ≤ 1) → sumS P = cnt (fun i => decide (hadS P i = 1)) N
  | [], N, _, _ => by rw [cnt_none N (fun i _ => by simp [hadS_nil])]; rfl
  | p :: P, N, hN, h1 => by
    have e : ∀ i, hadS (p :: P) i = (if hasS p i = true then 1 else 0) + hadS P i := fun i => by
      rw [show p :: P = [p] ++ P from rfl, hadS_append, hadS_one]
    have ih := sum_had P N (fun q hq => hN q (List.mem_cons_of_mem _ hq)) (fun i => by have := h1 i; rw [e i] at this; omega)
    show lenS p + sumS P = _
    rw [len_cnt p N (hN p List.mem_cons_self), ih, ← cnt_or N (fun i _ a b => by
      have := h1 i
      rw [e i, if_pos a] at this
      have := of_decide_eq_true b
      omega)]
    refine cnt_congr N fun i _ => ?_
    have := h1 i
    rw [e i] at this ⊢
    by_cases c : hasS p i = true
    · rw [if_pos c] at this ⊢
      have z : hadS P i = 0 := by omega
      rw [c, z]; rfl
    · rw [if_neg c, Bool.eq_false_iff.2 c, Nat.zero_add]; rfl
/-- A span adds to what is covered the places that none ahead has. -/
theorem cov_lf (s : Sp) (k : List Sp) (N : Nat) (hs : s.t ≤ N) (hk : ∀ t ∈ k, t.f ≤ N) : covN (k ++ [s]) N = covN k N + sumS (lf s k) := by
  rw [sum_had (lf s k) N (lf_le hs hk) (lf_one s k)]
  unfold covN
  rw [← cnt_or N (fun i _ a b => by
    have := of_decide_eq_true b
    rw [lf_had, if_pos a] at this
    omega)]
  refine cnt_congr N fun i _ => ?_
  rw [lf_had, List.any_append]
  cases hk : k.any (fun t => hasS t i) <;> cases hh : hasS s i <;> simp [hh]
theorem sumS_take_le (P : List Sp) (j : Nat) : sumS (P.take j) ≤ sumS P := by
  induction P generalizing j with
  | nil => simp [sumS]
  | cons p P ih =>
    cases j with
    | zero => simp [sumS]
    | succ j => rw [List.take_succ_cons]; have := ih j; simp only [sumS]; omega
end Go.Proofs.Ytolicfackceomaa
