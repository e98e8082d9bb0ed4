/-
  Words for the walks of layer 5's statements: whether a polynomial is a rule, as one word; how a row goes on keeps the rule.
-/
import Derived.Test.YtfpbfibnkknhdaaDoorMsyJ
namespace Go.Proofs.YtfpbfibnkknhdaaDoor
open Go.RowKit G
set_option linter.unusedVariables false

/-- r tells whether p is a rule of the first m bits. -/
def Rb (r : Bool) (s : Nat → Bool) (m p : Nat) : Prop := r = true ↔ Rl s m p
theorem rb_yes {s : Nat → Bool} {m p : Nat} (h : Rl s m p) : Rb true s m p := ⟨fun _ => h, fun _ => rfl⟩
theorem rb_no {s : Nat → Bool} {m p : Nat} (h : ¬ Rl s m p) : Rb false s m p := ⟨fun e => (by cases e), fun k => (h k).elim⟩
/-- What lies before stays. -/
theorem gs_pre (N : Nat) (l : List Bool) : ∀ k i, i < l.length → rw_ (gs N l k) i = rw_ l i := by
  intro k
  induction k with
  | zero => intro i _; rfl
  | succ k ih =>
    intro i hi
    have e : rw_ (gs N l (k + 1)) i = rw_ (gs N l k) i := by
      unfold rw_
      rw [gs, getD_append_at, gs_len, if_neg (by omega)]
    rw [e, ih i hi]
/-- A row that goes on by N keeps N's rule. -/
theorem gs_rule (N : Nat) (l : List Bool) (h2 : 2 ≤ len N) (hl : len N ≤ l.length + 1) : ∀ k i, l.length < i + len N → i + len N ≤ l.length + k → od (rw_ (gs N l k)) N i = false := by
  intro k
  have h0 : N ≠ 0 := fun e => by subst e; rw [len_zero] at h2; omega
  induction k with
  | zero => intro i h1 h3; omega
  | succ k ih =>
    intro i h1 h3
    have e : ∀ j, j < l.length + k → rw_ (gs N l (k + 1)) j = rw_ (gs N l k) j := fun j hj => by
      unfold rw_
      rw [gs, getD_append_at, gs_len, if_neg (by omega)]
    by_cases hi : i + len N ≤ l.length + k
    · rw [← ih i h1 hi]
      exact od_ext (fun j hj => e _ (by omega))
    · have ei : i = l.length + k + 1 - len N := by omega
      obtain ⟨L, hL⟩ : ∃ L, len N = L + 1 := ⟨len N - 1, by omega⟩
      have top : N.testBit L = true := by have := len_bit h0; rwa [hL] at this
      have a : od (rw_ (gs N l (k + 1))) N i = (odN (rw_ (gs N l (k + 1))) N i L ^^ rw_ (gs N l (k + 1)) (i + L)) := by
        unfold od; rw [hL, odN, top]; simp
      have b : rw_ (gs N l (k + 1)) (i + L) = od (rw_ (gs N l k)) N i := by
        have : i + L = (gs N l k).length := by rw [gs_len]; omega
        rw [this, ei]
        conv => lhs; unfold rw_; rw [gs, getD_append_at, if_pos rfl]
      have c : od (rw_ (gs N l k)) N i = odN (rw_ (gs N l k)) N i L := od_next hL (by rw [gs_len]; omega)
      have d : odN (rw_ (gs N l (k + 1))) N i L = odN (rw_ (gs N l k)) N i L := odN_ext _ (fun j hj _ => e _ (by omega))
      rw [a, b, c, d]; simp
/-- A row with a rule goes on by that rule from its first bits as it does. -/
theorem gs_back (Q : Nat) (G : List Bool) (n e : Nat) (hn : G.length = n) (hQ : Rl (rw_ G) n Q) (h2 : 2 ≤ len Q) (he : len Q = e + 1) (hle : e ≤ n) : gs Q (G.take e) (n - e) = G := by
  have lt : (G.take e).length = e := by rw [List.length_take]; omega
  refine List.ext_getElem (by rw [gs_len, lt]; omega) (fun i h3 h4 => ?_)
  have h := goes_same (s := rw_ (gs Q (G.take e) (n - e))) (t := rw_ G) (p := Q) (L := e) (m := n) h2 (by omega)
    (fun i a b => gs_rule Q (G.take e) h2 (by omega) (n - e) i (by omega) (by omega)) (fun i a b => hQ.2 i b)
    (fun i hi => by
      rw [gs_pre _ _ _ _ (by omega)]
      unfold rw_
      rw [List.getD_eq_getElem?_getD, List.getD_eq_getElem?_getD, List.getElem?_take, if_pos hi]) i (by omega)
  unfold rw_ at h
  rw [List.getD_eq_getElem?_getD, List.getD_eq_getElem?_getD, List.getElem?_eq_getElem h3, List.getElem?_eq_getElem h4] at h
  simpa using h
end Go.Proofs.YtfpbfibnkknhdaaDoor
