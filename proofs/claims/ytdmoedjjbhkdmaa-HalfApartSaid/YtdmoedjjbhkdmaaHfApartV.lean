/-
  HalfApart answers true, from what half's calls answer.
-/
import Derived.Test.YtdmoedjjbhkdmaaHfApartW
namespace Go.Proofs.Ytdmoedjjbhkdmaa
open Go.RowKit G
set_option linter.unusedVariables false
set_option maxRecDepth 100000

theorem num_of_words {n m : Nat} (h : ((hiW n : Nat) : Int) = ((hiW m : Nat) : Int) ∧ ((loW n : Nat) : Int) = ((loW m : Nat) : Int)) : n = m := by
  obtain ⟨a, b⟩ := h
  have a1 : hiW n = hiW m := by exact_mod_cast a
  have b1 : loW n = loW m := by exact_mod_cast b
  unfold hiW at a1
  unfold loW at b1
  omega
theorem eq_bool {a b c d : Int} {e : Bool} (h : (a = c ∧ b = d) ↔ e = true) : (a == c && b == d) = e := by
  cases e
  · by_cases h1 : a = c <;> by_cases h2 : b = d <;> simp [h1, h2]
    exact absurd (h.1 ⟨h1, h2⟩) (by decide)
  · obtain ⟨h1, h2⟩ := h.2 rfl
    simp [h1, h2]
theorem halfApart (X : HF) (aw : Hid (∀ W, Calls Try.prog 8 #[] W (Bl true W))) (x : Hs) (n m : Nat) (hx : x.Ok) (hn : n < 340282366920938463463374607431768211456) (hm : m < 340282366920938463463374607431768211456) (w : World) :
    Calls Try.prog 7 #[x.val, U n, U m] w (Bl true w) := by
  have J1 := X.jump x n hx hn
  have J2 := X.jump x m hx hm
  have okn : Hs.Ok ⟨n, x.K, false⟩ := ⟨hn, hx.k⟩
  have okm : Hs.Ok ⟨m, x.K, false⟩ := ⟨hm, hx.k⟩
  have okn' : Hs.Ok ⟨n, x.K, true⟩ := ⟨hn, hx.k⟩
  have okm' : Hs.Ok ⟨m, x.K, true⟩ := ⟨hm, hx.k⟩
  refine papartMain aw x.w _ _ _ _ _ _ _ _ _ _ _ _ _ _ (decide (n = m)) w (Lib.hid J1) (Lib.hid J2) (Lib.hid ?_) (Lib.hid (X.word ⟨n, x.K, false⟩ okn)) (Lib.hid (X.step ⟨n, x.K, false⟩ okn)) (Lib.hid (X.word ⟨n, x.K, true⟩ okn'))
    (Lib.hid (X.word ⟨m, x.K, false⟩ okm)) (Lib.hid (X.step ⟨m, x.K, false⟩ okm)) (Lib.hid (X.word ⟨m, x.K, true⟩ okm')) (Lib.hid fun W => ?_)
  · by_cases e : n = m
    · subst e
      exact .inl ⟨decide_eq_true rfl, rfl, rfl, rfl, rfl, rfl⟩
    · refine .inr ⟨decide_eq_false e, ne2_of fun h => e (num_of_words h), ne3_of fun h => e ?_⟩
      obtain ⟨h1, h2, h3⟩ := h
      exact jumpH_apart hn hm (Hs.same (num_of_words ⟨h1, h2⟩) rfl h3)
  · rw [eqD, eq_bool]
    constructor
    · rintro ⟨h1, h2⟩
      have h1' : wordH ⟨n, x.K, false⟩ = wordH ⟨m, x.K, false⟩ := by exact_mod_cast h1
      have h2' : wordH ⟨n, x.K, true⟩ = wordH ⟨m, x.K, true⟩ := by exact_mod_cast h2
      exact decide_eq_true (words_apart hx.k hn hm h1' h2')
    · intro h
      have e : n = m := of_decide_eq_true h
      subst e
      exact ⟨rfl, rfl⟩
end Go.Proofs.Ytdmoedjjbhkdmaa
