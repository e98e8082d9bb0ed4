/-
  awake of layer 15's statements answers true.
-/
import Derived.Test.YtolicfackceomaaSpJ
import Derived.Test.YtolicfackceomaaSpK2
import Derived.Test.YtolicfackceomaaSpZ
import Derived.Test.YtolicfackceomaaSpY
import Derived.Test.YtolicfackceomaaSpS
namespace Go.Proofs.Ytolicfackceomaa
open Go.RowKit
set_option linter.unusedVariables false
set_option maxRecDepth 100000

theorem ofAll (x : Int) (h : 0 ≤ x ∧ x < 100) : TU 31 #[.int .u64 x] 0 x := by
  obtain ⟨n, rfl⟩ := Int.eq_ofNat_of_zero_le h.1
  intro w
  have := cOf n (n : Int) rfl (by omega) w
  unfold AnsW hiW loW at this
  rwa [Nat.div_eq_of_lt (by omega), Nat.mod_eq_of_lt (by omega)] at this
theorem wsS (f t : Nat) (hf : f < 100) (ht : t < 100) : Ws 0 (f : Int) 0 (t : Int) ⟨f, t⟩ := ⟨⟨by omega, by omega, by omega, by omega, by simp⟩, ⟨by omega, by omega, by omega, by omega, by simp⟩⟩
theorem wnS (n : Nat) (h : n < 100) : Wn 0 (n : Int) n := ⟨by omega, by omega, by omega, by omega, by omega⟩
theorem twA : tw (cntL [⟨1, 2⟩, ⟨3, 4⟩, ⟨3, 4⟩, ⟨1, 2⟩, ⟨5, 6⟩]) [⟨1, 2⟩, ⟨3, 4⟩, ⟨3, 4⟩, ⟨1, 2⟩, ⟨5, 6⟩] = [⟨1, 2⟩, ⟨3, 4⟩] := by decide
theorem cvA : covN [⟨1, 5⟩, ⟨3, 8⟩, ⟨9, 2⟩, ⟨10, 11⟩] 11 = 8 := by decide
theorem aw : Aw where
  h0 x y hx hy := cSp x y 0 x 0 y (Lib.hid (ofAll x hx)) (Lib.hid (ofAll y hy))
  h1 x hx := ofAll x hx
  h2 := sHalvesOk (wsS 3 8 (by decide) (by decide)) (by decide) (by decide)
  h3 := sHalvesShort (wsS 3 4 (by decide) (by decide)) (by decide) (by decide)
  h4 := sHalvesArg (wsS 3 2 (by decide) (by decide)) (by decide)
  h5 := sTakeOk (wsS 3 8 (by decide) (by decide)) (wnS 5 (by decide)) (by decide) (by decide)
  h6 := sTakeShort (wsS 3 8 (by decide) (by decide)) (wnS 6 (by decide)) (by decide) (by decide)
  h7 := sLen (wsS 3 8 (by decide) (by decide))
  h8 := sHas (wsS 3 8 (by decide) (by decide)) (wnS 3 (by decide))
  h9 := sHas (wsS 3 8 (by decide) (by decide)) (wnS 8 (by decide))
  h10 := sMeet (wsS 3 8 (by decide) (by decide)) (wsS 7 9 (by decide) (by decide))
  h11 := sMeet (wsS 3 8 (by decide) (by decide)) (wsS 8 9 (by decide) (by decide))
  h12 := sMeet (wsS 3 8 (by decide) (by decide)) (wsS 5 5 (by decide) (by decide))
  h13 := sRight (wsS 2 2 (by decide) (by decide))
  h14 W := cApart _ _ [⟨3, 8⟩, ⟨1, 3⟩, ⟨5, 5⟩] _ (sl_lit W [⟨3, 8⟩, ⟨1, 3⟩, ⟨5, 5⟩] _ _ rfl (by decide) (by decide)) (by decide)
  h15 W := cApart _ _ [⟨3, 8⟩, ⟨3, 8⟩] _ (sl_lit W [⟨3, 8⟩, ⟨3, 8⟩] _ _ rfl (by decide) (by decide)) (by decide)
  h16 W := cApart _ _ [⟨3, 2⟩] _ (sl_lit W [⟨3, 2⟩] _ _ rfl (by decide) (by decide)) (by decide)
  h17 W := (cTwice _ _ [⟨1, 2⟩, ⟨3, 4⟩, ⟨3, 4⟩, ⟨1, 2⟩, ⟨5, 6⟩] _ (sl_lit W [⟨1, 2⟩, ⟨3, 4⟩, ⟨3, 4⟩, ⟨1, 2⟩, ⟨5, 6⟩] _ _ rfl (by decide) (by decide)) (by decide)).mono fun e w' h => by
    rw [twA] at h
    obtain ⟨A, k, he, hs, hb⟩ := h
    exact ⟨⟨A, k, he, hs⟩, hb⟩
  h18 W A k h := (cOwn A k [⟨1, 2⟩, ⟨3, 4⟩] W h (by decide)).mono fun e w' ⟨B, j, he, hs, hb⟩ => ⟨⟨B, j, he, hs⟩, hb⟩
  h19 W := (cOwn _ _ [⟨1, 2⟩, ⟨3, 4⟩] _ (sl_lit W [⟨1, 2⟩, ⟨3, 4⟩] _ _ rfl (by decide) (by decide)) (by decide)).mono fun e w' ⟨B, j, he, hs, hb⟩ => ⟨⟨B, j, he, hs⟩, hb⟩
  h20 W A B k j h1 h2 := cSame A B k j [⟨1, 2⟩, ⟨3, 4⟩] [⟨1, 2⟩, ⟨3, 4⟩] W h1 h2 (by decide) (by decide)
  h21 W := (cCoverN _ _ [⟨1, 5⟩, ⟨3, 8⟩, ⟨9, 2⟩, ⟨10, 11⟩] _ (sl_lit W [⟨1, 5⟩, ⟨3, 8⟩, ⟨9, 2⟩, ⟨10, 11⟩] _ _ rfl (by decide) (by decide)) (by decide) 11 (by decide) (by decide)).mono fun e w' h => by
    rw [cvA] at h
    exact h
theorem awake15 : Hid (∀ w, Calls Try.prog 7 #[] w (fun e w' => e = .returned (.bool true) ∧ Below w.heap.size w w')) := Lib.hid fun w => awakeMain w (Lib.hid aw)
end Go.Proofs.Ytolicfackceomaa
