/-
  What the calls Same and Rule of the reference of layer 5 answer.
-/
import Derived.Test.YtfpbfibnkknhdaaDoorMsyF
import Derived.Test.YtfpbfibnkknhdaaDoorGfpTb
namespace Go.Proofs.YtfpbfibnkknhdaaDoor
open Go.RowKit G
set_option linter.unusedVariables false

/-- Are two rows the same? -/
def sameB (a b : List Bool) : Bool := decide (a = b)
theorem sameB_false {us vs : List Bool} {k : Nat} (h : us.getD k false ≠ vs.getD k false) : sameB us vs = false := by
  unfold sameB; exact decide_eq_false (fun e => h (by rw [e]))
theorem sameB_true {us vs : List Bool} (hl : us.length = vs.length) (h : ∀ j, j < us.length → us.getD j false = vs.getD j false) : sameB us vs = true := by
  unfold sameB
  refine decide_eq_true (List.ext_getElem hl (fun i h1 h2 => ?_))
  have := h i h1
  simpa [List.getD_eq_getElem?_getD, List.getElem?_eq_getElem h1, List.getElem?_eq_getElem h2] using this
set_option maxRecDepth 100000 in
set_option maxHeartbeats 1000000 in
theorem sameLenB (A B : Option Addr) (ca cb n m : Nat) (hne : n ≠ m) (w : World) :
    Calls Tryd.prog 10 #[.slice A n ca, .slice B m cb] w (fun e w' => e = .returned (.bool false) ∧ ∃ n, w' = w.drewN n) := by
  have h1 : (n != m) = true := by simpa using hne
  have h2 : ((n : Int) != (m : Int)) = true := by simp; omega
  have h3 : (n == m) = false := by simpa using hne
  go_enter Tryd.func10, Tryd.ntmps10
  go_wp2
  go_ret
  exact ⟨rfl, 0, rfl⟩
set_option maxRecDepth 100000 in
set_option maxHeartbeats 1000000 in
theorem sameWalkB (A B : Option Addr) (ca cb n : Nat) (us vs : List Bool) (hu : us.length = n) (hv : vs.length = n) (hn : n ≤ 1000000) (w : World) (P : Brs w A ca us) (Q : Brs w B cb vs) :
    Calls Tryd.prog 10 #[.slice A n ca, .slice B n cb] w (fun e w' => e = .returned (.bool (sameB us vs)) ∧ ∃ n, w' = w.drewN n) := by
  have HP := Lib.hid P
  have HQ := Lib.hid Q
  have HU := Lib.hid hu
  have HV := Lib.hid hv
  clear P Q hu hv
  go_enter Tryd.func10, Tryd.ntmps10
  go_wp2_with fail
  go_loopw [5] (fun i wr => ∃ k q : Nat, k ≤ n ∧ i = .int .i64 k ∧ wr = w.drewN q ∧ Hid (∀ j, j < k → us.getD j false = vs.getD j false)) (fun i _ => n - (intOf i).toNat)
  case atStart => exact ⟨0, 0, by omega, rfl, rfl, Lib.hid (fun j hj => by omega)⟩
  case round =>
    obtain ⟨k, q, hk, rfl, rfl, hs⟩ := hrel
    by_cases hlt : k < n
    · have kl : (k : Int) < (n : Int) := by omega
      have k0 : (0 : Int) ≤ (k : Int) := by omega
      obtain ⟨b, o, rfl, q1⟩ := HP.out.cell k (by rw [HU.out]; exact hlt)
      obtain ⟨b', o', rfl, q2⟩ := HQ.out.cell k (by rw [HV.out]; exact hlt)
      by_cases he : us.getD k false = vs.getD k false
      · rw [← he] at q2
        have HE := Lib.hid he
        clear he
        generalize us.getD k false = y at q1 q2
        go_wp2_with fail
        go_quiet (fail)
        go_wp2_with fail
        go_roundw
        case rel => exact ⟨k + 1, _, by omega, by go_num, rfl, Lib.hid (fun j hj => by
          by_cases e : j = k
          · rw [e]; exact HE.out
          · exact hs.out j (by omega))⟩
        case measure => simp [intOf]; omega
      · have E := Lib.hid (sameB_false he)
        generalize us.getD k false = y at q1 he
        generalize vs.getD k false = z at q2 he
        cases y <;> cases z
        · exact (he rfl).elim
        · clear he
          go_wp2_with fail
          go_quiet (fail)
          go_wp2_with fail
          go_ret
          exact ⟨by rw [E.out]; rfl, _, World.drewN_drewN _ _ _⟩
        · clear he
          go_wp2_with fail
          go_quiet (fail)
          go_wp2_with fail
          go_ret
          exact ⟨by rw [E.out]; rfl, _, World.drewN_drewN _ _ _⟩
        · exact (he rfl).elim
    · have kl : ¬ ((k : Int) < (n : Int)) := by omega
      have E := Lib.hid (sameB_true (us := us) (vs := vs) (HU.out.trans HV.out.symm) (fun j hj => hs.out j (by rw [HU.out] at hj; omega)))
      go_wp2_with fail
      go_ret
      exact ⟨by rw [E.out]; rfl, q, rfl⟩
theorem gSameB {A B : Option Addr} {L K ca cb : Nat} {xs ys : List Bool} {w : World} (b : Bool) (P : Brs w A ca xs) (Q : Brs w B cb ys) (hL : xs.length = L) (hK : ys.length = K) (hb : sameB xs ys = b) (hl : L ≤ 1000000) :
    Calls Tryd.prog 10 #[.slice A L ca, .slice B K cb] w (Bl b w) := by
  subst hL hK hb
  by_cases h : xs.length = ys.length
  · rw [← h]
    exact (sameWalkB A B ca cb _ xs ys rfl h.symm hl w P Q).mono fun _ _ ⟨a, b⟩ => ⟨a, below_of_drawn b⟩
  · have e : sameB xs ys = false := decide_eq_false (fun e => h (by rw [e]))
    rw [e]
    exact (sameLenB A B ca cb _ _ h w).mono fun _ _ ⟨a, b⟩ => ⟨a, below_of_drawn b⟩

theorem rl_iff {s : Nat → Bool} {M N : Nat} (r : Bool) (hr : r = true ↔ Rl s M N) (h0 : N ≠ 0) : (∀ i, i + len N ≤ M → od s N i = false) → r = true := fun h => hr.2 ⟨h0, h⟩
set_option maxRecDepth 100000 in
set_option maxHeartbeats 4000000 in
theorem rRuleWalk (A Al : Option Addr) (ca cl L M N : Nat) (xs : List Nat) (l : List Bool) (r : Bool) (hL : Hid (xs.length = L)) (hN : Hid (leB xs = N)) (hn : Hid (len N = L)) (hl : Hid (l.length = M)) (h0 : 0 < L) (b1 : L ≤ 1000000) (b2 : M ≤ 1000000) (hr : Hid (r = true ↔ Rl (rw_ l) M N)) (w : World) (P : Hid (Lst w A ca xs)) (R : Hid (Brs w Al cl l)) :
    Calls Tryd.prog 13 #[.slice A L ca, .slice Al M cl] w (fun e w' => e = .returned (.bool r) ∧ w = w') := by
  have l0 : ((L : Int) == 0) = false := by
    have : (L : Int) ≠ 0 := by omega
    simpa using this
  have l1 : (L == 0) = false := by simp; omega
  go_enter Tryd.func13, Tryd.ntmps13
  go_wp2_with fail
  go_loopg [5] M (fun g i wr => ∃ k : Nat, k + g = M ∧ i = .int .i64 k ∧ Hid (∀ j, j < k → od (rw_ l) N j = false) ∧ wr = w)
  case atStart => exact ⟨0, by omega, rfl, Lib.hid (fun j hj => by omega), rfl⟩
  case round =>
    obtain ⟨i, hi, rfl, HO, rfl⟩ := hrel
    obtain ⟨go, rfl⟩ : ∃ go, go = gk := ⟨_, rfl⟩
    by_cases hlt : i + L ≤ M
    · have il : (i : Int) + (L : Int) - 1 < (M : Int) := by omega
      go_wp2_with fail
      go_loopg [6, 7] L (fun g v kk wr' => ∃ k n : Nat, k + g = L ∧ n ≤ k ∧ kk = .int .i64 k ∧ v = .int .i64 n ∧ Hid (decide (n % 2 = 1) = odN (rw_ l) N i k) ∧ wr' = wr)
      case atStart => exact ⟨0, 0, by omega, by omega, rfl, rfl, Lib.hid rfl, rfl⟩
      case round =>
        obtain ⟨k, n, hk, nk, rfl, rfl, HD, rfl⟩ := hrel
        by_cases hlt2 : k < L
        · have kl : (k : Int) < (L : Int) := by omega
          have k0 : (0 : Int) ≤ (k : Int) := by omega
          obtain ⟨b, o, rfl, q1⟩ := P.out.cell k (by rw [hL.out]; exact hlt2)
          obtain ⟨t, ht⟩ : ∃ t, t = i + k := ⟨_, rfl⟩
          have t1 : (i : Int) + (k : Int) = (t : Int) := by omega
          have t2 : (t : Int) < (M : Int) := by omega
          have t3 : (0 : Int) ≤ (t : Int) := by omega
          obtain ⟨b', o', rfl, q2⟩ := R.out.cell t (by rw [hl.out]; omega)
          have hb : N.testBit k = decide (xs.getD k 0 = 1) := by rw [← hN.out]; exact bit_leB xs k P.out.bit
          have xb := P.out.bit.get k
          have HE := Lib.hid (show odN (rw_ l) N i (k + 1) = (odN (rw_ l) N i k ^^ (decide (xs.getD k 0 = 1) && l.getD t false)) from by rw [odN, hb, ← ht]; rfl)
          clear ht hb
          generalize xs.getD k 0 = x at q1 xb HE
          generalize l.getD t false = u at q2 HE
          by_cases hx : x = 1
          · subst hx
            cases u
            · go_wp2_with fail
              go_roundg (L - (k + 1))
              case measure => omega
              case rel => exact ⟨k + 1, n, by omega, by omega, by go_num, rfl, Lib.hid (by rw [HE.out, HD.out]; simp), rfl⟩
            · go_wp2_with fail
              go_roundg (L - (k + 1))
              case measure => omega
              case rel => exact ⟨k + 1, n + 1, by omega, by omega, by go_num, by go_num, Lib.hid (by
                rw [HE.out, ← HD.out]
                rcases Nat.mod_two_eq_zero_or_one n with e | e
                · rw [show (n + 1) % 2 = 1 from by omega, e]; rfl
                · rw [show (n + 1) % 2 = 0 from by omega, e]; rfl), rfl⟩
          · obtain rfl : x = 0 := by omega
            go_wp2_with fail
            go_roundg (L - (k + 1))
            case measure => omega
            case rel => exact ⟨k + 1, n, by omega, by omega, by go_num, rfl, Lib.hid (by rw [HE.out, HD.out]; simp), rfl⟩
        · obtain rfl : k = L := by omega
          have kl : ¬ ((k : Int) < (k : Int)) := by omega
          have e := HD.out
          rw [odN_more _ _ _ _ (by rw [hn.out]; exact Nat.le_refl _)] at e
          have HOD := Lib.hid e
          clear e
          rcases Nat.mod_two_eq_zero_or_one n with e | e
          · have e1 : (n : Int) % 2 = 0 := by omega
            go_wp2_with fail
            go_roundg (go - 1)
            case measure => omega
            case rel => exact ⟨i + 1, by omega, by go_num, Lib.hid (fun j hj => by
              by_cases ej : j = i
              · rw [ej, ← HOD.out, e]; rfl
              · exact HO.out j (by omega)), rfl⟩
          · have e1 : (n : Int) % 2 = 1 := by omega
            have E := Lib.hid (show r = false by
              cases hr' : r
              · rfl
              · have := (hr.out.1 hr').2 i (by rw [hn.out]; exact hlt)
                rw [← HOD.out, e] at this; cases this)
            go_wp2_with fail
            go_ret
            exact ⟨by rw [E.out]; rfl, rfl⟩
    · have il : ¬ ((i : Int) + (L : Int) - 1 < (M : Int)) := by omega
      have E := Lib.hid (rl_iff r hr.out (fun e => by have := hn.out; rw [e, len_zero] at this; omega) (fun j hj => HO.out j (by have := hn.out; omega)))
      go_wp2_with fail
      go_ret
      exact ⟨by rw [E.out]; rfl, rfl⟩
set_option maxHeartbeats 1000000 in
theorem rRuleZero (A Al : Option Addr) (ca cl M : Nat) (w : World) :
    Calls Tryd.prog 13 #[.slice A 0 ca, .slice Al M cl] w (fun e w' => e = .returned (.bool false) ∧ w = w') := by
  go_enter Tryd.func13, Tryd.ntmps13
  go_wp2_with fail
  go_ret
  exact ⟨rfl, rfl⟩
/-- Rule of the reference, of the own form. -/
theorem rRule {A Al : Option Addr} {ca cl L M : Nat} {l : List Bool} {w : World} (N : Nat) (r : Bool) (P : Lst w A ca (bitsOf N)) (R : Brs w Al cl l) (hL : (bitsOf N).length = L) (hl : l.length = M) (b1 : L ≤ 1000000) (b2 : M ≤ 1000000) (hr : r = true ↔ Rl (rw_ l) M N) :
    Calls Tryd.prog 13 #[.slice A L ca, .slice Al M cl] w (fun e w' => e = .returned (.bool r) ∧ w = w') := by
  by_cases h0 : L = 0
  · subst h0
    have e : r = false := by
      cases hr' : r
      · rfl
      · have := (hr.1 hr').1
        rw [bitsOf_len] at hL
        exact (this (len_zero_of hL)).elim
    rw [e]
    exact rRuleZero A Al ca cl M w
  · exact rRuleWalk A Al ca cl L M N _ l r (Lib.hid hL) (Lib.hid (leB_bitsOf N)) (Lib.hid (by rw [← bitsOf_len]; exact hL)) (Lib.hid hl) (by omega) b1 b2 (Lib.hid hr) w (Lib.hid P) (Lib.hid R)
end Go.Proofs.YtfpbfibnkknhdaaDoor
