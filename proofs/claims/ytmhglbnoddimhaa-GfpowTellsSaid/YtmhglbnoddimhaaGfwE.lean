/-
  What the call Irreducible of package gfpow answers: whether nothing parts a polynomial (degrees of all numbers).
-/
import Derived.Test.YtmhglbnoddimhaaGfwD
namespace Go.Proofs.Ytmhglbnoddimhaa
open Go.RowKit G
set_option linter.unusedVariables false

set_option maxHeartbeats 1000000 in
theorem irrOut {A : Option Addr} {L ca : Nat} {xs : List Nat} {w : World} (d : Int) (P : Pol w A ca xs) (hL : xs.length = L) (hd : ((len (leN xs) : Nat) : Int) - 1 = d) (bL : L ≤ 20000) (h : d < 1 ∨ 256 < d) :
    Calls Try.prog 28 #[.slice A L ca] w (Bl false w) := by
  have D := Lib.hid (gDeg d P hL hd (by omega))
  clear P hL hd
  by_cases h1 : d < 1
  · clear h
    go_enter Try.func28, Try.ntmps28
    go_wp2_with fail
    refine (D.out).mono ?_
    rintro e w1 ⟨rfl, rfl⟩
    go_wp2_with fail
    go_ret
    exact ⟨rfl, Below.refl _ _⟩
  · have h2 : 256 < d := by omega
    have h3 : decide (d < 1) = false := by simp; omega
    clear h
    go_enter Try.func28, Try.ntmps28
    go_wp2_with fail
    refine (D.out).mono ?_
    rintro e w1 ⟨rfl, rfl⟩
    go_wp2_with fail
    go_ret
    exact ⟨rfl, Below.refl _ _⟩
/-- The power of x after so many squares. -/
def pk (p k : Nat) : Nat := if k = 0 then 2 else pr 2 (2 ^ k) p
theorem pk_zero (p : Nat) : pk p 0 = 2 := rfl
theorem pk_succ (p k : Nat) : pk p (k + 1) = pr 2 (2 ^ (k + 1)) p := if_neg (by omega)
theorem pk_step {p k : Nat} (hp : p ≠ 0) : rt (clm (pk p k) (pk p k)) p = pk p (k + 1) := by
  cases k with
  | zero =>
    rw [pk_zero, pk_succ, Nat.zero_add, Nat.pow_one]
    show _ = rt (pw 2 2) p
    rw [pw_2]
  | succ k => rw [pk_succ, pk_succ]; exact (pr_frob hp).symm
theorem pk_asked {p : Nat} (h : Asked p) {k : Nat} (hk : k < (len p - 1) / 2) : gc (pk p (k + 1) ^^^ 2) p = 1 := by
  rw [pk_succ]
  exact h (k + 1) (by omega) (by omega)
set_option maxRecDepth 100000 in
set_option maxHeartbeats 1000000 in
theorem irrWalk {A : Option Addr} {L ca : Nat} {xs : List Nat} {w : World} (D H p : Nat) (b : Bool) (P : Hid (Pol w A ca xs)) (hL : Hid (xs.length = L)) (hp : Hid (leN xs = p)) (hd : Hid (len p = D + 1)) (hH : Hid (D / 2 = H)) (d1 : 1 ≤ D) (d2 : D ≤ 256) (bL : L ≤ 20000) (hb : Hid ((b = true ∧ Asked p) ∨ (b = false ∧ ¬ Asked p))) :
    Calls Try.prog 28 #[.slice A L ca] w (Bl b w) := by
  have H0 := Lib.hid (show p ≠ 0 from by intro e; have := hd.out; rw [e, len_zero] at this; omega)
  have l3 := Lib.hid (show len p ≤ 64 * 5 from by rw [hd.out]; omega)
  have lP := Lib.hid (show (wordsOf p).length ≤ 50000 from Nat.le_trans (wl_len l3.out) (by omega))
  have lK := Lib.hid (show ∀ k, len (pk p k) ≤ 64 * 5 from fun k => by
    unfold pk
    split
    · decide
    · have := rt_lt (a := pw 2 (2 ^ k)) H0.out; have := l3.out; show len (rt _ _) ≤ _; omega)
  have lR := Lib.hid (show ∀ k, (wordsOf (pk p k)).length ≤ 20000 from fun k => Nat.le_trans (wl_len (lK.out k)) (by omega))
  have lZ := Lib.hid (show ∀ k, (wordsOf (pk p k ^^^ 2)).length ≤ 50000 from fun k => Nat.le_trans (wl_len (k := 5) (len_xor_le _ _ _ (lK.out k) (by decide))) (by omega))
  have lG := Lib.hid (show ∀ k, (wordsOf (gc (pk p k ^^^ 2) p)).length ≤ 50000 from fun k => Nat.le_trans (wl_gc (k := 5) (len_xor_le _ _ _ (lK.out k) (by decide)) l3.out) (by omega))
  have lx := Lib.hid (show (wordsOf 2).length ≤ 50000 from Nat.le_trans (wl 1 (by decide)) (by decide))
  have ez := Lib.hid (show leN (wordsOf p) ≠ 0 from by rw [leN_wordsOf]; exact H0.out)
  have q1 : ¬ ((D : Int) < 1) := by omega
  have q2 : ¬ (256 < (D : Int)) := by omega
  have eH := Lib.hid (show (D : Int) / 2 = (H : Int) from by have := hH.out; omega)
  have bH : H ≤ 128 := by have := hH.out; omega
  have hH2 := Lib.hid (show (len p - 1) / 2 = H from by rw [hd.out, Nat.add_sub_cancel]; exact hH.out)
  go_enter Try.func28, Try.ntmps28
  go_wp2_with fail
  refine (gDeg (D : Int) P.out hL.out (by rw [hp.out, hd.out]; omega) (by omega)).mono ?_
  rintro e w1 ⟨rfl, rfl⟩
  go_wp2_with fail
  refine (gOwn p P.out hL.out hp.out (by omega)).mono ?_
  rintro e w1 ⟨A1, c1, rfl, P1, hb1⟩
  have HB1 := Lib.hid hb1
  have HP1 := Lib.hid P1
  clear hb1 P1
  go_wp2_with fail
  refine (gX 1 2 1 rfl rfl (by decide) _).mono ?_
  rintro e w2 ⟨A2, c2, rfl, P2, hb2⟩
  have HB2 := Lib.hid (below_then HB1.out hb2)
  have HP12 := Lib.hid (HP1.out.below hb2)
  have HP2 := Lib.hid P2
  clear hb2 P2 HP1 HB1
  go_wp2_with fail
  refine (gX 0 1 0 rfl rfl (by decide) _).mono ?_
  rintro e w3 ⟨A3, c3, rfl, P3, hb3⟩
  have HB3 := Lib.hid (below_then HB2.out hb3)
  have HP13 := Lib.hid (HP12.out.below hb3)
  have HP23 := Lib.hid (HP2.out.below hb3)
  have HP3 := Lib.hid P3
  clear hb3 P3 HP12 HP2 HB2
  go_wp2_with fail
  rw [eH.out]
  go_loopg [6, 22] H (fun g v i wr => ∃ (k : Nat) (A' : Option Addr) (c' r : Nat), k + g = H ∧ i = .int .i64 k ∧ v = .slice A' (wordsOf r).length c' ∧ Hid (pk p k = r) ∧ Hid (Pol wr A' c' (wordsOf r)) ∧ Hid (Pol wr A1 c1 (wordsOf p)) ∧ Hid (Pol wr A2 c2 (wordsOf 2)) ∧ Hid (Pol wr A3 c3 (wordsOf 1)) ∧ Hid (Below w.heap.size w wr) ∧ Hid (∀ j, j < k → gc (pk p (j + 1) ^^^ 2) p = 1))
  case atStart => exact ⟨0, A2, c2, 2, by omega, rfl, rfl, Lib.hid rfl, HP23, HP13, HP23, HP3, HB3, Lib.hid (fun j hj => by omega)⟩
  case round =>
    obtain ⟨k, A', c', r, hk, rfl, rfl, hr, hS, hP, h2, h1, hB, hall⟩ := hrel
    by_cases hlt : k < H
    · have kl : (k : Int) < (H : Int) := by omega
      have k0 : (0 : Int) ≤ (k : Int) := by omega
      have lr := Lib.hid (show (wordsOf r).length ≤ 20000 from by rw [← hr.out]; exact lR.out _)
      have es := Lib.hid (show rt (clm (leN (wordsOf r)) (leN (wordsOf r))) (leN (wordsOf p)) = pk p (k + 1) from by rw [leN_wordsOf, leN_wordsOf, ← hr.out, pk_step H0.out])
      have lr2 := Lib.hid (Nat.le_trans (lR.out (k + 1)) (show 20000 ≤ 50000 by omega))
      have lz2 := Lib.hid (lZ.out (k + 1))
      have lg2 := Lib.hid (lG.out (k + 1))
      have bb := Lib.hid (show b = true → gc (pk p (k + 1) ^^^ 2) p = 1 from fun e => by
        rcases hb.out with ⟨_, h⟩ | ⟨h, _⟩
        · exact pk_asked h (by rw [hH2.out]; exact hlt)
        · rw [h] at e; cases e)
      have al := Lib.hid (show gc (pk p (k + 1) ^^^ 2) p = 1 → ∀ j, j < k + 1 → gc (pk p (j + 1) ^^^ 2) p = 1 from fun e j hj => by
        by_cases z : j = k
        · rw [z]; exact e
        · exact hall.out j (by omega))
      generalize hr2 : pk p (k + 1) = r2 at es lr2 lz2 lg2 bb al
      generalize hz : r2 ^^^ 2 = z at lz2 lg2 bb al
      generalize hg : gc z p = G at lg2 bb al
      have HR2 := Lib.hid hr2
      have HZ := Lib.hid (show leN (wordsOf r2) ^^^ leN (wordsOf 2) = z from by rw [leN_wordsOf, leN_wordsOf]; exact hz)
      have HG := Lib.hid (show gc (leN (wordsOf z)) (leN (wordsOf p)) = G from by rw [leN_wordsOf, leN_wordsOf]; exact hg)
      clear hr2 hz hg
      go_wp2_with fail
      refine (gSq r2 hS.out hP.out rfl rfl es.out lr.out lP.out ez.out).mono ?_
      rintro e w4 ⟨A4, c4, rfl, P4, hb⟩
      have HP4 := Lib.hid P4
      have HPp := Lib.hid (hP.out.below hb)
      have HPx := Lib.hid (h2.out.below hb)
      have HP1 := Lib.hid (h1.out.below hb)
      have HB4 := Lib.hid (below_then hB.out hb)
      clear hb P4 hP h2 h1 hB hS
      go_wp2_with fail
      refine (gAdd z HP4.out HPx.out rfl rfl HZ.out lr2.out lx.out).mono ?_
      rintro e w5 ⟨A5, c5, rfl, P5, hb⟩
      replace HP4 := Lib.hid (HP4.out.below hb)
      replace HPp := Lib.hid (HPp.out.below hb)
      replace HPx := Lib.hid (HPx.out.below hb)
      replace HP1 := Lib.hid (HP1.out.below hb)
      replace HB4 := Lib.hid (below_then HB4.out hb)
      have HP5 := Lib.hid P5
      clear hb P5
      go_wp2_with fail
      refine (gGcd G HP5.out HPp.out rfl rfl HG.out lz2.out lP.out).mono ?_
      rintro e w6 ⟨A6, c6, rfl, P6, hb⟩
      replace HP4 := Lib.hid (HP4.out.below hb)
      replace HPp := Lib.hid (HPp.out.below hb)
      replace HPx := Lib.hid (HPx.out.below hb)
      replace HP1 := Lib.hid (HP1.out.below hb)
      replace HB4 := Lib.hid (below_then HB4.out hb)
      have HP6 := Lib.hid P6
      clear hb P6 HP5
      by_cases g1 : G = 1
      · have sm := Lib.hid (show sameN (leN (wordsOf G)) (leN (wordsOf 1)) = true from by rw [g1]; exact sameN_self _)
        have al2 := Lib.hid (al.out g1)
        clear g1
        go_wp2_with fail
        refine (gSame true HP6.out HP1.out rfl rfl sm.out lg2.out).mono ?_
        rintro e w7 ⟨rfl, hb⟩
        replace HP4 := Lib.hid (HP4.out.below hb)
        replace HPp := Lib.hid (HPp.out.below hb)
        replace HPx := Lib.hid (HPx.out.below hb)
        replace HP1 := Lib.hid (HP1.out.below hb)
        replace HB4 := Lib.hid (below_then HB4.out hb)
        clear hb
        go_wp2_with fail
        go_roundg (gk - 1)
        case measure => omega
        case rel => exact ⟨k + 1, A4, c4, r2, by omega, by go_num, rfl, HR2, HP4, HPp, HPx, HP1, HB4, al2⟩
      · have sm := Lib.hid (show sameN (leN (wordsOf G)) (leN (wordsOf 1)) = false from by unfold sameN; rw [leN_wordsOf, leN_wordsOf]; simpa using g1)
        have hf := Lib.hid (show b = false from by
          cases hbb : b with
          | false => rfl
          | true => exact absurd (bb.out hbb) g1)
        clear g1
        go_wp2_with fail
        refine (gSame false HP6.out HP1.out rfl rfl sm.out lg2.out).mono ?_
        rintro e w7 ⟨rfl, hb⟩
        replace HB4 := Lib.hid (below_then HB4.out hb)
        clear hb
        go_wp2_with fail
        go_ret
        exact ⟨by rw [hf.out]; rfl, HB4.out⟩
    · obtain rfl : k = H := by omega
      have kl : ¬ ((k : Int) < (k : Int)) := by omega
      have hf := Lib.hid (show b = true from by
        rcases hb.out with ⟨h, _⟩ | ⟨_, h⟩
        · exact h
        · exfalso
          apply h
          intro i i1 i2
          have := hall.out (i - 1) (by rw [hH2.out] at i2; omega)
          rw [pk_succ, show i - 1 + 1 = i from by omega] at this
          exact this)
      go_wp2_with fail
      go_ret
      exact ⟨by rw [hf.out]; rfl, hB.out⟩
section
variable {A : Option Addr} {L ca : Nat} {xs : List Nat} {w : World}
theorem gIrrYes (P : Pol w A ca xs) (hL : xs.length = L) (bL : L ≤ 20000) (h : Irr (leN xs)) (hl : len (leN xs) ≤ 257) : Calls Try.prog 28 #[.slice A L ca] w (Bl true w) := by
  have h1 := h.1
  exact irrWalk (len (leN xs) - 1) _ _ true (Lib.hid P) (Lib.hid hL) (Lib.hid rfl) (Lib.hid (by omega)) (Lib.hid rfl) (by omega) (by omega) bL (Lib.hid (.inl ⟨rfl, asked_of_irr h⟩))
theorem gIrrNo (P : Pol w A ca xs) (hL : xs.length = L) (bL : L ≤ 20000) (h : ¬ Irr (leN xs)) : Calls Try.prog 28 #[.slice A L ca] w (Bl false w) := by
  by_cases h1 : ((len (leN xs) : Nat) : Int) - 1 < 1 ∨ 256 < ((len (leN xs) : Nat) : Int) - 1
  · exact irrOut _ P hL rfl bL h1
  · exact irrWalk (len (leN xs) - 1) _ _ false (Lib.hid P) (Lib.hid hL) (Lib.hid rfl) (Lib.hid (by omega)) (Lib.hid rfl) (by omega) (by omega) bL (Lib.hid (.inr ⟨rfl, fun a => h (irr_of_asked (by omega) a)⟩))
end
end Go.Proofs.Ytmhglbnoddimhaa
