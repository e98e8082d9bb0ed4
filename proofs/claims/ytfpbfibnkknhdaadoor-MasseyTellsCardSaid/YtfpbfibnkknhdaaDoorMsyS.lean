/-
  What the calls Length and Least of the reference of layer 5 answer, of rows of few bits.
-/
import Derived.Test.YtfpbfibnkknhdaaDoorMsyR
import Derived.Test.YtfpbfibnkknhdaaDoorMsyE
namespace Go.Proofs.YtfpbfibnkknhdaaDoor
open Go.RowKit G
set_option linter.unusedVariables false

theorem br_least (l : List Bool) (M : Nat) (hl : l.length = M) : Rl (rw_ l) M (br l) ∧ ∀ p, Rl (rw_ l) M p → len (br l) ≤ len p := by
  obtain ⟨f, B⟩ := br_ok l
  rw [hl] at B
  exact ⟨B.rule, B.least⟩
theorem some_bool (p : Prop) : ∃ r : Bool, r = true ↔ p := by
  by_cases h : p
  · exact ⟨true, ⟨fun _ => h, fun _ => rfl⟩⟩
  · exact ⟨false, ⟨fun e => (by cases e), fun k => (h k).elim⟩⟩
theorem len_at {u n m : Nat} (hm : 2 ^ n = m) (h1 : m ≤ u) (h2 : u < 2 * m) : len u = n + 1 := len_of (by rw [hm]; exact h1) (by rw [Nat.pow_succ, hm]; omega)
theorem at_len {u n m : Nat} (hm : 2 ^ n = m) (h : len u = n + 1) : m ≤ u ∧ u < 2 * m := by
  have h0 : u ≠ 0 := fun e => by subst e; rw [len_zero] at h; omega
  have a := len_ge h0
  have b := len_lt u
  rw [h] at a b
  rw [Nat.pow_succ, hm] at b
  rw [Nat.add_sub_cancel, hm] at a
  exact ⟨a, by omega⟩
theorem shl1 (n m : Nat) (hn : n ≤ 12) (hm : 2 ^ n = m) : IntKind.u64.wrap ((2 : Int) ^ n) = (m : Int) ∧ IntKind.u64.wrap (2 * (2 : Int) ^ n) = ((2 * m : Nat) : Int) ∧ m ≤ 4096 := by
  have e : (2 : Int) ^ n = (m : Int) := by rw [← hm, Int.natCast_pow]; rfl
  have b : m ≤ 4096 := by rw [← hm]; exact Nat.pow_le_pow_right (n := 2) (by decide) hn
  rw [e, IntKind.wrap_u64, IntKind.wrap_u64]
  omega
set_option maxRecDepth 100000 in
set_option maxHeartbeats 4000000 in
theorem rLengthWalk (Al : Option Addr) (cl M N : Nat) (l : List Bool) (hl : Hid (l.length = M)) (b2 : M ≤ 12) (hN : Hid (br l = N)) (w : World) (R : Hid (Brs w Al cl l)) :
    Calls Tryd.prog 14 #[.slice Al M cl] w (Nm ((len N : Int) - 1) w) := by
  have BL := Lib.hid (br_least l M hl.out)
  rw [hN.out] at BL
  have lle : len N ≤ M + 1 := by have := (br_len l).2; rw [hN.out, hl.out] at this; exact this
  have l0 := len_pos BL.out.1.1
  go_enter Tryd.func14, Tryd.ntmps14
  go_wp2_with fail
  go_loopg [3] (M + 1) (fun g i wr => ∃ n : Nat, n + g = M + 1 ∧ i = .int .i64 n ∧ n + 1 ≤ len N ∧ Hid (Below w.heap.size w wr))
  case atStart => exact ⟨0, by omega, rfl, by omega, Lib.hid (Below.refl _ _)⟩
  case round =>
    obtain ⟨n, hn, rfl, nL, HB⟩ := hrel
    obtain ⟨go, rfl⟩ : ∃ go, go = gk := ⟨_, rfl⟩
    obtain ⟨wo, rfl⟩ : ∃ wo, wo = wr := ⟨_, rfl⟩
    have nM : (n : Int) ≤ (M : Int) := by omega
    have n0 : ¬ ((n : Int) < 0) := by omega
    obtain ⟨m, hm⟩ : ∃ m, 2 ^ n = m := ⟨_, rfl⟩
    obtain ⟨s1, s2, s3⟩ := shl1 n m (by omega) hm
    have m0 : 0 < m := by rw [← hm]; exact Nat.two_pow_pos n
    obtain ⟨m2, hm2⟩ : ∃ m2, m2 = 2 * m := ⟨_, rfl⟩
    rw [← hm2] at s2
    have HM := Lib.hid hm
    have HM2 := Lib.hid hm2
    clear hm
    have BN := Lib.hid (show n + 1 = len N → m ≤ N ∧ N < 2 * m from fun e => at_len HM.out e.symm)
    go_wp2_with fail
    go_loopg [4] m (fun g v wr => ∃ u : Nat, u + g = m2 ∧ m ≤ u ∧ v = .int .u64 u ∧ Hid (n + 1 = len N → u ≤ N) ∧ Hid (Below w.heap.size w wr))
    case atStart => exact ⟨m, by omega, Nat.le_refl _, rfl, Lib.hid (fun e => (BN.out e).1), HB⟩
    case round =>
      clear HB
      obtain ⟨u, hu, mu, rfl, HU, HB⟩ := hrel
      by_cases hlt : u < m2
      · have ul : (u : Int) < (m2 : Int) := by omega
        have u64 : u < 18446744073709551616 := by omega
        have LU := Lib.hid (show len u = n + 1 from len_at HM.out mu (by omega))
        obtain ⟨r, hr⟩ := some_bool (Rl (rw_ l) M u)
        have HR := Lib.hid hr
        clear hr
        have RB := Lib.hid (rBits u u64 wr)
        have BL2 := (bitsK_length 64 u)
        go_wp2_with fail
        refine RB.out.mono ?_
        rintro e w1 ⟨A1, c1, rfl, L1, hb1⟩
        have RT := Lib.hid (rTrim u L1 BL2 (leB_bitsK 64 u u64) (by decide))
        rw [bitsK_length]
        have HB1 := Lib.hid (HB.out.trans (hb1.mono HB.out.size))
        clear hb1 L1 RB BL2
        go_wp2_with fail
        refine RT.out.mono ?_
        rintro e w2 ⟨A2, c2, rfl, L2, hb2⟩
        have HB2 := Lib.hid (HB1.out.trans (hb2.mono HB1.out.size))
        have RR := Lib.hid (rRule u r L2 (R.out.below HB2.out) rfl hl.out (by rw [bitsOf_len, LU.out]; omega) (by omega) HR.out)
        clear hb2 L2 RT
        go_wp2_with fail
        refine RR.out.mono ?_
        rintro e w' ⟨rfl, rfl⟩
        clear RR
        cases r
        · go_wp2_with fail
          go_roundg (gk - 1)
          case measure => omega
          case rel => exact ⟨u + 1, by omega, by omega, by go_num, Lib.hid (fun e => by
            have := HU.out e
            by_cases ee : u = N
            · subst ee; have := HR.out.2 BL.out.1; cases this
            · omega), HB2⟩
        · have e := BL.out.2 u (HR.out.1 rfl)
          rw [LU.out] at e
          have E := Lib.hid (show (n : Int) = (len N : Int) - 1 from by omega)
          clear e
          go_wp2_with fail
          go_ret
          exact ⟨by rw [← E.out]; rfl, HB2.out⟩
      · obtain rfl : u = m2 := by omega
        have ul : ¬ ((u : Int) < (u : Int)) := by omega
        have HL := Lib.hid (show n + 1 + 1 ≤ len N from by
          refine Decidable.byContradiction fun h => ?_
          have e : n + 1 = len N := by omega
          have := HU.out e; have := (BN.out e).2; have := HM2.out; omega)
        go_wp2_with fail
        go_roundg (go - 1)
        case measure => omega
        case rel => exact ⟨n + 1, by omega, by go_num, HL.out, HB⟩
set_option maxRecDepth 100000 in
set_option maxHeartbeats 4000000 in
theorem rLeastWalk (Al : Option Addr) (cl M N : Nat) (l : List Bool) (hl : Hid (l.length = M)) (b2 : M ≤ 12) (hN : Hid (br l = N)) (h2 : Hid (2 * len N ≤ M + 2)) (w : World) (R : Hid (Brs w Al cl l)) :
    Calls Tryd.prog 19 #[.slice Al M cl] w (AnsB (bitsOf N) w) := by
  have RL := Lib.hid (rLengthWalk Al cl M N l hl b2 hN w R)
  have BL := Lib.hid (br_least l M hl.out)
  rw [hN.out] at BL
  have lle : len N ≤ M + 1 := by have := (br_len l).2; rw [hN.out, hl.out] at this; exact this
  have l0 := len_pos BL.out.1.1
  have LS := Lib.hid (show G.Lst (rw_ l) M (len N) from ⟨⟨N, BL.out.1, rfl⟩, BL.out.2⟩)
  obtain ⟨n, hn⟩ : ∃ n, len N = n + 1 := ⟨len N - 1, by omega⟩
  have e1 : (len N : Int) - 1 = (n : Int) := by omega
  rw [e1] at RL
  have HL := Lib.hid hn
  have n0 : ¬ ((n : Int) < 0) := by omega
  obtain ⟨m, hm⟩ : ∃ m, 2 ^ n = m := ⟨_, rfl⟩
  obtain ⟨s1, s2, s3⟩ := shl1 n m (by omega) hm
  have m0 : 0 < m := by rw [← hm]; exact Nat.two_pow_pos n
  obtain ⟨m2, hm2⟩ : ∃ m2, m2 = 2 * m := ⟨_, rfl⟩
  rw [← hm2] at s2
  have HM := Lib.hid hm
  have HM2 := Lib.hid hm2
  have BN := Lib.hid (at_len hm hn)
  have n12 : n ≤ 12 := by omega
  clear hm hn e1 l0 lle
  go_enter Tryd.func19, Tryd.ntmps19
  go_wp2_with fail
  refine RL.out.mono ?_
  rintro e w0 ⟨rfl, hb0⟩
  have HB0 := Lib.hid hb0
  clear hb0 RL
  go_wp2_with fail
  go_loopg [4] m (fun g v wr => ∃ u : Nat, u + g = m2 ∧ m ≤ u ∧ v = .int .u64 u ∧ Hid (u ≤ N) ∧ Hid (Below w.heap.size w wr))
  case atStart => exact ⟨m, by omega, Nat.le_refl _, rfl, Lib.hid BN.out.1, HB0⟩
  case round =>
    clear HB0
    obtain ⟨u, hu, mu, rfl, HU, HB⟩ := hrel
    by_cases hlt : u < m2
    · have ul : (u : Int) < (m2 : Int) := by omega
      have u64 : u < 18446744073709551616 := by omega
      have LU := Lib.hid (show len u = n + 1 from len_at HM.out mu (by omega))
      obtain ⟨r, hr⟩ := some_bool (Rl (rw_ l) M u)
      have HR := Lib.hid hr
      clear hr
      have RB := Lib.hid (rBits u u64 wr)
      have BL2 := (bitsK_length 64 u)
      go_wp2_with fail
      refine RB.out.mono ?_
      rintro e w1 ⟨A1, c1, rfl, L1, hb1⟩
      have RT := Lib.hid (rTrim u L1 BL2 (leB_bitsK 64 u u64) (by decide))
      rw [bitsK_length]
      have HB1 := Lib.hid (HB.out.trans (hb1.mono HB.out.size))
      clear hb1 L1 RB BL2
      go_wp2_with fail
      refine RT.out.mono ?_
      rintro e w2 ⟨A2, c2, rfl, L2, hb2⟩
      have HB2 := Lib.hid (HB1.out.trans (hb2.mono HB1.out.size))
      have RR := Lib.hid (rRule u r L2 (R.out.below HB2.out) rfl hl.out (by rw [bitsOf_len, LU.out]; omega) (by omega) HR.out)
      clear hb2 L2 RT
      go_wp2_with fail
      refine RR.out.mono ?_
      rintro e w' ⟨rfl, rfl⟩
      clear RR
      cases r
      · go_wp2_with fail
        go_roundg (gk - 1)
        case measure => omega
        case rel => exact ⟨u + 1, by omega, by omega, by go_num, Lib.hid (by
          have := HU.out
          by_cases ee : u = N
          · subst ee; have := HR.out.2 BL.out.1; cases this
          · omega), HB2⟩
      · have E := Lib.hid (show u = N from rule_one LS.out h2.out (HR.out.1 rfl) BL.out.1 (by rw [LU.out, HL.out]) rfl)
        have RB3 := Lib.hid (rBits u u64 w2)
        have BL3 := (bitsK_length 64 u)
        go_wp2_with fail
        refine RB3.out.mono ?_
        rintro e w3 ⟨A3, c3, rfl, L3, hb3⟩
        have RT3 := Lib.hid (rTrim u L3 BL3 (leB_bitsK 64 u u64) (by decide))
        rw [bitsK_length]
        have HB3 := Lib.hid (HB2.out.trans (hb3.mono HB2.out.size))
        clear hb3 L3 RB3 BL3
        go_wp2_with fail
        refine RT3.out.mono ?_
        rintro e w4 ⟨A4, c4, rfl, L4, hb4⟩
        have HB4 := Lib.hid (HB3.out.trans (hb4.mono HB3.out.size))
        have HL4 := Lib.hid L4
        clear hb4 L4 RT3
        go_wp2_with fail
        go_ret
        exact ⟨A4, c4, by rw [← E.out]; rfl, by rw [← E.out]; exact HL4.out, HB4.out⟩
    · exfalso
      have := HU.out; have := BN.out.2; have := HM2.out
      omega
section
variable {Al : Option Addr} {M cl : Nat} {l : List Bool} {w : World}
theorem rLength (n : Int) (R : Brs w Al cl l) (hl : l.length = M) (h : M ≤ 12) (hn : (len (br l) : Int) - 1 = n) : Calls Tryd.prog 14 #[.slice Al M cl] w (Nm n w) := by
  subst hn; exact rLengthWalk Al cl M _ l (Lib.hid hl) h (Lib.hid rfl) w (Lib.hid R)
theorem rLeast (N : Nat) (R : Brs w Al cl l) (hl : l.length = M) (h : M ≤ 12) (hN : br l = N) (h2 : 2 * len N ≤ M + 2) : Calls Tryd.prog 19 #[.slice Al M cl] w (AnsB (bitsOf N) w) :=
  rLeastWalk Al cl M N l (Lib.hid hl) h (Lib.hid hN) (Lib.hid h2) w (Lib.hid R)
end
end Go.Proofs.YtfpbfibnkknhdaaDoor
