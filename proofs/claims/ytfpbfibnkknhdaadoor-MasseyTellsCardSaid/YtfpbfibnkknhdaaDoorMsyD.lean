/-
  What the calls least, Length and Least of package massey answer: Berlekamp and Massey's least rule.
-/
import Derived.Test.YtfpbfibnkknhdaaDoorMsyC
namespace Go.Proofs.YtfpbfibnkknhdaaDoor
open Go.RowKit G
set_option linter.unusedVariables false

/-- The way to the least rule: the rule behind n bits, and the last one that failed. -/
def bm (s : Nat → Bool) : Nat → Nat × Nat
  | 0 => (1, 0)
  | n + 1 => if od s (bm s n).1 (n + 1 - len (bm s n).1) then
      if 2 * len (bm s n).1 < n + 3 then ((bm s n).1 * 2 ^ (n + 3 - 2 * len (bm s n).1) ^^^ (bm s n).2, (bm s n).1)
      else ((bm s n).1 ^^^ (bm s n).2 * 2 ^ (2 * len (bm s n).1 - (n + 3)), (bm s n).2)
    else bm s n
theorem bm_ok (s : Nat → Bool) : ∀ n, Bm s n (bm s n).1 (bm s n).2 := by
  intro n
  induction n with
  | zero => exact Bm.start s
  | succ n ih =>
    by_cases h : od s (bm s n).1 (n + 1 - len (bm s n).1) = true
    · by_cases h2 : 2 * len (bm s n).1 < n + 3
      · rw [bm, if_pos h, if_pos h2]
        exact (ih.turn h (u := n + 3 - 2 * len (bm s n).1) (by omega) (by omega)).1
      · rw [bm, if_pos h, if_neg h2]
        exact (ih.put h (u := 2 * len (bm s n).1 - (n + 3)) (by omega)).1
    · rw [bm, if_neg h]
      exact ih.good (by simpa using h)
theorem bm_good {s : Nat → Bool} {n : Nat} (h : od s (bm s n).1 (n + 1 - len (bm s n).1) = false) : bm s (n + 1) = bm s n := by rw [bm, h]; rfl
theorem bm_turn {s : Nat → Bool} {n u : Nat} (h : od s (bm s n).1 (n + 1 - len (bm s n).1) = true) (hu : n + 3 = 2 * len (bm s n).1 + u) (h0 : 0 < u) : bm s (n + 1) = ((bm s n).1 * 2 ^ u ^^^ (bm s n).2, (bm s n).1) := by
  rw [bm, h, if_pos rfl, if_pos (by omega), show n + 3 - 2 * len (bm s n).1 = u from by omega]
theorem bm_put {s : Nat → Bool} {n u : Nat} (h : od s (bm s n).1 (n + 1 - len (bm s n).1) = true) (hu : n + 3 + u = 2 * len (bm s n).1) : bm s (n + 1) = ((bm s n).1 ^^^ (bm s n).2 * 2 ^ u, (bm s n).2) := by
  rw [bm, h, if_pos rfl, if_neg (by omega), show 2 * len (bm s n).1 - (n + 3) = u from by omega]
/-- The least rule. -/
def br (l : List Bool) : Nat := (bm (rw_ l) l.length).1
theorem br_ok (l : List Bool) : ∃ f, Bm (rw_ l) l.length (br l) f := ⟨_, bm_ok _ _⟩
theorem wlm {N k : Nat} (h : len N ≤ 64 * k) : (wordsOf N).length ≤ k := wl k (pow_up (len_lt N) h)
theorem gX1 (w : World) : Calls Tryd.prog 36 #[.int .i64 0] w (Ans 1 w) := cX 0 (by decide) w
theorem G.Bm.flen {s : Nat → Bool} {n r f : Nat} (B : Bm s n r f) : len f ≤ n + 1 := by
  by_cases hf : f = 0
  · subst hf; rw [len_zero]; omega
  · obtain ⟨k, a, b, c, d, e⟩ := B.fail hf; omega

theorem leastStart (w w1 : World) (hb : Below w.heap.size w w1) (A0 : Option Addr) (c0 : Nat) (P0 : Pol w1 A0 c0 (wordsOf 1)) :
    GcSt w.heap.size (w1.heap.size + 1) w1.heap.size none A0 (wordsOf 0).length 0 (wordsOf 1).length c0 (wordsOf 0) (wordsOf 1) ((w1.alloc (.cells #[.slice A0 (wordsOf 1).length c0] 23)).alloc (.cells #[.slice none 0 0] 23)) := by
  have h1 := box_new w1 23 (.slice A0 (wordsOf 1).length c0)
  have P1 := P0.below (below_allocs w1 (.cells #[.slice A0 (wordsOf 1).length c0] 23))
  generalize e1 : w1.alloc (.cells #[.slice A0 (wordsOf 1).length c0] 23) = w2 at h1 P1 ⊢
  have s1 : w2.heap.size = w1.heap.size + 1 := by rw [← e1]; simp
  have h2 := box_new w2 23 (.slice none 0 0)
  have b2 := below_allocs w2 (.cells #[.slice none 0 0] 23)
  rw [s1] at h2
  have z := hb.size
  exact ⟨by rw [wordsOf_zero]; exact h2, h1.below b2, by rw [wordsOf_zero]; exact Pol.nil _ _ _ (by decide), P1.below b2, rfl, rfl, by omega, by omega, z⟩
theorem leastBelow (w w1 : World) (hb : Below w.heap.size w w1) (v : Value) : Below w.heap.size w ((w1.alloc (.cells #[v] 23)).alloc (.cells #[.slice none 0 0] 23)) :=
  below_then hb (below_then (below_allocs w1 _) (below_allocs _ _))

set_option maxRecDepth 100000 in
set_option maxHeartbeats 8000000 in
theorem leastWalk (M cl : Nat) (Al : Option Addr) (l : List Bool) (hl : Hid (l.length = M)) (b2 : M ≤ 2048) (w : World) (R : Hid (Brs w Al cl l)) (T : Hid (Tab w)) :
    Calls Tryd.prog 26 #[.slice Al M cl] w (Ans (br l) w) := by
  go_enter Tryd.func26, Tryd.ntmps26
  go_wp2_with fail
  refine (gX1 _).mono ?_
  rintro e w1 ⟨A0, c0, rfl, P0, hb0⟩
  have e1 : (wordsOf 1).length = 1 := by rw [words1 1 (by decide) (by decide)]; rfl
  have ST := Lib.hid (leastStart w w1 hb0 A0 c0 P0)
  have BW := Lib.hid (leastBelow w w1 hb0 (.slice A0 (wordsOf 1).length c0))
  have hs := hb0.size
  clear P0 hb0 e1
  go_wp2_with fail
  generalize ((w1.alloc (.cells #[.slice A0 (wordsOf 1).length c0] 23)).alloc (.cells #[.slice none 0 0] 23)) = w2 at ST BW ⊢
  obtain ⟨Rb, hRb⟩ : ∃ Rb, Rb = w1.heap.size := ⟨_, rfl⟩
  rw [← hRb] at ST ⊢
  obtain ⟨Fb, hFb⟩ : ∃ Fb, Fb = Rb + 1 := ⟨_, rfl⟩
  rw [← hFb] at ST ⊢
  have hS : w.heap.size ≤ Rb := by omega
  clear hRb hs hFb
  go_loopg [15] M (fun g i wr => ∃ (n r f : Nat) (A B : Option Addr) (ca cb : Nat), n + g = M ∧ i = .int .i64 n ∧ Hid (bm (rw_ l) n = (r, f)) ∧ Hid (GcSt w.heap.size Fb Rb A B (wordsOf f).length ca (wordsOf r).length cb (wordsOf f) (wordsOf r) wr) ∧ Hid (Below w.heap.size w wr))
  case atStart => exact ⟨0, 1, 0, none, A0, 0, c0, by omega, rfl, Lib.hid rfl, ST, BW⟩
  case round =>
    clear ST BW
    obtain ⟨n, r, f, A, B, ca, cb, hn, rfl, hbm, S, HB⟩ := hrel
    by_cases hlt : n < M
    · have nl : (n : Int) < (M : Int) := by omega
      have K0 := bm_ok (rw_ l) n
      rw [hbm.out] at K0
      have K : Hid (Bm (rw_ l) n r f) := Lib.hid K0
      clear K0
      have lr := len_pos K.out.rule.1
      have lle := K.out.le
      have lf := K.out.flen
      have Wr := Lib.hid (show (wordsOf r).length ≤ 50000 from Nat.le_trans (wlm (k := 40) (by omega)) (by decide))
      have Wf := Lib.hid (show (wordsOf f).length ≤ 50000 from Nat.le_trans (wlm (k := 40) (by omega)) (by decide))
      have D := Lib.hid (gDeg ((len r - 1 : Nat) : Int) S.out.pb rfl (by rw [leN_wordsOf]; omega) Wr.out)
      obtain ⟨d, hd⟩ : ∃ d, d = len r - 1 := ⟨_, rfl⟩
      rw [← hd] at D
      have r1 := S.out.bB.cell
      obtain ⟨p, hp⟩ : ∃ p, p = n - d := ⟨_, rfl⟩
      have r2 : (n : Int) - (d : Int) = (p : Int) := by omega
      have dle : d ≤ n := by omega
      have HD := Lib.hid (show len r = d + 1 ∧ p = n - d ∧ p = n + 1 - len r ∧ p + len r = n + 1 from by omega)
      clear hd hp lr
      go_wp2_with fail
      refine D.out.mono ?_
      rintro e w' ⟨rfl, rfl⟩
      clear D
      have O := Lib.hid (gOddAt r M cl Al S.out.pb rfl (leN_wordsOf r) K.out.rule.1 Wr.out)
      generalize hr0 : od (rw_ l) r p = r0
      have R0 := Lib.hid hr0
      clear hr0
      cases r0
      · -- the rule holds
        go_wp2_with fail
        refine O.out.mono ?_
        rintro e w3 ⟨bK, bP, bL, rfl, OS, -, -, -, hb⟩
        have HB3 := HB.out.trans (hb.mono HB.out.size)
        have C := Lib.hid (gOdd r p false OS (S.out.pb.below hb) (R.out.below HB3) (T.out.below HB3) rfl (leN_wordsOf r) hl.out K.out.rule.1 Wr.out (by omega) (by have := HD.out; omega) R0.out)
        have S3 := Lib.hid (S.out.below hb)
        have HB4 := Lib.hid HB3
        clear hb HB3 OS O r1
        go_wp2_with fail
        refine C.out.mono ?_
        rintro e w' ⟨rfl, q, rfl⟩
        clear C
        go_wp2_with fail
        go_roundg (gk - 1)
        case measure => omega
        case rel => exact ⟨n + 1, r, f, A, B, ca, cb, by omega, by go_num, Lib.hid (by
          rw [bm_good, hbm.out]
          rw [hbm.out]
          show od (rw_ l) r (n + 1 - len r) = false
          rw [← HD.out.2.2.1]; exact R0.out), Lib.hid (S3.out.below (below_drewN q)), Lib.hid (below_drewN' HB4.out q)⟩
      · -- the rule fails
        have hodd : od (rw_ l) (bm (rw_ l) n).1 (n + 1 - len (bm (rw_ l) n).1) = true := by
          rw [hbm.out]
          show od (rw_ l) r (n + 1 - len r) = true
          rw [← HD.out.2.2.1]; exact R0.out
        have HO := Lib.hid hodd
        clear hodd
        by_cases hup : 2 * d < n + 1
        · obtain ⟨u, hu⟩ : ∃ u, u = n + 1 - 2 * d := ⟨_, rfl⟩
          have u1 : (n : Int) + 1 - 2 * (d : Int) = (u : Int) := by omega
          have u2 : (0 : Int) < (u : Int) := by omega
          have u3 : u ≤ 2048 := by omega
          have HU := Lib.hid (show n + 3 = 2 * len r + u ∧ 0 < u by have := HD.out; omega)
          clear hu hup
          have lQ := Lib.hid (show (wordsOf (r * 2 ^ u)).length ≤ 50000 from Nat.le_trans (wlm (k := 80) (by rw [len_mul_pow K.out.rule.1]; omega)) (by decide))
          have NB := Lib.hid (bm_turn HO.out (u := u) (by rw [hbm.out]; exact HU.out.1) HU.out.2)
          rw [hbm.out] at NB
          replace NB : Hid (bm (rw_ l) (n + 1) = (r * 2 ^ u ^^^ f, r)) := NB
          generalize hQ : r * 2 ^ u = Q at lQ NB
          generalize hZ : Q ^^^ f = Z at NB
          have HQ := Lib.hid hQ
          have HZ := Lib.hid hZ
          clear hQ hZ
          go_wp2_with fail
          refine O.out.mono ?_
          rintro e w3 ⟨bK, bP, bL, rfl, OS, -, -, -, hb⟩
          have HB3 := HB.out.trans (hb.mono HB.out.size)
          have C := Lib.hid (gOdd r p true OS (S.out.pb.below hb) (R.out.below HB3) (T.out.below HB3) rfl (leN_wordsOf r) hl.out K.out.rule.1 Wr.out (by omega) (by have := HD.out; omega) R0.out)
          have S3 := Lib.hid (S.out.below hb)
          have HB4 := Lib.hid HB3
          clear hb HB3 OS O r1
          go_wp2_with fail
          refine C.out.mono ?_
          rintro e w' ⟨rfl, q, rfl⟩
          clear C
          have TN := Lib.hid (turnWalk w.heap.size Fb Rb Z Q u A B _ ca _ cb (wordsOf f) (wordsOf r) (w3.drewN q) (Lib.hid (S3.out.below (below_drewN q))) Wf.out Wr.out u3 (Lib.hid (by rw [leN_wordsOf]; exact HQ.out)) lQ (Lib.hid (by rw [leN_wordsOf]; exact HZ.out)))
          go_wp2_with fail
          refine TN.out.mono ?_
          rintro e w4 ⟨rfl, C, cc, G, b2⟩
          have G4 := Lib.hid G
          have HB5 := Lib.hid ((below_drewN' HB4.out q).trans (b2.low S3.out.ba S3.out.bb (below_drewN' HB4.out q).size))
          clear G b2 TN
          go_wp2_with fail
          go_roundg (gk - 1)
          case measure => omega
          case rel => exact ⟨n + 1, Z, r, B, C, cb, cc, by omega, by go_num, NB, G4, HB5⟩
        · obtain ⟨u, hu⟩ : ∃ u, u = 2 * d - (n + 1) := ⟨_, rfl⟩
          have u1 : (n : Int) + 1 - 2 * (d : Int) = -(u : Int) := by omega
          have u2 : ¬ ((0 : Int) < -(u : Int)) := by omega
          have u3 : u ≤ 2048 := by omega
          have HU := Lib.hid (show n + 3 + u = 2 * len r by have := HD.out; omega)
          clear hu hup
          have lQ := Lib.hid (show (wordsOf (f * 2 ^ u)).length ≤ 50000 from by
            by_cases hf : f = 0
            · rw [hf, Nat.zero_mul, wordsOf_zero]; decide
            · exact Nat.le_trans (wlm (k := 80) (by rw [len_mul_pow hf]; omega)) (by decide))
          have NB := Lib.hid (bm_put HO.out (u := u) (by rw [hbm.out]; exact HU.out))
          rw [hbm.out] at NB
          replace NB : Hid (bm (rw_ l) (n + 1) = (r ^^^ f * 2 ^ u, f)) := NB
          generalize hQ : f * 2 ^ u = Q at lQ NB
          generalize hZ : r ^^^ Q = Z at NB
          have HQ := Lib.hid hQ
          have HZ := Lib.hid hZ
          clear hQ hZ
          go_wp2_with fail
          refine O.out.mono ?_
          rintro e w3 ⟨bK, bP, bL, rfl, OS, -, -, -, hb⟩
          have HB3 := HB.out.trans (hb.mono HB.out.size)
          have C := Lib.hid (gOdd r p true OS (S.out.pb.below hb) (R.out.below HB3) (T.out.below HB3) rfl (leN_wordsOf r) hl.out K.out.rule.1 Wr.out (by omega) (by have := HD.out; omega) R0.out)
          have S3 := Lib.hid (S.out.below hb)
          have HB4 := Lib.hid HB3
          clear hb HB3 OS O r1
          go_wp2_with fail
          refine C.out.mono ?_
          rintro e w' ⟨rfl, q, rfl⟩
          clear C
          have TN := Lib.hid (putWalk w.heap.size Fb Rb Z Q u A B _ ca _ cb (wordsOf f) (wordsOf r) (w3.drewN q) (Lib.hid (S3.out.below (below_drewN q))) Wf.out Wr.out u3 (Lib.hid (by rw [leN_wordsOf]; exact HQ.out)) lQ (Lib.hid (by rw [leN_wordsOf]; exact HZ.out)))
          go_wp2_with fail
          refine TN.out.mono ?_
          rintro e w4 ⟨rfl, C, cc, G, b2⟩
          have G4 := Lib.hid G
          have HB5 := Lib.hid ((below_drewN' HB4.out q).trans (b2.low S3.out.ba S3.out.bb (below_drewN' HB4.out q).size))
          clear G b2 TN
          go_wp2_with fail
          go_roundg (gk - 1)
          case measure => omega
          case rel => exact ⟨n + 1, Z, f, A, C, ca, cc, by omega, by go_num, NB, G4, HB5⟩
    · obtain rfl : n = M := by omega
      have nl : ¬ ((n : Int) < (n : Int)) := by omega
      have r1 := S.out.bB.cell
      have E := Lib.hid (show br l = r by unfold br; rw [hl.out, hbm.out])
      go_wp2_with fail
      go_ret
      exact ⟨B, cb, by rw [E.out]; rfl, by rw [E.out]; exact S.out.pb, HB.out⟩
end Go.Proofs.YtfpbfibnkknhdaaDoor
