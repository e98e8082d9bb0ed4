/-
  Part 10 of what the statements of this seat stand on: GfwT XjumpTellsW XjumpTellsV.
-/
import Derived.Test.YtemgoikghaiamaaDoorBase1
import Derived.Test.YtemgoikghaiamaaDoorBase4
import Derived.Deep.AppendLies
import Derived.Deep.RegionHeld3
import Derived.Test.YtemgoikghaiamaaDoorBase7
/-
  What the calls List and Len of the reference of layer 1, and Pow, Plain and Irreducible of that of layer 4, answer.
-/
namespace Go.Proofs.YtemgoikghaiamaaDoor
open Go.RowKit G
set_option linter.unusedVariables false

/-- An answer that is a new list of bits, which may grow. -/
def RowB (xs : List Nat) (w : World) (e : Ending) (w' : World) : Prop :=
  ∃ g cap : Nat, e = .returned (.slice (some ⟨g, 0, none⟩) xs.length cap) ∧ Grow w (.slice (some ⟨g, 0, none⟩) xs.length cap) xs w'
theorem rBitsR (n : Nat) (xs : List Nat) (hx : bitsK 64 n = xs) (hn : n < 18446744073709551616) (w : World) : Calls Tryd.prog 35 #[.int .u64 (n : Int)] w (RowB xs w) := by
  subst hx
  refine (rBitsG n hn w).mono ?_
  rintro e w' ⟨v, rfl, G⟩
  have l := bitsK_length 64 n
  obtain ⟨hl, h2⟩ := id G.own
  rcases h2 with ⟨rfl, hn⟩ | ⟨g, cap, cur, rfl, hg, hh, hc, hm, rest⟩
  · omega
  · exact ⟨g, cap, rfl, G⟩

set_option maxRecDepth 100000 in
set_option maxHeartbeats 1000000 in
theorem rListWalk (h l : Nat) (xl xh : List Nat) (el : Hid (bitsK 64 l = xl)) (eh : Hid (bitsK 64 h = xh)) (ll : Hid (xl.length = 64)) (lh : Hid (xh.length = 64)) (h1 : h < 18446744073709551616) (l1 : l < 18446744073709551616) (w : World) :
    Calls Tryd.prog 16 #[.agg #[.int .u64 (h : Int), .int .u64 (l : Int)]] w (AnsB (xl ++ xh) w) := by
  obtain ⟨i0, hi, hz0, hz1, hz2⟩ := info_parts infoI
  have HI := Lib.hid hi
  have HZ0 := Lib.hid hz0
  have HZ1 := Lib.hid hz1
  have HZ2 := Lib.hid hz2
  clear hi hz0 hz1 hz2
  go_enter Tryd.func16, Tryd.ntmps16
  go_wp2_with fail
  have K0 := Lib.hid (cells_new w (.int .u64 (h : Int)) (.int .u64 (l : Int)) 41)
  have hB := below_alloc (Below.refl _ _) (w := w) (W := w) (.cells #[.int .u64 (h : Int), .int .u64 (l : Int)] 41)
  generalize hW0 : World.alloc w _ = W0 at K0 hB ⊢
  clear hW0
  have hX : Below W0.heap.size W0 W0 := Below.refl _ _
  obtain ⟨c0, c1⟩ := K0.out
  go_region_held3 (fun w' => w'.cell? ⟨w.heap.size, 0, none⟩ = some (.int .u64 (h : Int)) ∧ w'.cell? ⟨w.heap.size, 1, none⟩ = some (.int .u64 (l : Int))) (go_keep)
    (first
      | (go_at_call 35; ((with_reducible refine (rBitsR l xl el.out l1 _).mono ?_); rintro e x ⟨g, cap, rfl, G1⟩; clear c0 c1; replace hX := below_then (by first | exact hX | exact hX.drew) G1.below; obtain ⟨c0, c1⟩ := two_below K0.out hX; have OWN1 : Hid (x.ownsRow W0.heap.size 3 1 (.slice (some ⟨g, 0, none⟩) xl.length cap) xl.length (ints xl)) := Lib.hid G1.own; have ex := hX.size; have BT1 := Lib.hid G1.bit; clear G1))
      | (go_at_call 35; ((with_reducible refine (rBitsR h xh eh.out h1 _).mono ?_); rintro e y ⟨g2, cap2, rfl, G2⟩; clear c0 c1; replace hX := below_then (by first | exact hX | exact hX.drew) G2.below; obtain ⟨c0, c1⟩ := two_below K0.out hX; replace OWN1 := Lib.hid (owns_below OWN1.out G2.below); have OWN2 := Lib.hid G2.own; have ey := hX.size; have BT2 := Lib.hid G2.bit; clear G2))
      | (refine step_append_lies _ (by rfl) _ _ _ (by rfl) W0.heap.size 3 i0 (.int .i64 0) 1 8 Tryd.underlying36 HI.out HZ0.out HZ1.out HZ2.out rfl (by omega) (.slice (some ⟨g, 0, none⟩) xl.length cap) xl.length (ints xl) (by rfl) OWN1.out ⟨g2, 0, none⟩ xh.length cap2 (ints xh) (by rfl) (by simp) (OWN2.out.cells rfl) (one_ints xh) (by rw [lh.out]; omega) (by rw [ll.out, lh.out]; decide) (by rw [ll.out, lh.out]; omega) ey y.heap.size rfl ?_; intro gg cap' w1 hown1 hgrow hat hlt; clear c0 c1; replace hX := hX.grown hgrow ey (fun k hk => (OWN1.out.lt k hk).1); obtain ⟨c0, c1⟩ := two_below K0.out hX; have OWN3 := Lib.hid hown1; clear hown1 hgrow))
  go_wp2
  go_ret
  have GG : Grow W0 (.slice (some ⟨gg, 0, none⟩) (xl.length + xh.length) cap') (xl ++ xh) w1 := ⟨by rw [List.length_append, ints, List.map_append]; exact OWN3.out, BT1.out.append BT2.out, hX⟩
  obtain ⟨A, c, e, L⟩ := GG.lst
  exact ⟨A, c, by rw [← e]; rfl, L, below_then hB hX⟩
theorem leB_two (h l : Nat) (l1 : l < 18446744073709551616) (h1 : h < 18446744073709551616) : leB (bitsK 64 l ++ bitsK 64 h) = h * 18446744073709551616 + l := by
  rw [leB_append, bitsK_length, leB_bitsK 64 l (by rw [show (2 : Nat) ^ 64 = 18446744073709551616 from rfl]; exact l1), leB_bitsK 64 h (by rw [show (2 : Nat) ^ 64 = 18446744073709551616 from rfl]; exact h1), show (2 : Nat) ^ 64 = 18446744073709551616 from rfl]
  omega
/-- The 128 bits of a number. -/
theorem rList {h l : Int} {N : Nat} (i : Wn h l N) (w : World) : Calls Tryd.prog 16 #[.agg #[.int .u64 h, .int .u64 l]] w (fun e w' => ∃ (A : Option Addr) (cap : Nat) (xs : List Nat), e = .returned (.slice A 128 cap) ∧ xs.length = 128 ∧ leB xs = N ∧ Lst w' A cap xs ∧ Below w.heap.size w w') := by
  obtain ⟨h', rfl⟩ := Int.eq_ofNat_of_zero_le i.h0
  obtain ⟨l', rfl⟩ := Int.eq_ofNat_of_zero_le i.l0
  have h1 : h' < 18446744073709551616 := by have := i.h1; omega
  have l1 : l' < 18446744073709551616 := by have := i.l1; omega
  refine (rListWalk h' l' _ _ (Lib.hid rfl) (Lib.hid rfl) (Lib.hid (bitsK_length 64 l')) (Lib.hid (bitsK_length 64 h')) h1 l1 w).mono ?_
  rintro e w' ⟨A, c, rfl, L, hb⟩
  have ln : (bitsK 64 l' ++ bitsK 64 h').length = 128 := by rw [List.length_append, bitsK_length, bitsK_length]
  exact ⟨A, c, _, by rw [ln], ln, by rw [leB_two _ _ l1 h1]; have := i.eq; omega, L, hb⟩
theorem len_mod (N k : Nat) : len (N % 2 ^ (k + 1)) = if N / 2 ^ k % 2 = 1 then k + 1 else len (N % 2 ^ k) := by
  have e : N % 2 ^ (k + 1) = N % 2 ^ k + 2 ^ k * (N / 2 ^ k % 2) := by rw [Nat.pow_succ, Nat.mod_mul]
  have b := Nat.mod_lt N (Nat.two_pow_pos k)
  split
  · next z =>
    rw [e, z]
    exact len_of (by omega) (by rw [Nat.pow_succ]; omega)
  · next z =>
    rw [e, show N / 2 ^ k % 2 = 0 from by omega]
    simp

end Go.Proofs.YtemgoikghaiamaaDoor
/-
  The walk of XjumpTells: what a jump, a jump by a power of 2, and a polynomial of a state answer, held against the reference.
-/
namespace Go.Proofs.YtemgoikghaiamaaDoor
open Go.RowKit G
set_option linter.unusedVariables false
set_option maxRecDepth 100000

/-- Behind a region that tells a bool. -/
def CutF (W0 : World) (b : Bool) (v : Value) (wr : World) : Prop := v = .bool b ∧ Below W0.heap.size W0 wr
theorem CutF.of {W0 wr : World} {b : Bool} (h : Below W0.heap.size W0 wr) : CutF W0 b (.bool b) wr := ⟨rfl, h⟩
/-- The three ways on: the state of all 0; a power that may not be; both jumps made. -/
inductive Way (a b c d y0 y1 y2 y3 z0 z1 z2 z3 : Nat) (ke kf p : Int) (h l : Int) : Prop where
  | zero (s : (⟨a, b, c, d⟩ : St) = St.zero) (y : (⟨y0, y1, y2, y3⟩ : St) = St.zero) (z : (⟨z0, z1, z2, z3⟩ : St) = St.zero) (e : ke = 3) (f : kf = 3)
  | arg (s : (⟨a, b, c, d⟩ : St) ≠ St.zero) (hp : p < 0 ∨ 2048 < p) (z : (⟨z0, z1, z2, z3⟩ : St) = St.zero) (e : ke = 0) (f : kf = 1)
  | both (s : (⟨a, b, c, d⟩ : St) ≠ St.zero) (h0 : 0 ≤ p) (h1 : p ≤ 40) (e : ke = 0) (f : kf = 0)
      (R : ∀ W : World, Calls Tryd.prog 14 #[.agg #[.int .u64 (a : Int), .int .u64 (b : Int), .int .u64 (c : Int), .int .u64 (d : Int)], .int .i64 p] W (fun e w' => e = .returned (.agg #[.int .u64 (z0 : Int), .int .u64 (z1 : Int), .int .u64 (z2 : Int), .int .u64 (z3 : Int)]) ∧ Below W.heap.size W w'))
set_option maxHeartbeats 8000000 in
theorem tellsMain (aw : Hid (∀ W, Tab W → Calls Tryd.prog 8 #[] W (Bl true W))) (a b c d y0 y1 y2 y3 z0 z1 z2 z3 t0 t1 t2 t3 : Nat) (ke kf h l p : Int) (A : Option Addr) (ca L : Nat) (bs : List Nat) (w : World) (T : Tab w)
    (CJ : Hid (∀ W, Below w.heap.size w W → Calls Tryd.prog 9 #[.agg #[.int .u64 (a : Int), .int .u64 (b : Int), .int .u64 (c : Int), .int .u64 (d : Int)], .agg #[.int .u64 h, .int .u64 l]] W (AnsSE ⟨y0, y1, y2, y3⟩ ke W)))
    (CP : Hid (∀ W, Below w.heap.size w W → Calls Tryd.prog 10 #[.agg #[.int .u64 (a : Int), .int .u64 (b : Int), .int .u64 (c : Int), .int .u64 (d : Int)], .int .i64 p] W (AnsSE ⟨z0, z1, z2, z3⟩ kf W)))
    (CA : Hid (∀ W, Below w.heap.size w W → Calls Tryd.prog 11 #[.slice A L ca, .agg #[.int .u64 (a : Int), .int .u64 (b : Int), .int .u64 (c : Int), .int .u64 (d : Int)]] W (AnsS ⟨t0, t1, t2, t3⟩ W)))
    (CB : Hid (∀ W, Below w.heap.size w W → Calls Tryd.prog 13 #[.slice A L ca] W (AnsB bs W)))
    (CR : Hid (∀ (B : Option Addr) (cb : Nat) (W : World), Lst W B cb bs → Calls Tryd.prog 12 #[.slice B bs.length cb, .agg #[.int .u64 (a : Int), .int .u64 (b : Int), .int .u64 (c : Int), .int .u64 (d : Int)]] W (AnsS ⟨t0, t1, t2, t3⟩ W)))
    (CL : Hid (∀ W : World, Calls Tryd.prog 16 #[.agg #[.int .u64 h, .int .u64 l]] W (fun e w' => ∃ (B : Option Addr) (cb : Nat), e = .returned (.slice B 128 cb) ∧ Below W.heap.size W w' ∧ ∀ V, Below w'.heap.size w' V → (⟨a, b, c, d⟩ : St) ≠ St.zero → Calls Tryd.prog 15 #[.agg #[.int .u64 (a : Int), .int .u64 (b : Int), .int .u64 (c : Int), .int .u64 (d : Int)], .slice B 128 cb] V (AnsS ⟨y0, y1, y2, y3⟩ V))))
    (hL : L ≤ 5) (hp : Hid (p ≤ 40 ∨ 2048 < p)) (hw : Hid (Way a b c d y0 y1 y2 y3 z0 z1 z2 z3 ke kf p h l)) :
    Calls Tryd.prog 3 #[.agg #[.int .u64 (a : Int), .int .u64 (b : Int), .int .u64 (c : Int), .int .u64 (d : Int)], .agg #[.int .u64 h, .int .u64 l], .int .i64 p, .slice A L ca] w (Bl true w) := by
  have hB : Below w.heap.size w w := Below.refl _ _
  have HT := Lib.hid T
  have n5 : ¬ (L : Int) > 5 := by omega
  clear T hL
  go_enter Tryd.func3, Tryd.ntmps3
  go_wp2_with fail
  have U1 := Bx.new w ⟨a, b, c, d⟩ 24
  have s1 : (w.alloc (.cells #[.int .u64 (a : Int), .int .u64 (b : Int), .int .u64 (c : Int), .int .u64 (d : Int)] 24)).heap.size = w.heap.size + 1 := Array.size_push _
  replace hB := below_alloc hB (.cells #[.int .u64 (a : Int), .int .u64 (b : Int), .int .u64 (c : Int), .int .u64 (d : Int)] 24)
  simp only at U1
  generalize w.alloc _ = V1 at U1 hB s1 ⊢
  have N1 := CU.new V1 h l 26
  rw [s1] at N1
  replace U1 := U1.alloc (.cells #[.int .u64 h, .int .u64 l] 26)
  replace hB := below_alloc hB (.cells #[.int .u64 h, .int .u64 l] 26)
  generalize V1.alloc _ = V2 at U1 N1 hB ⊢
  clear s1
  generalize w.heap.size + 1 = c1 at N1 ⊢
  refine (aw.out _ (HT.out.below hB)).mono ?_
  rintro e W0 ⟨rfl, hb⟩
  replace U1 := U1.below hb
  replace N1 := N1.below hb
  replace hB := below_then hB hb
  clear hb aw
  go_upto_region 3 with fail
  go_cut [26] (fun v wr => v = .bool false ∧ wr = W0)
  case first =>
    clear U1 N1 CJ CP CA CB CR CL hw
    rcases hp.out with h1 | h1
    · have g1 : ¬ p > 40 := by omega
      clear h1
      go_wp2
      go_meet
      exact ⟨by rw [decide_eq_false (show ¬ (5 : Int) < (L : Int) by omega)], rfl⟩
    · have g1 : p > 40 := by omega
      have g2 : ¬ p ≤ 2048 := by omega
      clear h1
      go_wp2
      go_meet
      exact ⟨by rw [decide_eq_false (show ¬ (5 : Int) < (L : Int) by omega)], rfl⟩
  obtain ⟨rfl, rfl⟩ := hcut
  clear hp n5
  obtain ⟨x1, x2, x3, x4⟩ := U1.cells
  simp only at x1 x2 x3 x4
  go_upto_region 6 with fail
  clear x1 x2 x3 x4
  have X1 := Bx.new wc ⟨a, b, c, d⟩ 23
  have LB : Below wc.heap.size wc (wc.alloc (.cells #[.int .u64 (a : Int), .int .u64 (b : Int), .int .u64 (c : Int), .int .u64 (d : Int)] 23)) := below_alloc (Below.refl _ _) _
  replace U1 := U1.below LB
  replace N1 := N1.below LB
  replace hB := below_then hB LB
  simp only at X1
  clear LB
  generalize wc.alloc _ = V3 at U1 N1 X1 hB ⊢
  generalize wc.heap.size = c2 at X1 ⊢
  obtain ⟨x1, x2, x3, x4⟩ := U1.cells
  simp only at x1 x2 x3 x4
  obtain ⟨u1, u2⟩ := N1.c
  go_wp2_with fail
  clear x1 x2 x3 x4 u1 u2
  refine (CJ.out _ hB).mono ?_
  rintro e W1 ⟨rfl, hb⟩
  replace U1 := U1.below hb
  replace N1 := N1.below hb
  replace X1 := X1.below hb
  replace hB := below_then hB hb
  clear hb CJ
  go_upto_region 7 with fail
  have Y1 := Bx.new W1 ⟨y0, y1, y2, y3⟩ 24
  have LB : Below W1.heap.size W1 (W1.alloc (.cells #[.int .u64 (y0 : Int), .int .u64 (y1 : Int), .int .u64 (y2 : Int), .int .u64 (y3 : Int)] 24)) := below_alloc (Below.refl _ _) _
  replace U1 := U1.below LB
  replace N1 := N1.below LB
  replace X1 := X1.below LB
  replace hB := below_then hB LB
  simp only at Y1
  clear LB
  generalize W1.alloc _ = V4 at U1 N1 X1 Y1 hB ⊢
  generalize W1.heap.size = c3 at Y1 ⊢
  obtain ⟨x1, x2, x3, x4⟩ := U1.cells
  simp only at x1 x2 x3 x4
  go_wp2_with fail
  clear x1 x2 x3 x4
  refine (CP.out _ hB).mono ?_
  rintro e W2 ⟨rfl, hb⟩
  replace U1 := U1.below hb
  replace N1 := N1.below hb
  replace X1 := X1.below hb
  replace Y1 := Y1.below hb
  replace hB := below_then hB hb
  clear hb CP
  go_upto_region 8 with fail
  have Z1 := Bx.new W2 ⟨z0, z1, z2, z3⟩ 24
  have LB : Below W2.heap.size W2 (W2.alloc (.cells #[.int .u64 (z0 : Int), .int .u64 (z1 : Int), .int .u64 (z2 : Int), .int .u64 (z3 : Int)] 24)) := below_alloc (Below.refl _ _) _
  replace U1 := U1.below LB
  replace N1 := N1.below LB
  replace X1 := X1.below LB
  replace Y1 := Y1.below LB
  replace hB := below_then hB LB
  simp only at Z1
  clear LB
  generalize W2.alloc _ = V5 at U1 N1 X1 Y1 Z1 hB ⊢
  generalize W2.heap.size = c4 at Z1 ⊢
  have HK := Lib.hid (And.intro U1 (And.intro N1 (And.intro X1 (And.intro Y1 (And.intro Z1 hB)))))
  clear U1 N1 X1 Y1 Z1 hB
  go_cut [47] (CutF V5 false)
  case first =>
    have QT : ∀ W, Sem.run Tryd.prog (Op.equalIn 10000 23 (.agg #[.int .u64 (t0 : Int), .int .u64 (t1 : Int), .int .u64 (t2 : Int), .int .u64 (t3 : Int)]) (.agg #[.int .u64 (t0 : Int), .int .u64 (t1 : Int), .int .u64 (t2 : Int), .int .u64 (t3 : Int)])) W = .ok true W := fun W => by
      have := sameR ⟨t0, t1, t2, t3⟩ ⟨t0, t1, t2, t3⟩ W
      rwa [decide_eq_true rfl] at this
    clear CL hw
    have hX : Below V5.heap.size V5 V5 := Below.refl _ _
    have dX : Below V5.heap.size V5 (World.drew V5) := hX.drew
    obtain ⟨x1, x2, x3, x4⟩ := HK.out.1.cells
    obtain ⟨u1, u2, u3, u4⟩ := HK.out.2.2.1.cells
    simp only at x1 x2 x3 x4 u1 u2 u3 u4
    go_region_with (first
      | (go_at_call 11; (with_reducible refine (CA.out _ (below_then HK.out.2.2.2.2.2 dX)).mono ?_); rintro e v1 ⟨rfl, hb⟩; have e1 := below_then dX hb; obtain ⟨g1, g2, g3, g4⟩ := (HK.out.2.2.1.below e1).cells; simp only at g1 g2 g3 g4; clear hb)
      | (go_at_call 13; (with_reducible refine (CB.out _ (below_then HK.out.2.2.2.2.2 e1)).mono ?_); rintro e v2 ⟨B, cb, rfl, P, hb⟩; have e2 := below_then e1 hb; obtain ⟨i1, i2, i3, i4⟩ := (HK.out.2.2.1.below e2).cells; simp only at i1 i2 i3 i4; clear hb)
      | (go_at_call 12; (with_reducible refine (CR.out _ _ _ P).mono ?_); rintro e v3 ⟨rfl, hb⟩; have e3 := below_then e2 hb; clear hb))
    all_goals
      go_wp2_with fail
      go_meet
      first
        | with_reducible exact CutF.of e3
  obtain ⟨rfl, hX⟩ := hcut
  clear CA CB CR
  have K := Lib.hid (And.intro (HK.out.1.below hX) (And.intro (HK.out.2.1.below hX) (And.intro (HK.out.2.2.1.below hX) (And.intro (HK.out.2.2.2.1.below hX) (And.intro (HK.out.2.2.2.2.1.below hX) (And.intro (below_then HK.out.2.2.2.2.2 hX) hX))))))
  clear hX
  obtain ⟨x1, x2, x3, x4⟩ := K.out.1.cells
  obtain ⟨u1, u2⟩ := K.out.2.1.c
  obtain ⟨m1, m2, m3, m4⟩ := K.out.2.2.1.cells
  obtain ⟨n1, n2, n3, n4⟩ := K.out.2.2.2.1.cells
  obtain ⟨r1, r2, r3, r4⟩ := K.out.2.2.2.2.1.cells
  simp only at x1 x2 x3 x4 m1 m2 m3 m4 n1 n2 n3 n4 r1 r2 r3 r4
  rcases hw.out with ⟨s, y, z, rfl, rfl⟩ | ⟨s, hp, z, rfl, rfl⟩ | ⟨s, h0, h1, rfl, rfl, R⟩
  · have q0 : ∀ W, Sem.run Tryd.prog (Op.equalIn 10000 24 (.agg #[.int .u64 (a : Int), .int .u64 (b : Int), .int .u64 (c : Int), .int .u64 (d : Int)]) (.agg #[.int .u64 0, .int .u64 0, .int .u64 0, .int .u64 0])) W = .ok true W := fun W => by
      have := sameZ ⟨a, b, c, d⟩ W
      rwa [decide_eq_true s] at this
    have q1 : ∀ W, Sem.run Tryd.prog (Op.equalIn 10000 24 (.agg #[.int .u64 (y0 : Int), .int .u64 (y1 : Int), .int .u64 (y2 : Int), .int .u64 (y3 : Int)]) (.agg #[.int .u64 (a : Int), .int .u64 (b : Int), .int .u64 (c : Int), .int .u64 (d : Int)])) W = .ok true W := fun W => by
      have := sameS ⟨y0, y1, y2, y3⟩ ⟨a, b, c, d⟩ W
      rwa [decide_eq_true (y.trans s.symm)] at this
    have q2 : ∀ W, Sem.run Tryd.prog (Op.equalIn 10000 24 (.agg #[.int .u64 (z0 : Int), .int .u64 (z1 : Int), .int .u64 (z2 : Int), .int .u64 (z3 : Int)]) (.agg #[.int .u64 (a : Int), .int .u64 (b : Int), .int .u64 (c : Int), .int .u64 (d : Int)])) W = .ok true W := fun W => by
      have := sameS ⟨z0, z1, z2, z3⟩ ⟨a, b, c, d⟩ W
      rwa [decide_eq_true (z.trans s.symm)] at this
    clear CL hw s y z
    go_wp2
    go_ret
    exact ⟨rfl, K.out.2.2.2.2.2.1⟩
  · have q0 : ∀ W, Sem.run Tryd.prog (Op.equalIn 10000 24 (.agg #[.int .u64 (a : Int), .int .u64 (b : Int), .int .u64 (c : Int), .int .u64 (d : Int)]) (.agg #[.int .u64 0, .int .u64 0, .int .u64 0, .int .u64 0])) W = .ok false W := fun W => by
      have := sameZ ⟨a, b, c, d⟩ W
      rwa [decide_eq_false s] at this
    have q1 : ∀ W, Sem.run Tryd.prog (Op.equalIn 10000 24 (.agg #[.int .u64 (z0 : Int), .int .u64 (z1 : Int), .int .u64 (z2 : Int), .int .u64 (z3 : Int)]) (.agg #[.int .u64 0, .int .u64 0, .int .u64 0, .int .u64 0])) W = .ok true W := fun W => by
      have := sameZ ⟨z0, z1, z2, z3⟩ W
      rwa [decide_eq_true z] at this
    have hs := Lib.hid s
    have hP := Lib.hid hp
    clear hw s z hp
    go_upto_region 12 with fail
    go_cut [73] (fun v wr => v = .bool true ∧ wr = wc)
    case first =>
      clear CL K HK
      rcases hP.out with h1 | h1
      · clear hP
        go_wp2
        go_meet
        exact ⟨by first | rfl | rw [decide_eq_true h1], rfl⟩
      · have g1 : ¬ p < 0 := by omega
        have g2 : p > 2048 := by omega
        clear hP
        go_wp2
        go_meet
        exact ⟨by first | rfl | rw [decide_eq_true (show (2048 : Int) < p from h1)], rfl⟩
    obtain ⟨rfl, hwc⟩ := hcut
    subst hwc
    clear hP
    go_upto_region 17 with fail
    clear q0 q1 r1 r2 r3 r4
    have QY : ∀ W, Sem.run Tryd.prog (Op.equalIn 10000 23 (.agg #[.int .u64 (y0 : Int), .int .u64 (y1 : Int), .int .u64 (y2 : Int), .int .u64 (y3 : Int)]) (.agg #[.int .u64 (y0 : Int), .int .u64 (y1 : Int), .int .u64 (y2 : Int), .int .u64 (y3 : Int)])) W = .ok true W := fun W => by
      have := sameR ⟨y0, y1, y2, y3⟩ ⟨y0, y1, y2, y3⟩ W
      rwa [decide_eq_true rfl] at this
    go_cut [8] (CutF V5 true)
    case first =>
      have dX : Below V5.heap.size V5 (World.drew wc) := K.out.2.2.2.2.2.2.drew
      go_region_with (first
        | (go_at_call 16; (with_reducible refine (CL.out _).mono ?_); rintro e v1 ⟨B, cb, rfl, hb, RJ⟩; have e1 := below_then dX hb; have f1 := below_then (Below.refl wc.heap.size wc).drew hb; obtain ⟨g1, g2, g3, g4⟩ := (K.out.2.2.1.below f1).cells; obtain ⟨o1, o2, o3, o4⟩ := (K.out.2.2.2.1.below f1).cells; simp only at g1 g2 g3 g4 o1 o2 o3 o4; clear hb)
        | (go_at_call 15; (with_reducible refine (RJ _ (Below.refl _ _) hs.out).mono ?_); rintro e v2 ⟨rfl, hb⟩; have e2 := below_then e1 hb; have f2 := below_then f1 hb; obtain ⟨k1, k2, k3, k4⟩ := (K.out.2.2.2.1.below f2).cells; simp only at k1 k2 k3 k4; clear hb))
      all_goals
        go_wp2_with fail
        go_meet
        first
          | with_reducible exact CutF.of e2
    obtain ⟨rfl, hZ⟩ := hcut
    go_wp2
    go_ret
    exact ⟨rfl, below_then HK.out.2.2.2.2.2 hZ⟩
  · have q0 : ∀ W, Sem.run Tryd.prog (Op.equalIn 10000 24 (.agg #[.int .u64 (a : Int), .int .u64 (b : Int), .int .u64 (c : Int), .int .u64 (d : Int)]) (.agg #[.int .u64 0, .int .u64 0, .int .u64 0, .int .u64 0])) W = .ok false W := fun W => by
      have := sameZ ⟨a, b, c, d⟩ W
      rwa [decide_eq_false s] at this
    have hs := Lib.hid s
    have HR := Lib.hid R
    have g1 : ¬ p < 0 := by omega
    have g2 : ¬ p > 2048 := by omega
    clear hw s h0 h1 R
    go_upto_region 15 with fail
    clear g1 g2 q0
    have HQ : Hid (∀ W, Sem.run Tryd.prog (Op.equalIn 10000 23 (.agg #[.int .u64 (z0 : Int), .int .u64 (z1 : Int), .int .u64 (z2 : Int), .int .u64 (z3 : Int)]) (.agg #[.int .u64 (z0 : Int), .int .u64 (z1 : Int), .int .u64 (z2 : Int), .int .u64 (z3 : Int)])) W = .ok true W) := Lib.hid (fun W => by
      have := sameR ⟨z0, z1, z2, z3⟩ ⟨z0, z1, z2, z3⟩ W
      rwa [decide_eq_true rfl] at this)
    refine wp_region_class (fun w' => Below wc.heap.size wc w') (by kernel_rfl) (by kernel_rfl) (Below.refl _ _).drew ?_
    iterate 9
      (refine WQ.yes ?_ (by rfl) (fun w' hC => ?_) ?_
       rotate_left
       · (obtain ⟨x1, x2, x3, x4⟩ := (K.out.2.2.1.below hC).cells
          obtain ⟨z1, z2, z3, z4⟩ := (K.out.2.2.2.2.1.below hC).cells
          simp only at x1 x2 x3 x4 z1 z2 z3 z4
          have q := HQ.out w'
          go_simp
          first | done | with_reducible rfl | exact ⟨rfl, rfl⟩ | (go_at_call 14; (with_reducible exact quietA4 (HR.out _) hC)))
       (try simp only [Act.put, List.setIfInBounds_toArray, List.set_cons_zero, List.set_cons_succ]))
    refine WQ.nil ?_
    intro wz hX
    clear HQ HR x1 x2 x3 x4 u1 u2 m1 m2 m3 m4 n1 n2 n3 n4 r1 r2 r3 r4
    have K2 := Lib.hid (And.intro (K.out.1.below hX) (And.intro (K.out.2.1.below hX) (And.intro (K.out.2.2.1.below hX) (And.intro (K.out.2.2.2.1.below hX) (And.intro (K.out.2.2.2.2.1.below hX) (And.intro (below_then K.out.2.2.2.2.2.1 hX) (below_then K.out.2.2.2.2.2.2 hX)))))))
    clear K hX
    obtain ⟨u1, u2⟩ := K2.out.2.1.c
    obtain ⟨m1, m2, m3, m4⟩ := K2.out.2.2.1.cells
    obtain ⟨n1, n2, n3, n4⟩ := K2.out.2.2.2.1.cells
    simp only at m1 m2 m3 m4 n1 n2 n3 n4
    go_upto_region 17 with fail
    have QY : ∀ W, Sem.run Tryd.prog (Op.equalIn 10000 23 (.agg #[.int .u64 (y0 : Int), .int .u64 (y1 : Int), .int .u64 (y2 : Int), .int .u64 (y3 : Int)]) (.agg #[.int .u64 (y0 : Int), .int .u64 (y1 : Int), .int .u64 (y2 : Int), .int .u64 (y3 : Int)])) W = .ok true W := fun W => by
      have := sameR ⟨y0, y1, y2, y3⟩ ⟨y0, y1, y2, y3⟩ W
      rwa [decide_eq_true rfl] at this
    go_cut [8] (CutF V5 true)
    case first =>
      have dX : Below V5.heap.size V5 (World.drew wz) := K2.out.2.2.2.2.2.2.drew
      go_region_with (first
        | (go_at_call 16; (with_reducible refine (CL.out _).mono ?_); rintro e v1 ⟨B, cb, rfl, hb, RJ⟩; have e1 := below_then dX hb; have f1 := below_then (Below.refl wz.heap.size wz).drew hb; obtain ⟨g1, g2, g3, g4⟩ := (K2.out.2.2.1.below f1).cells; obtain ⟨o1, o2, o3, o4⟩ := (K2.out.2.2.2.1.below f1).cells; simp only at g1 g2 g3 g4 o1 o2 o3 o4; clear hb)
        | (go_at_call 15; (with_reducible refine (RJ _ (Below.refl _ _) hs.out).mono ?_); rintro e v2 ⟨rfl, hb⟩; have e2 := below_then e1 hb; have f2 := below_then f1 hb; obtain ⟨k1, k2, k3, k4⟩ := (K2.out.2.2.2.1.below f2).cells; simp only at k1 k2 k3 k4; clear hb))
      all_goals
        go_wp2_with fail
        go_meet
        first
          | with_reducible exact CutF.of e2
    obtain ⟨rfl, hZ⟩ := hcut
    go_wp2
    go_ret
    exact ⟨rfl, below_then HK.out.2.2.2.2.2 hZ⟩
end Go.Proofs.YtemgoikghaiamaaDoor
/-
  XjumpTells answers true, from what the calls answer.
-/
namespace Go.Proofs.YtemgoikghaiamaaDoor
open Go.RowKit G
set_option linter.unusedVariables false
set_option maxRecDepth 100000

set_option maxHeartbeats 2000000 in
theorem tellsOut (aw : Hid (∀ W, Tab W → Calls Tryd.prog 8 #[] W (Bl true W))) (a b c d : Nat) (h l p : Int) (A : Option Addr) (ca L : Nat) (hq : 5 < L ∨ L ≤ 5 ∧ 40 < p ∧ p ≤ 2048) (w : World) (T : Tab w) :
    Calls Tryd.prog 3 #[.agg #[.int .u64 (a : Int), .int .u64 (b : Int), .int .u64 (c : Int), .int .u64 (d : Int)], .agg #[.int .u64 h, .int .u64 l], .int .i64 p, .slice A L ca] w (Bl true w) := by
  have hB : Below w.heap.size w w := Below.refl _ _
  have HT := Lib.hid T
  clear T
  go_enter Tryd.func3, Tryd.ntmps3
  go_wp2_with fail
  replace hB := below_alloc (below_alloc hB (.cells #[.int .u64 (a : Int), .int .u64 (b : Int), .int .u64 (c : Int), .int .u64 (d : Int)] 24)) (.cells #[.int .u64 h, .int .u64 l] 26)
  generalize World.alloc (World.alloc w _) _ = V2 at hB ⊢
  refine (aw.out _ (HT.out.below hB)).mono ?_
  rintro e W0 ⟨rfl, hb⟩
  replace hB := below_then hB hb
  clear hb aw
  rcases hq with h5 | ⟨h5, g1, g2⟩
  · have n5 : (L : Int) > 5 := by omega
    clear h5
    go_wp2
    go_ret
    exact ⟨rfl, hB⟩
  · have n5 : ¬ (L : Int) > 5 := by omega
    have g3 : p > 40 := g1
    clear h5 g1
    go_wp2
    go_ret
    exact ⟨rfl, hB⟩
theorem len5 {xs : List Nat} {L : Nat} {w : World} {A : Option Addr} {ca : Nat} (P : Pol w A ca xs) (hL : xs.length = L) (h : L ≤ 5) : len (leN xs) ≤ 320 := by
  have := len_le (leN_lt xs P.1)
  omega
theorem xjumpTells (X : JX) (aw : Hid (∀ W, Tab W → Calls Tryd.prog 8 #[] W (Bl true W))) (s : St) {h l : Int} {N : Nat} (p : Int) {A : Option Addr} {L ca : Nat} {xs : List Nat} (hs : s.Ok) (i : Wn h l N) (hL : xs.length = L) (w : World) (P : Pol w A ca xs) (T : Tab w) :
    Calls Tryd.prog 3 #[s.val, .agg #[.int .u64 h, .int .u64 l], .int .i64 p, .slice A L ca] w (Bl true w) := by
  by_cases h5 : L ≤ 5
  case neg => exact tellsOut aw s.a s.b s.c s.d h l p A ca L (.inl (by omega)) w T
  by_cases hp : p ≤ 40 ∨ 2048 < p
  case neg => exact tellsOut aw s.a s.b s.c s.d h l p A ca L (.inr ⟨h5, by omega, by omega⟩) w T
  have l5 := len5 P hL h5
  have CA : Hid (∀ W, Below w.heap.size w W → Calls Tryd.prog 11 #[.slice A L ca, .agg #[.int .u64 (s.a : Int), .int .u64 (s.b : Int), .int .u64 (s.c : Int), .int .u64 (s.d : Int)]] W (AnsS (polS (leN xs) s) W)) :=
    Lib.hid fun W hW => X.at_ s A ca L xs W hs (P.below hW) hL (by omega) (T.below hW)
  have CB : Hid (∀ W, Below w.heap.size w W → Calls Tryd.prog 13 #[.slice A L ca] W (AnsB (bitsOf (leN xs)) W)) :=
    Lib.hid fun W hW => rParts (leN xs) (P.below hW) hL rfl (by omega)
  have CR : Hid (∀ (B : Option Addr) (cb : Nat) (W : World), Lst W B cb (bitsOf (leN xs)) → Calls Tryd.prog 12 #[.slice B (bitsOf (leN xs)).length cb, .agg #[.int .u64 (s.a : Int), .int .u64 (s.b : Int), .int .u64 (s.c : Int), .int .u64 (s.d : Int)]] W (AnsS (polS (leN xs) s) W)) :=
    Lib.hid fun B cb W LL => by
      have := yAt s hs (leN xs) B cb W LL (by omega)
      rw [← bitsOf_len (leN xs)] at this
      rw [bitsOf_len] at this
      rw [bitsOf_len]
      exact this
  have CL : Hid (∀ W : World, Calls Tryd.prog 16 #[.agg #[.int .u64 h, .int .u64 l]] W (fun e w' => ∃ (B : Option Addr) (cb : Nat), e = .returned (.slice B 128 cb) ∧ Below W.heap.size W w' ∧ ∀ V, Below w'.heap.size w' V → (⟨s.a, s.b, s.c, s.d⟩ : St) ≠ St.zero → Calls Tryd.prog 15 #[.agg #[.int .u64 (s.a : Int), .int .u64 (s.b : Int), .int .u64 (s.c : Int), .int .u64 (s.d : Int)], .slice B 128 cb] V (AnsS (iterS s N) V))) :=
    Lib.hid fun W => (rList i W).mono fun e w' ⟨B, cb, ys, he, hy, hN, LL, hb⟩ => ⟨B, cb, he, hb, fun V hV _ => yJumpW s hs N 128 B cb V (LL.below hV) hy hN (by decide)⟩
  by_cases h0 : s = St.zero
  · have CJ : Hid (∀ W, Below w.heap.size w W → Calls Tryd.prog 9 #[.agg #[.int .u64 (s.a : Int), .int .u64 (s.b : Int), .int .u64 (s.c : Int), .int .u64 (s.d : Int)], .agg #[.int .u64 h, .int .u64 l]] W (AnsSE St.zero 3 W)) :=
      Lib.hid fun W hW => by rw [h0]; exact X.jumpZ h l N W i (T.below hW)
    have CP : Hid (∀ W, Below w.heap.size w W → Calls Tryd.prog 10 #[.agg #[.int .u64 (s.a : Int), .int .u64 (s.b : Int), .int .u64 (s.c : Int), .int .u64 (s.d : Int)], .int .i64 p] W (AnsSE St.zero 3 W)) :=
      Lib.hid fun W hW => by rw [h0]; exact X.powZ p W (T.below hW)
    have CL0 : Hid (∀ W : World, Calls Tryd.prog 16 #[.agg #[.int .u64 h, .int .u64 l]] W (fun e w' => ∃ (B : Option Addr) (cb : Nat), e = .returned (.slice B 128 cb) ∧ Below W.heap.size W w' ∧ ∀ V, Below w'.heap.size w' V → (⟨s.a, s.b, s.c, s.d⟩ : St) ≠ St.zero → Calls Tryd.prog 15 #[.agg #[.int .u64 (s.a : Int), .int .u64 (s.b : Int), .int .u64 (s.c : Int), .int .u64 (s.d : Int)], .slice B 128 cb] V (AnsS St.zero V))) :=
      Lib.hid fun W => (CL.out W).mono fun e w' ⟨B, cb, he, hb, q⟩ => ⟨B, cb, he, hb, fun V hV hne => absurd h0 hne⟩
    exact tellsMain aw s.a s.b s.c s.d 0 0 0 0 0 0 0 0 _ _ _ _ 3 3 h l p A ca L _ w T CJ CP CA CB CR CL0 h5 (Lib.hid hp) (Lib.hid (.zero h0 rfl rfl rfl rfl))
  · have CJ : Hid (∀ W, Below w.heap.size w W → Calls Tryd.prog 9 #[.agg #[.int .u64 (s.a : Int), .int .u64 (s.b : Int), .int .u64 (s.c : Int), .int .u64 (s.d : Int)], .agg #[.int .u64 h, .int .u64 l]] W (AnsSE (iterS s N) 0 W)) :=
      Lib.hid fun W hW => X.jumpY s h l N W hs h0 i (T.below hW)
    by_cases hq : p < 0 ∨ 2048 < p
    · have CP : Hid (∀ W, Below w.heap.size w W → Calls Tryd.prog 10 #[.agg #[.int .u64 (s.a : Int), .int .u64 (s.b : Int), .int .u64 (s.c : Int), .int .u64 (s.d : Int)], .int .i64 p] W (AnsSE St.zero 1 W)) :=
        Lib.hid fun W hW => X.powA s p W hs h0 hq (T.below hW)
      exact tellsMain aw s.a s.b s.c s.d _ _ _ _ 0 0 0 0 _ _ _ _ 0 1 h l p A ca L _ w T CJ CP CA CB CR CL h5 (Lib.hid hp) (Lib.hid (.arg h0 hq rfl rfl rfl))
    · obtain ⟨n, rfl⟩ := Int.eq_ofNat_of_zero_le (show 0 ≤ p by omega)
      have CP : Hid (∀ W, Below w.heap.size w W → Calls Tryd.prog 10 #[.agg #[.int .u64 (s.a : Int), .int .u64 (s.b : Int), .int .u64 (s.c : Int), .int .u64 (s.d : Int)], .int .i64 (n : Int)] W (AnsSE (iterS s (2 ^ n)) 0 W)) :=
        Lib.hid fun W hW => X.powY s n W hs h0 (by omega) (T.below hW)
      exact tellsMain aw s.a s.b s.c s.d _ _ _ _ _ _ _ _ _ _ _ _ 0 0 h l n A ca L _ w T CJ CP CA CB CR CL h5 (Lib.hid hp) (Lib.hid (.both h0 (by omega) (by omega) rfl rfl (fun W => yPowers s hs n (by omega) W)))
end Go.Proofs.YtemgoikghaiamaaDoor
