/-
  What the calls Pow, Plain and Irreducible of the reference of layer 4 answer.
-/
import Derived.Test.YtmhglbnoddimhaaGfwT
import Derived.Test.YtmhglbnoddimhaaGfpK
namespace Go.Proofs.Ytmhglbnoddimhaa
open Go.RowKit G
set_option linter.unusedVariables false

/-- The state of the reference's Pow: the number, what came out so far, the square, p, and the bits. -/
structure RpSt (w0 : World) (Ub : Nat) (h l : Int) (A1 : Option Addr) (c1 r : Nat) (A2 : Option Addr) (c2 q : Nat) (B : Option Addr) (cb Y : Nat) (Al : Option Addr) (cl : Nat) (ls : List Nat) (wr : World) : Prop where
  u : wr.cell? ⟨Ub, 0, none⟩ = some (.int .u64 h) ∧ wr.cell? ⟨Ub, 1, none⟩ = some (.int .u64 l)
  out : Lst wr A1 c1 (bitsOf r)
  sq : Lst wr A2 c2 (bitsOf q)
  by_ : Lst wr B cb (bitsOf Y)
  ls : Lst wr Al cl ls
  below : Below w0.heap.size w0 wr
theorem RpSt.far {w0 wr w' : World} {Ub : Nat} {h l : Int} {A1 : Option Addr} {c1 r : Nat} {A2 : Option Addr} {c2 q : Nat} {B : Option Addr} {cb Y : Nat} {Al : Option Addr} {cl : Nat} {ls : List Nat} (S : RpSt w0 Ub h l A1 c1 r A2 c2 q B cb Y Al cl ls wr) (hb : Below wr.heap.size wr w') : RpSt w0 Ub h l A1 c1 r A2 c2 q B cb Y Al cl ls w' :=
  ⟨two_below S.u hb, S.out.below hb, S.sq.below hb, S.by_.below hb, S.ls.below hb, below_then S.below hb⟩
theorem mod_next (N k : Nat) : N % 2 ^ (k + 1) = N % 2 ^ k + 2 ^ k * (N / 2 ^ k % 2) := by rw [Nat.pow_succ, Nat.mod_mul]
theorem len_bits {z Y K : Nat} (h0 : Y ≠ 0) (hK : (bitsOf Y).length = K) : (bitsOf (rt z Y)).length ≤ K := by
  rw [bitsOf_len] at hK ⊢
  have := rt_lt (a := z) h0
  omega
theorem len_prod {a b Y K : Nat} (ha : len a ≤ K) (hb : len b ≤ K) : (bitsOf (clm a b)).length ≤ 2 * K := by
  rw [bitsOf_len]
  have := len_le (clm_lt (len_lt a) (len_lt b))
  omega

set_option maxRecDepth 100000 in
set_option maxHeartbeats 2000000 in
theorem rPowWalk {A B : Option Addr} {L K ca cb : Nat} {xs : List Nat} {w : World} (h l : Int) (N E X Y R : Nat) (i : Hid (Wn h l N)) (hE : Hid (len N = E)) (P : Hid (Lst w A ca xs)) (Q : Hid (Lst w B cb (bitsOf Y))) (hL : Hid (xs.length = L)) (hK : Hid ((bitsOf Y).length = K)) (hX : Hid (leB xs = X)) (bL : L ≤ 20000) (bK : K ≤ 20000) (h0 : Hid (Y ≠ 0)) (hR : Hid (pr X N Y = R)) :
    Calls Try.prog 16 #[.slice A L ca, .agg #[.int .u64 h, .int .u64 l], .slice B K cb] w (AnsB (bitsOf R) w) := by
  have bE : E ≤ 128 := by have := i.out.lt; have := hE.out; rw [← this]; exact len_le (k := 128) ‹_›
  have lR := Lib.hid (show ∀ z, (bitsOf (rt z Y)).length ≤ 20000 from fun z => Nat.le_trans (len_bits h0.out hK.out) bK)
  have lM := Lib.hid (show ∀ y z, (bitsOf (clm (rt y Y) (rt z Y))).length ≤ 100000 from fun y z => by
    have e := hK.out
    rw [bitsOf_len] at e
    have a := rt_lt (a := y) h0.out
    have b := rt_lt (a := z) h0.out
    have := len_prod (Y := Y) (K := K) (show len (rt y Y) ≤ K by omega) (show len (rt z Y) ≤ K by omega)
    omega)
  go_enter Try.func16, Try.ntmps16
  go_wp2_with fail
  have K0 := Lib.hid (cells_new w (.int .u64 h) (.int .u64 l) 39)
  have hB := below_alloc (Below.refl _ _) (w := w) (W := w) (.cells #[.int .u64 h, .int .u64 l] 39)
  have K1 := Lib.hid (two_below K0.out (below_allocs _ (.cells #[.int .i64 1] 3)))
  have HB0 := Lib.hid (below_alloc hB (.cells #[.int .i64 1] 3))
  have P1 := Lib.hid (P.out.below HB0.out)
  have Q1 := Lib.hid (Q.out.below HB0.out)
  have one := lst_one (World.alloc w (.cells #[.int .u64 h, .int .u64 l] 39))
  rw [World.size_alloc] at one
  have ONE := Lib.hid one
  clear K0 hB one
  generalize hW0 : World.alloc (World.alloc w _) _ = W0 at K1 HB0 P1 Q1 ONE ⊢
  clear hW0
  refine (rMod 1 Y (pr X (N % 2 ^ 0) Y) ONE.out Q1.out bits_one hK.out (leB_bitsOf 1) rfl (by rw [Nat.pow_zero, Nat.mod_one, pr_zero]) (by omega) (by omega) h0.out).mono ?_
  rintro e w1 ⟨A1, c1, rfl, l1, hb⟩
  have HB1 := Lib.hid (below_then HB0.out hb)
  have K2 := Lib.hid (two_below K1.out hb)
  have P2 := Lib.hid (P1.out.below hb)
  have Q2 := Lib.hid (Q1.out.below hb)
  have L1 := Lib.hid l1
  clear hb l1 K1 P1 Q1 ONE HB0
  go_wp2_with fail
  refine (rMod X Y (pr X (2 ^ 0) Y) P2.out Q2.out hL.out hK.out hX.out rfl (by rw [Nat.pow_zero, pr_1]) (by omega) (by omega) h0.out).mono ?_
  rintro e w2 ⟨A2, c2, rfl, l2, hb⟩
  have HB2 := Lib.hid (below_then HB1.out hb)
  have K3 := Lib.hid (two_below K2.out hb)
  have Q3 := Lib.hid (Q2.out.below hb)
  have L2 := Lib.hid (L1.out.below hb)
  have L3 := Lib.hid l2
  obtain ⟨d0, d1⟩ := K3.out
  clear hb l2 K2 P2 Q2 L1 HB1
  go_wp2_with fail
  refine (rList i.out _).mono ?_
  rintro e w3 ⟨A3, c3, ls, rfl, hl, hv, l3, hb⟩
  have S := Lib.hid (RpSt.mk (two_below K3.out hb) (L2.out.below hb) (L3.out.below hb) (Q3.out.below hb) l3 (below_then HB2.out hb))
  have HLs := Lib.hid hl
  have HV := Lib.hid hv
  clear hb l3 hl hv d0 d1 K3 L2 L3 Q3 HB2
  go_wp2_with fail
  go_loopg [7, 8, 10] E (fun g o s i wr => ∃ (k : Nat) (A1 : Option Addr) (c1 r : Nat) (A2 : Option Addr) (c2 q : Nat), k + g = E ∧ i = .int .i64 k ∧ o = .slice A1 (bitsOf r).length c1 ∧ s = .slice A2 (bitsOf q).length c2 ∧ Hid (pr X (N % 2 ^ k) Y = r) ∧ Hid (pr X (2 ^ k) Y = q) ∧ Hid (RpSt w w.heap.size h l A1 c1 r A2 c2 q B cb Y A3 c3 ls wr))
  case atStart => exact ⟨0, A1, c1, _, A2, c2, _, by omega, rfl, rfl, rfl, Lib.hid rfl, Lib.hid rfl, S⟩
  case round =>
    obtain ⟨k, A1, c1, r, A2, c2, q, hk, rfl, rfl, rfl, hr, hq, S⟩ := hrel
    obtain ⟨d0, d1⟩ := S.out.u
    by_cases hlt : k < E
    · have kl : (k : Int) < (E : Int) := by omega
      have k0 : (0 : Int) ≤ (k : Int) := by omega
      have k1 : (k : Int) < 128 := by omega
      have HK := Lib.hid hlt
      have HKK := Lib.hid hk
      go_wp2_with fail
      refine (rLen E i.out hE.out _).mono ?_
      rintro e w4 ⟨rfl, hb⟩
      have S1 := Lib.hid (S.out.far hb)
      clear hb d0 d1 S
      obtain ⟨b, o, e3, cl⟩ := S1.out.ls.cell k (by rw [HLs.out]; omega)
      subst e3
      have ey := leB_get ls k S1.out.ls.bit
      rw [HV.out] at ey
      have EY := Lib.hid ey
      have lr := Lib.hid (show (bitsOf r).length ≤ 20000 from by rw [← hr.out]; exact lR.out _)
      have lq := Lib.hid (show (bitsOf q).length ≤ 20000 from by rw [← hq.out]; exact lR.out _)
      have lrq := Lib.hid (show (bitsOf (clm r q)).length ≤ 100000 from by rw [← hr.out, ← hq.out]; exact lM.out _ _)
      have lqq := Lib.hid (show (bitsOf (clm q q)).length ≤ 100000 from by rw [← hq.out]; exact lM.out _ _)
      have y2 := S1.out.ls.bit.get k
      clear ey hk hlt
      generalize ls.getD k 0 = y at cl EY y2
      have nq := Lib.hid (show rt (clm q q) Y = pr X (2 ^ (k + 1)) Y from by rw [pr_frob h0.out, hq.out])
      by_cases hy : y = 1
      · subst hy
        have nr := Lib.hid (show rt (clm r q) Y = pr X (N % 2 ^ (k + 1)) Y from by rw [mod_next, EY.out, Nat.mul_one, pr_add h0.out, hr.out, hq.out])
        go_wp2_with fail
        refine (rMul (clm r q) S1.out.out S1.out.sq rfl rfl (by rw [leB_bitsOf, leB_bitsOf]) (by have := lr.out; omega) (by have := lq.out; omega)).mono ?_
        rintro e w5 ⟨A5, c5, rfl, l5, hb⟩
        have S2 := Lib.hid (S1.out.far hb)
        have L5 := Lib.hid l5
        clear hb l5 S1 cl
        go_wp2_with fail
        refine (rMod (clm r q) Y (pr X (N % 2 ^ (k + 1)) Y) L5.out S2.out.by_ rfl hK.out (leB_bitsOf _) rfl nr.out lrq.out (by omega) h0.out).mono ?_
        rintro e w6 ⟨A6, c6, rfl, l6, hb⟩
        have S3 := Lib.hid (S2.out.far hb)
        have L6 := Lib.hid l6
        clear hb l6 S2 L5
        go_wp2_with fail
        refine (rMul (clm q q) S3.out.sq S3.out.sq rfl rfl (by rw [leB_bitsOf]) (by have := lq.out; omega) (by have := lq.out; omega)).mono ?_
        rintro e w7 ⟨A7, c7, rfl, l7, hb⟩
        have S4 := Lib.hid (S3.out.far hb)
        have L7 := Lib.hid l7
        replace L6 := Lib.hid (L6.out.below hb)
        clear hb l7 S3
        go_wp2_with fail
        refine (rMod (clm q q) Y (pr X (2 ^ (k + 1)) Y) L7.out S4.out.by_ rfl hK.out (leB_bitsOf _) rfl nq.out lqq.out (by omega) h0.out).mono ?_
        rintro e w8 ⟨A8, c8, rfl, l8, hb⟩
        have S5 := S4.out.far hb
        have S6 := Lib.hid (RpSt.mk S5.u (L6.out.below hb) l8 S5.by_ S5.ls S5.below)
        clear hb l8 S4 S5 L6 L7
        go_wp2_with fail
        go_roundg (gk - 1)
        case measure => have := HK.out; have := HKK.out; omega
        case rel => exact ⟨k + 1, A6, c6, _, A8, c8, _, by have := HK.out; have := HKK.out; omega, by go_num, rfl, rfl, Lib.hid rfl, Lib.hid rfl, S6⟩
      · have hyb : (y == 1) = false := by simpa using hy
        have hyc : ((y : Int) == 1) = false := by simp; omega
        have nr := Lib.hid (show r = pr X (N % 2 ^ (k + 1)) Y from by rw [mod_next, EY.out, show y = 0 from by omega, Nat.mul_zero, Nat.add_zero, hr.out])
        clear hy
        go_wp2_with fail
        refine (rMul (clm q q) S1.out.sq S1.out.sq rfl rfl (by rw [leB_bitsOf]) (by have := lq.out; omega) (by have := lq.out; omega)).mono ?_
        rintro e w7 ⟨A7, c7, rfl, l7, hb⟩
        have S4 := Lib.hid (S1.out.far hb)
        have L7 := Lib.hid l7
        clear hb l7 S1 cl
        go_wp2_with fail
        refine (rMod (clm q q) Y (pr X (2 ^ (k + 1)) Y) L7.out S4.out.by_ rfl hK.out (leB_bitsOf _) rfl nq.out lqq.out (by omega) h0.out).mono ?_
        rintro e w8 ⟨A8, c8, rfl, l8, hb⟩
        have S5 := S4.out.far hb
        have S6 := Lib.hid (RpSt.mk S5.u S5.out l8 S5.by_ S5.ls S5.below)
        clear hb l8 S4 S5 L7
        go_wp2_with fail
        go_roundg (gk - 1)
        case measure => have := HK.out; have := HKK.out; omega
        case rel => exact ⟨k + 1, A1, c1, _, A8, c8, _, by have := HK.out; have := HKK.out; omega, by go_num, rfl, rfl, Lib.hid nr.out.symm, Lib.hid rfl, S6⟩
    · obtain rfl : k = E := by omega
      have kl : ¬ ((k : Int) < (k : Int)) := by omega
      have er := Lib.hid (show r = R from by rw [← hr.out, ← hR.out, Nat.mod_eq_of_lt (by rw [← hE.out]; exact len_lt N)])
      go_wp2_with fail
      refine (rLen k i.out hE.out _).mono ?_
      rintro e w4 ⟨rfl, hb⟩
      have S1 := Lib.hid (S.out.far hb)
      clear hb d0 d1 S
      go_wp2_with fail
      go_ret
      exact ⟨A1, c1, by rw [← er.out]; rfl, by rw [← er.out]; exact S1.out.out, S1.out.below⟩
theorem rPowR {A B : Option Addr} {L K ca cb : Nat} {xs ys : List Nat} {w : World} {h l : Int} {N : Nat} (X Y R : Nat) (i : Wn h l N) (P : Lst w A ca xs) (Q : Lst w B cb ys) (hL : xs.length = L) (hK : ys.length = K) (hX : leB xs = X) (hY : ys = bitsOf Y) (hR : pr X N Y = R) (bL : L ≤ 20000) (bK : K ≤ 20000) (h0 : Y ≠ 0) :
    Calls Try.prog 16 #[.slice A L ca, .agg #[.int .u64 h, .int .u64 l], .slice B K cb] w (AnsB (bitsOf R) w) := by
  subst hY
  exact rPowWalk h l N _ X Y R (Lib.hid i) (Lib.hid rfl) (Lib.hid P) (Lib.hid Q) (Lib.hid hL) (Lib.hid hK) (Lib.hid hX) bL bK (Lib.hid h0) (Lib.hid hR)
end Go.Proofs.Ytmhglbnoddimhaa
