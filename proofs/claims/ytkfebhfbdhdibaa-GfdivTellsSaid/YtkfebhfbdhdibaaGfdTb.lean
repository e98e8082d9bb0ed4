/-
  What the calls Div, Mod, Gcd and Inverse of the reference of layer 3 answer.
-/
import Derived.Test.YtkfebhfbdhdibaaGfdTa
import Derived.Test.YtkfebhfbdhdibaaGfdI
namespace Go.Proofs.Ytkfebhfbdhdibaa
open Go.RowKit G
set_option linter.unusedVariables false

set_option maxRecDepth 100000 in
set_option maxHeartbeats 2000000 in
theorem divNoneB (B : Option Addr) (ca cb K : Nat) (hK : 0 < K) (hk : K ≤ 100000) (hc : ca ≤ 9223372036854775807) (w : World) :
    Calls Try.prog 18 #[.slice none 0 ca, .slice B K cb] w (Ans2B 0 0 w) := by
  have hap := nil_appendI w.heap.size ca (w.alloc (.cells #[] 3)) (heap_alloc_new w _)
  have n1 : (0 : Int) ≤ (ca : Int) := by omega
  go_enter Try.func18, Try.ntmps18
  go_wp2
  clear hap
  have G1 := Lib.hid (Grow.start w)
  generalize hw1 : w.alloc (.cells #[] 3) = w1 at G1 ⊢
  have e1 : w1.heap.size = w.heap.size + 1 := by rw [← hw1]; simp
  clear hw1
  have G2 := Lib.hid (Grow.start w1)
  rw [e1] at G2
  have HB := Lib.hid (below_then G1.out.below (below_allocs w1 (.cells #[] 3)))
  have G3 := Lib.hid (G1.out.far (below_allocs w1 (.cells #[] 3)))
  generalize w1.alloc (.cells #[] 3) = w2 at G2 G3 HB ⊢
  clear G1
  go_loopg [7, 8] 0 (fun g v i wr => v = .slice (some ⟨w.heap.size + 1, 0, none⟩) 0 0 ∧ i = .int .i64 0 ∧ wr = w2)
  case atStart => exact ⟨rfl, rfl, rfl⟩
  case round =>
    obtain ⟨rfl, rfl, rfl⟩ := hrel
    go_wp2
    go_loopg [9] 0 (fun g z wr' => ∃ i : Int, z = .int .i64 i ∧ i < 0 ∧ wr' = wr)
    case atStart => exact ⟨_, rfl, by omega, rfl⟩
    case round =>
      obtain ⟨i, rfl, hi, rfl⟩ := hrel
      have d1 : ¬ (0 : Int) ≤ i := by omega
      obtain ⟨A2, c2, e2, l2⟩ := G2.out.lst
      obtain ⟨A3, c3, e3, l3⟩ := G3.out.lst
      simp only [List.length_nil, Value.slice.injEq, true_and] at e2 e3
      obtain ⟨rfl, rfl⟩ := e2
      obtain ⟨rfl, rfl⟩ := e3
      have T1 := Lib.hid (rTrim 0 l2 rfl rfl (by decide))
      have L3 := Lib.hid l3
      clear l2 l3
      go_wp2_with fail
      refine (T1.out).mono ?_
      rintro e wq ⟨Aq, cq, rfl, lq, hb⟩
      have HLQ := Lib.hid lq
      have HB1 := Lib.hid (below_then HB.out hb)
      have T2 := Lib.hid (rTrim 0 (L3.out.below hb) rfl rfl (by decide))
      clear lq hb T1
      go_wp2_with fail
      refine (T2.out).mono ?_
      rintro e wq2 ⟨Ar, cr, rfl, lr, hb⟩
      have HLR := Lib.hid lr
      have HLQ2 := Lib.hid (HLQ.out.below hb)
      have HB2 := Lib.hid (below_then HB1.out hb)
      clear lr hb T2
      go_wp2_with fail
      go_ret2
      exact ⟨Aq, Ar, cq, cr, rfl, HLQ2.out, HLR.out, HB2.out⟩
theorem qt_zero (b : Nat) : qt 0 b = 0 := rfl
theorem rDiv {A B : Option Addr} {ca cb L K : Nat} {xs ys : List Nat} {w : World} (X Y : Nat) (P : Lst w A ca xs) (Q : Lst w B cb ys) (hL : xs.length = L) (hK : ys.length = K) (hX : leB xs = X) (hY : ys = bitsOf Y) (hl : L ≤ 100000) (hk : K ≤ 100000) (h0 : Y ≠ 0) :
    Calls Try.prog 18 #[.slice A L ca, .slice B K cb] w (Ans2B (qt X Y) (rt X Y) w) := by
  subst hY
  have p := len_pos h0
  have lk := bitsOf_len Y
  cases A with
  | some a => exact divWalkB a B ca cb L K (len Y - 1) X Y xs _ (Lib.hid hL) (Lib.hid hK) (Lib.hid (by omega)) (Lib.hid hX) (Lib.hid (leB_bitsOf Y)) (Lib.hid (by omega)) hl hk w (Lib.hid P) (Lib.hid Q)
  | none =>
    have e0 : xs = [] := by
      cases xs with
      | nil => rfl
      | cons x r => obtain ⟨b, o, e, _⟩ := P.cell 0 (by simp); cases e
    subst e0
    subst hL
    have e1 : X = 0 := by rw [← hX]; rfl
    subst e1
    rw [qt_zero, rt_zero_left]
    exact divNoneB B ca cb K (by omega) hk P.cap2 w
set_option maxHeartbeats 1000000 in
theorem rMod {A B : Option Addr} {ca cb L K : Nat} {xs ys : List Nat} {w : World} (X Y R : Nat) (P : Lst w A ca xs) (Q : Lst w B cb ys) (hL : xs.length = L) (hK : ys.length = K) (hX : leB xs = X) (hY : ys = bitsOf Y) (hR : rt X Y = R) (hl : L ≤ 100000) (hk : K ≤ 100000) (h0 : Y ≠ 0) :
    Calls Try.prog 33 #[.slice A L ca, .slice B K cb] w (AnsB (bitsOf R) w) := by
  have D := Lib.hid (rDiv X Y P Q hL hK hX hY hl hk h0)
  rw [hR] at D
  clear P Q hL hK hX hY hR h0
  generalize qt X Y = q at D
  go_enter Try.func33, Try.ntmps33
  go_wp2_with fail
  refine (D.out).mono ?_
  rintro e w1 ⟨A1, B1, c1, d1, rfl, P1, Q1, hb⟩
  have HQ := Lib.hid Q1
  have HB := Lib.hid hb
  clear P1 Q1 hb
  go_wp2_with fail
  go_ret
  exact ⟨B1, d1, rfl, HQ.out, HB.out⟩
set_option maxRecDepth 100000 in
set_option maxHeartbeats 2000000 in
theorem gcWalkB (A B : Option Addr) (ca cb La Lb X Y G : Nat) (w : World) (P : Hid (Lst w A ca (bitsOf X))) (Q : Hid (Lst w B cb (bitsOf Y))) (la : Hid ((bitsOf X).length = La)) (lb : Hid ((bitsOf Y).length = Lb)) (hX : len X ≤ 90000) (hY : len Y ≤ 90000) (hG : Hid (gc X Y = G)) :
    Calls Try.prog 17 #[.slice A La ca, .slice B Lb cb] w (AnsB (bitsOf G) w) := by
  go_enter Try.func17, Try.ntmps17
  go_wp2
  go_loopg [0, 1] (len Y) (fun g u v wr => ∃ (A' B' : Option Addr) (La' ca' Lb' cb' X' Y' : Nat), u = .slice A' La' ca' ∧ v = .slice B' Lb' cb' ∧ Hid (Lst wr A' ca' (bitsOf X')) ∧ Hid (Lst wr B' cb' (bitsOf Y')) ∧ Hid ((bitsOf X').length = La') ∧ Hid ((bitsOf Y').length = Lb') ∧ len X' ≤ 90000 ∧ len Y' ≤ 90000 ∧ Hid (gc X' Y' = G) ∧ Hid (len Y' = g) ∧ Hid (Below w.heap.size w wr))
  case atStart => exact ⟨A, B, La, ca, Lb, cb, X, Y, rfl, rfl, P, Q, la, lb, hX, hY, hG, Lib.hid rfl, Lib.hid (Below.refl _ _)⟩
  case round =>
    obtain ⟨A', B', La', ca', Lb', cb', X', Y', rfl, rfl, P', Q', la', lb', b1, b2, hg, hl, HB⟩ := hrel
    have k1 := Lib.hid (bitsOf_len X')
    have k2 := Lib.hid (bitsOf_len Y')
    by_cases h0 : Y' = 0
    · have z : Lb' = 0 := by rw [← lb'.out, k2.out, h0, len_zero]
      have eG := Lib.hid (show X' = G from by have := hg.out; rw [h0, gc_zero] at this; exact this)
      clear h0
      subst z
      go_wp2
      go_ret
      refine ⟨A', ca', ?_, ?_, HB.out⟩
      · rw [← eG.out, la'.out]; rfl
      · rw [← eG.out]; exact P'.out
    · have n0 : (0 : Int) < (Lb' : Int) := by have := len_pos h0; have := k2.out; have := lb'.out; omega
      have D := Lib.hid (rMod X' Y' _ P'.out Q'.out la'.out lb'.out (leB_bitsOf X') rfl rfl (by have := k1.out; have := la'.out; omega) (by have := k2.out; have := lb'.out; omega) h0)
      have g1 := Lib.hid (show gc Y' (rt X' Y') = G from by rw [← gc_step h0]; exact hg.out)
      have g2 : len (rt X' Y') < gk := by rw [← hl.out]; exact rt_lt h0
      have g3 : len (rt X' Y') ≤ 90000 := by have := rt_lt (a := X') h0; omega
      clear h0
      generalize rt X' Y' = R at D g1 g2 g3
      go_wp2_with fail
      refine (D.out).mono ?_
      rintro e w1 ⟨C, cc, rfl, l1, hb⟩
      have HL := Lib.hid l1
      have HQ := Lib.hid (Q'.out.below hb)
      have HB1 := Lib.hid (below_then HB.out hb)
      clear l1 hb D
      go_wp2_with fail
      go_roundg (len R)
      case measure => exact g2
      case rel => exact ⟨B', C, Lb', cb', _, cc, Y', R, rfl, rfl, HQ, HL, lb', Lib.hid rfl, b2, g3, g1, Lib.hid rfl, HB1⟩
theorem rGcd {A B : Option Addr} {ca cb L K : Nat} {xs ys : List Nat} {w : World} (X Y G : Nat) (P : Lst w A ca xs) (Q : Lst w B cb ys) (hL : xs.length = L) (hK : ys.length = K) (hX : xs = bitsOf X) (hY : ys = bitsOf Y) (hG : gc X Y = G) (bX : len X ≤ 90000) (bY : len Y ≤ 90000) :
    Calls Try.prog 17 #[.slice A L ca, .slice B K cb] w (AnsB (bitsOf G) w) := by
  subst hX hY
  exact gcWalkB A B ca cb L K X Y G w (Lib.hid P) (Lib.hid Q) (Lib.hid hL) (Lib.hid hK) bX bY (Lib.hid hG)
/-- An answer that is the bits of a number, in a list of its own, and an error's number. -/
def AnsEB (N : Nat) (k : Int) (w : World) (e : Ending) (w' : World) : Prop :=
  ∃ (A : Option Addr) (cap : Nat), e = .returned (.tuple #[.slice A (bitsOf N).length cap, .int .i64 k]) ∧ Lst w' A cap (bitsOf N) ∧ Below w.heap.size w w'
set_option maxHeartbeats 1000000 in
theorem rInvZero (A B : Option Addr) (ca cb L : Nat) (w : World) :
    Calls Try.prog 13 #[.slice A L ca, .slice B 0 cb] w (NilE 8 w) := by
  go_enter Try.func13, Try.ntmps13
  go_wp2
  go_ret2
  exact ⟨rfl, Below.refl _ _⟩
set_option maxHeartbeats 1000000 in
theorem rInvNo {A B : Option Addr} {ca cb L K : Nat} {xs ys : List Nat} {w : World} (X Y : Nat) (P : Lst w A ca xs) (Q : Lst w B cb ys) (hL : xs.length = L) (hK : ys.length = K) (hX : xs = bitsOf X) (hY : ys = bitsOf Y) (hG : gc X Y ≠ 1) (bX : len X ≤ 30000) (bY : len Y ≤ 30000) (h0 : Y ≠ 0) :
    Calls Try.prog 13 #[.slice A L ca, .slice B K cb] w (NilE 1 w) := by
  have p := len_pos h0
  have k := bitsOf_len Y
  have kg := bitsOf_len (gc X Y)
  have ng : len (gc X Y) ≠ 1 := fun e => hG (one_of_len e)
  have D := Lib.hid (rGcd X Y _ P Q hL hK hX hY rfl (by omega) (by omega))
  subst hX hY
  have k0 : (K == 0) = false := by have : K ≠ 0 := by omega
                                   simpa using this
  have k1 : ((K : Int) == 0) = false := by simp; omega
  have t1 : ((bitsOf (gc X Y)).length == 1) = false := by rw [kg]; simpa using ng
  have t2 : (((bitsOf (gc X Y)).length : Int) != 1) = true := by rw [kg]; simp; omega
  have t3 : ((bitsOf (gc X Y)).length != 1) = true := by rw [kg]; simpa using ng
  clear P Q hL hK hG h0 p k kg ng
  generalize gc X Y = G at D t1 t2 t3
  generalize hM : (bitsOf G).length = M at t1 t2 t3
  have HM := Lib.hid hM
  clear hM
  go_enter Try.func13, Try.ntmps13
  go_wp2_with fail
  refine (D.out).mono ?_
  rintro e w1 ⟨A1, c1, rfl, l1, hb⟩
  rw [HM.out]
  have HB := Lib.hid hb
  clear l1 hb
  go_wp2_with fail
  go_ret2
  exact ⟨rfl, HB.out⟩
theorem lst_one (w : World) : Lst (w.alloc (.cells #[.int .i64 1] 3)) (some ⟨w.heap.size, 0, none⟩) 1 (bitsOf 1) := by
  have e : bitsOf 1 = [1] := by rw [bitsOf_pos (by decide)]; rw [show (1 : Nat) / 2 = 0 from rfl, bitsOf_zero]
  rw [e]
  exact ⟨fun x hx => (by rw [List.mem_singleton.1 hx]; decide), Nat.le_refl _, by decide, fun i hi => ⟨w.heap.size, 0, rfl, by
    obtain rfl : i = 0 := by simpa using hi
    simp⟩⟩
theorem bits_one : (bitsOf 1).length = 1 := bitsOf_len 1
set_option maxRecDepth 100000 in
set_option maxHeartbeats 4000000 in
theorem invWalkB (A B : Option Addr) (ca cb L K X Y V S : Nat) (w : World) (P : Hid (Lst w A ca (bitsOf X))) (Q : Hid (Lst w B cb (bitsOf Y))) (hL : Hid ((bitsOf X).length = L)) (hK : Hid ((bitsOf Y).length = K)) (hG : Hid (gc X Y = 1)) (hV : Hid (iv X Y = V)) (hS : Hid (rt X Y = S)) (bX : len X ≤ 30000) (bY : len Y ≤ 30000) (h0 : Hid (Y ≠ 0)) :
    Calls Try.prog 13 #[.slice A L ca, .slice B K cb] w (AnsEB V 0 w) := by
  have kX := Lib.hid (bitsOf_len X)
  have kY := Lib.hid (bitsOf_len Y)
  have D := Lib.hid (rGcd X Y 1 P.out Q.out hL.out hK.out rfl rfl hG.out (by omega) (by omega))
  have I := inv_inv (a := X) h0.out
  rw [hG.out, hV.out, hS.out] at I
  have HI := Lib.hid I
  have VY := Lib.hid (show len V < len Y from by rw [← hV.out]; exact (iv_facts h0.out hG.out).2)
  have K0 : K ≠ 0 := by have := len_pos h0.out; have := kY.out; have := hK.out; omega
  have k0 : (K == 0) = false := by simpa using K0
  have k1 : ((K : Int) == 0) = false := by simp; omega
  clear I K0
  go_enter Try.func13, Try.ntmps13
  go_wp2_with fail
  refine (D.out).mono ?_
  rintro e w1 ⟨A1, c1, rfl, l1, hb⟩
  rw [bits_one]
  have HB1 := Lib.hid hb
  clear l1 hb D
  have D2 := Lib.hid (rMod X Y S (P.out.below HB1.out) (Q.out.below HB1.out) hL.out hK.out (leB_bitsOf X) rfl hS.out (by have := kX.out; have := hL.out; omega) (by have := kY.out; have := hK.out; omega) h0.out)
  go_wp2_with fail
  refine (D2.out).mono ?_
  rintro e w2 ⟨A2, c2, rfl, l2, hb⟩
  have HL2 := Lib.hid l2
  have HB2 := Lib.hid (below_then HB1.out hb)
  clear l2 hb D2
  have LX := Lib.hid (below_allocs w2 (.cells #[] 3))
  have LY := Lib.hid (below_then LX.out (below_allocs _ (.cells #[.int .i64 1] 3)))
  have L1 := Lib.hid (lst_one (w2.alloc (.cells #[] 3)))
  simp only [World.size_alloc] at L1
  go_wp2_with fail
  generalize hW : World.alloc _ _ = W at L1 LY ⊢
  clear hW LX
  have I0 := Lib.hid (show ExInv 0 1 Y S 1 V (len Y) from HI.out)
  go_loopg [6, 7, 8, 9] (len S) (fun g r t x y wr => ∃ (Ar At Ax Ay : Option Addr) (Lr cr Lt ct Lx cx Ly cy R T U Z : Nat), r = .slice Ar Lr cr ∧ t = .slice At Lt ct ∧ x = .slice Ax Lx cx ∧ y = .slice Ay Ly cy ∧
      Hid (Lst wr Ar cr (bitsOf R)) ∧ Hid (Lst wr At ct (bitsOf T)) ∧ Hid (Lst wr Ax cx (bitsOf U)) ∧ Hid (Lst wr Ay cy (bitsOf Z)) ∧ Hid ((bitsOf R).length = Lr) ∧ Hid ((bitsOf T).length = Lt) ∧ Hid ((bitsOf U).length = Lx) ∧ Hid ((bitsOf Z).length = Ly) ∧ Hid (ExInv U Z R T 1 V (len Y)) ∧ Hid (len T = g) ∧ Hid (Below w.heap.size w wr))
  case atStart => exact ⟨B, A2, some ⟨w2.heap.size, 0, none⟩, some ⟨w2.heap.size + 1, 0, none⟩, K, cb, _, c2, 0, 0, 1, 1, Y, S, 0, 1, rfl, rfl, rfl, rfl, Lib.hid ((Q.out.below HB2.out).below LY.out), Lib.hid (HL2.out.below LY.out), Lib.hid (by rw [bitsOf_zero]; exact Lst.nil _ _ _ (by decide)), L1, hK, Lib.hid rfl, Lib.hid (by rw [bitsOf_zero]; rfl), Lib.hid bits_one, I0, Lib.hid rfl, Lib.hid (below_then HB2.out LY.out)⟩
  case round =>
    obtain ⟨Ar, At, Ax, Ay, Lr, cr, Lt, ct, Lx, cx, Ly, cy, R, T, U, Z, rfl, rfl, rfl, rfl, PR, PT, PU, PZ, lr, lt, lx, ly, I, hl, HB⟩ := hrel
    clear I0 L1 LY HL2 HB2 HB1
    have kT := Lib.hid (bitsOf_len T)
    have kR := Lib.hid (bitsOf_len R)
    have kU := Lib.hid (bitsOf_len U)
    have kZ := Lib.hid (bitsOf_len Z)
    by_cases hT : T = 0
    · have z : Lt = 0 := by rw [← lt.out, kT.out, hT, len_zero]
      have eV := Lib.hid (show U = V from by have := I.out.ex; rw [hT, ex_zero] at this; exact this)
      clear hT
      subst z
      have D := Lib.hid (rMod U Y V PU.out (Q.out.below HB.out) lx.out hK.out (leB_bitsOf U) rfl (by rw [eV.out]; exact rt_small VY.out) (by rw [← lx.out, kU.out, eV.out]; have := VY.out; omega) (by have := kY.out; have := hK.out; omega) h0.out)
      go_wp2_with fail
      refine (D.out).mono ?_
      rintro e w3 ⟨A3, c3, rfl, l3, hb⟩
      have HL3 := Lib.hid l3
      have HB3 := Lib.hid (below_then HB.out hb)
      clear l3 hb
      go_wp2_with fail
      go_ret2
      exact ⟨A3, c3, rfl, HL3.out, HB3.out⟩
    · have n0 : (0 : Int) < (Lt : Int) := by have := len_pos hT; have := kT.out; have := lt.out; omega
      have n := ex_next hT I.out.l1 I.out.l2 I.out.l3
      have bR : Lr ≤ 100000 := by rw [← lr.out, kR.out]; have := I.out.l3; omega
      have bT : Lt ≤ 100000 := by rw [← lt.out, kT.out]; have := I.out.l1; have := I.out.l3; omega
      have bZ : Ly ≤ 100000 := by rw [← ly.out, kZ.out]; have := I.out.l3; omega
      have bU : Lx ≤ 100000 := by rw [← lx.out, kU.out]; have := I.out.l2; have := I.out.l3; omega
      have bq : (bitsOf (qt R T)).length ≤ 100000 := by rw [bitsOf_len]; omega
      have bm : (bitsOf (clm (qt R T) Z)).length ≤ 100000 := by rw [bitsOf_len, clm_comm]; omega
      have D := Lib.hid (rDiv R T PR.out PT.out lr.out lt.out (leB_bitsOf R) rfl bR bT hT)
      have I1 := Lib.hid (show ExInv Z (U ^^^ clm (qt R T) Z) T (rt R T) 1 V (len Y) from by rw [clm_comm]; exact I.out.next hT)
      have g2 : len (rt R T) < gk := by rw [← hl.out]; exact rt_lt hT
      clear hT n
      generalize rt R T = R2 at D I1 g2
      generalize qt R T = q at D I1 bq bm
      obtain ⟨M, hM⟩ : ∃ M, clm q Z = M := ⟨_, rfl⟩
      rw [hM] at I1 bm
      have HM := Lib.hid hM
      obtain ⟨N, hN⟩ : ∃ N, U ^^^ M = N := ⟨_, rfl⟩
      rw [hN] at I1
      have HN := Lib.hid hN
      clear hM hN
      go_wp2_with fail
      refine (D.out).mono ?_
      rintro e w3 ⟨A3, B3, c3, d3, rfl, l3, m3, hb⟩
      have HQ3 := Lib.hid l3
      have HR3 := Lib.hid m3
      have T3 := Lib.hid (PT.out.below hb)
      have U3 := Lib.hid (PU.out.below hb)
      have Z3 := Lib.hid (PZ.out.below hb)
      have HB3 := Lib.hid (below_then HB.out hb)
      clear l3 m3 hb D
      have DM := Lib.hid (rMul M HQ3.out Z3.out rfl ly.out (by rw [leB_bitsOf, leB_bitsOf]; exact HM.out) bq bZ)
      go_wp2_with fail
      refine (DM.out).mono ?_
      rintro e w4 ⟨A4, c4, rfl, l4, hb⟩
      have HM4 := Lib.hid l4
      have R4 := Lib.hid (HR3.out.below hb)
      have T4 := Lib.hid (T3.out.below hb)
      have U4 := Lib.hid (U3.out.below hb)
      have Z4 := Lib.hid (Z3.out.below hb)
      have HB4 := Lib.hid (below_then HB3.out hb)
      clear l4 hb DM
      have DA := Lib.hid (rAdd N U4.out HM4.out lx.out rfl (by rw [leB_bitsOf, leB_bitsOf]; exact HN.out) bU bm)
      go_wp2_with fail
      refine (DA.out).mono ?_
      rintro e w5 ⟨A5, c5, rfl, l5, hb⟩
      have HN5 := Lib.hid l5
      have R5 := Lib.hid (R4.out.below hb)
      have T5 := Lib.hid (T4.out.below hb)
      have Z5 := Lib.hid (Z4.out.below hb)
      have HB5 := Lib.hid (below_then HB4.out hb)
      clear l5 hb DA
      go_wp2_with fail
      go_roundg (len R2)
      case measure => exact g2
      case rel => exact ⟨At, B3, Ay, A5, Lt, ct, _, d3, Ly, cy, _, c5, T, R2, Z, N, rfl, rfl, rfl, rfl, T5, R5, Z5, HN5, lt, Lib.hid rfl, ly, Lib.hid rfl, I1, Lib.hid rfl, HB5⟩
theorem rInvOk {A B : Option Addr} {ca cb L K : Nat} {xs ys : List Nat} {w : World} (X Y V : Nat) (P : Lst w A ca xs) (Q : Lst w B cb ys) (hL : xs.length = L) (hK : ys.length = K) (hX : xs = bitsOf X) (hY : ys = bitsOf Y) (hG : gc X Y = 1) (hV : iv X Y = V) (bX : len X ≤ 30000) (bY : len Y ≤ 30000) (h0 : Y ≠ 0) :
    Calls Try.prog 13 #[.slice A L ca, .slice B K cb] w (AnsEB V 0 w) := by
  subst hX hY
  exact invWalkB A B ca cb L K X Y V _ w (Lib.hid P) (Lib.hid Q) (Lib.hid hL) (Lib.hid hK) (Lib.hid hG) (Lib.hid hV) (Lib.hid rfl) bX bY (Lib.hid h0)
end Go.Proofs.Ytkfebhfbdhdibaa
