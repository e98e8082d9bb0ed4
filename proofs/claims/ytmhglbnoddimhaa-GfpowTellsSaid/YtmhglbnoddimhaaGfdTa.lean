/-
  What the call Div of the reference of layer 3 answers.
-/
import Derived.Test.YtmhglbnoddimhaaGfpTd
import Derived.Test.YtmhglbnoddimhaaGfdC
namespace Go.Proofs.Ytmhglbnoddimhaa
open Go.RowKit G
set_option linter.unusedVariables false

/-- An answer that is a quotient and a rest, as lists of bits. -/
def Ans2B (M N : Nat) (w : World) (e : Ending) (w' : World) : Prop :=
  ∃ (A B : Option Addr) (ca cb : Nat), e = .returned (.tuple #[.slice A (bitsOf M).length ca, .slice B (bitsOf N).length cb]) ∧ Lst w' A ca (bitsOf M) ∧ Lst w' B cb (bitsOf N) ∧ Below w.heap.size w w'
theorem FillB.other {w : World} {g cap n h k : Nat} {ps : List Nat} {wr : World} {u : Value} (F : FillB w g cap n ps wr) (hne : g ≠ h) (hn : w.heap.size ≤ h) : FillB w g cap n ps (wr.setCell ⟨h, k, none⟩ u) :=
  ⟨F.own.kept (grown_set (grown_refl wr (some h)) k u) (.inr (by simpa [Value.ownBlock] using hne)), F.bit, F.len, F.new, F.below.setCell hn _⟩
theorem Grow.fill {w wr : World} {v : Value} {xs : List Nat} {L : Nat} (G : Grow w v xs wr) (hL : xs.length = L) (hn : v ≠ .slice none 0 0) : ∃ g cap, v = .slice (some ⟨g, 0, none⟩) L cap ∧ FillB w g cap L xs wr := by
  subst hL
  have own := G.own
  rcases own.2 with ⟨e, _⟩ | ⟨g, cap, cur, e, hg, rest⟩
  · exact absurd e hn
  · refine ⟨g, cap, e, ?_⟩
    rw [e] at own
    exact ⟨own, G.bit, rfl, hg, G.below⟩
theorem FillB.up {w w1 : World} {g cap n : Nat} {ps : List Nat} {wr : World} (F : FillB w1 g cap n ps wr) (hb : Below w.heap.size w w1) : FillB w g cap n ps wr :=
  ⟨ownsRow_mono F.own hb.size, F.bit, F.len, Nat.le_trans hb.size F.new, below_then hb F.below⟩
/-- What of the parting list has been added. -/
def SubB (i k Z : Nat) (ys ps : List Nat) : Prop := leB ps = Z ^^^ leB (ys.take k) * 2 ^ i
theorem SubB.start (i Z : Nat) (ys ps : List Nat) (h : leB ps = Z) : SubB i 0 Z ys ps := by
  unfold SubB
  rw [h, List.take_zero]
  show _ = _ ^^^ 0 * 2 ^ i
  rw [Nat.zero_mul, Nat.xor_zero]
theorem SubB.step {i k t Z : Nat} {ys ps : List Nat} (h : SubB i k Z ys ps) (hy : Bts ys) (hp : Bts ps) (hk : k < ys.length) (ht : t = i + k) (hl : t < ps.length) : SubB i (k + 1) Z ys (ps.set t ((ps.getD t 0 + ys.getD k 0) % 2)) := by
  unfold SubB at *
  rw [leB_set ps t _ hp hl (hy.get k), h, leB_take_succ ys k hy hk, xor_shift, Nat.xor_assoc]
  congr 2
  rw [ht, Nat.mul_assoc, ← Nat.pow_add, Nat.add_comm]
theorem SubB.done {i Z : Nat} {ys ps : List Nat} (h : SubB i ys.length Z ys ps) : leB ps = Z ^^^ leB ys * 2 ^ i := by
  unfold SubB at h
  rwa [List.take_length] at h
theorem set_one {qs : List Nat} {i : Nat} (hq : Bts qs) (hi : i < qs.length) (h0 : (leB qs).testBit i = false) : leB (qs.set i 1) = leB qs ^^^ 2 ^ i := by
  have e := bit_leB qs i hq
  rw [h0] at e
  have z : qs.getD i 0 = 0 := by
    have := hq.get i
    have : ¬ qs.getD i 0 = 1 := by intro q; rw [q] at e; simp at e
    omega
  have := leB_set qs i 1 hq hi (by decide)
  rw [z, Nat.one_mul] at this
  exact this

set_option maxRecDepth 100000 in
set_option maxHeartbeats 4000000 in
theorem divWalkB (a : Addr) (B : Option Addr) (ca cb L K m X Y : Nat) (xs ys : List Nat) (hL : Hid (xs.length = L)) (hK : Hid (ys.length = K)) (hm : Hid (K = m + 1)) (hX : Hid (leB xs = X)) (hY : Hid (leB ys = Y)) (lY : Hid (len Y = m + 1)) (hl : L ≤ 100000) (hk : K ≤ 100000) (w : World) (P : Hid (Lst w (some a) ca xs)) (Q : Hid (Lst w B cb ys)) :
    Calls Try.prog 43 #[.slice (some a) L ca, .slice B K cb] w (Ans2B (qt X Y) (rt X Y) w) := by
  obtain ⟨i0, hi, hz0, hz1, hz2⟩ := info_parts infoI
  have HI := Lib.hid hi
  have HZ0 := Lib.hid hz0
  have HZ1 := Lib.hid hz1
  have HZ2 := Lib.hid hz2
  clear hi hz0 hz1 hz2
  have lt : (ints (xs.take L)).length = L * 1 := by rw [List.length_map, List.length_take, hL.out]; omega
  have LT := Lib.hid lt
  have TK := Lib.hid (show xs.take L = xs from by rw [← hL.out]; exact List.take_length)
  clear lt
  go_enter Try.func43, Try.ntmps43
  go_wp2_with (at_builtin; refine wpList_append_own _ rfl _ _ 34 rfl w.heap.size 3 i0 (.int .i64 0) 1 8 Try.underlying34 HI.out HZ0.out HZ1.out HZ2.out rfl (by decide) _ _ _ rfl (Grow.start w).own a L ca (ints (xs.take L)) rfl LT.out ((P.out.alloc _).news L) (one_ints _) (by unfold maxLen; simp; omega) (by simp; omega) (by simp) ?_; intro vr w1 hown hgrow hnil; have G1 := Lib.hid ((Grow.start w).step (ys := xs) P.out.bit (by rw [TK.out] at hown; rw [hL.out]; simpa using hown) hgrow); have N1 := Lib.hid (show vr ≠ .slice none 0 0 from fun e => by have := (hnil.1 e).1; cases this); clear hown hgrow hnil)
  go_loopg [7, 8] L (fun g v i wr => ∃ k : Nat, k + g = L ∧ i = .int .i64 k ∧ v ≠ .slice none 0 0 ∧ Hid (Grow w1 v (List.replicate k 0) wr))
  case atStart => exact ⟨0, by omega, rfl, by simp, Lib.hid (Grow.start w1)⟩
  case round =>
    obtain ⟨k, hk', rfl, nn, GR⟩ := hrel
    have SZ := GR.out.below.size
    have NN := Lib.hid nn
    clear nn
    by_cases hlt : k < L
    · have kl : (k : Int) < (L : Int) := by omega
      go_wp2_with (at_builtin; refine wpList_append_own _ rfl _ _ 34 rfl w1.heap.size 3 i0 (.int .i64 0) 1 8 Try.underlying34 HI.out HZ0.out HZ1.out HZ2.out rfl (by decide) _ _ _ rfl (GR.out.own.alloc _) ⟨wr.heap.size, 0, none⟩ 1 1 [.int .i64 0] rfl rfl (new1 wr _ _) (by simp [Value.oneCell']) (by rw [List.length_replicate]; unfold maxLen; omega) (by rw [List.length_replicate]; omega) (by simp; omega) ?_; intro v' w2 hown hgrow hnil; have G2 := Lib.hid ((GR.out.far (w' := wr.alloc _) (below_alloc (Below.refl _ _) (.cells #[.int .i64 0] 3))).step (ys := [0]) (fun z hz => by rw [List.mem_singleton.1 hz]; decide) hown hgrow); rw [zeros_next] at G2; have N2 := Lib.hid (show v' ≠ .slice none 0 0 from fun e => by have := (hnil.1 e).2; omega); clear hown hgrow hnil)
      go_roundg (gk - 1)
      case measure => omega
      case rel => exact ⟨k + 1, by omega, by go_num, N2.out, G2⟩
    · obtain rfl : k = L := by omega
      have kl : ¬ ((k : Int) < (k : Int)) := by omega
      obtain ⟨g, cg, rfl, R0⟩ := ((G1.out.far GR.out.below)).fill hL.out N1.out
      obtain ⟨h, ch, rfl, Q0⟩ := GR.out.fill List.length_replicate NN.out
      have gl : g < w1.heap.size := by
        obtain ⟨g', cg', e, F⟩ := G1.out.fill hL.out N1.out
        simp only [Value.slice.injEq, Option.some.injEq, Addr.mk.injEq, and_true, true_and] at e
        obtain ⟨rfl, rfl⟩ := e
        exact (F.own.lt g rfl).2
      have ne : g ≠ h := by have := Q0.new; omega
      have R0 := Lib.hid R0
      have Q0 := Lib.hid (Q0.up G1.out.below)
      have Z0 := Lib.hid (show clm (leB (List.replicate k 0)) Y ^^^ leB xs = X ∧ ∀ j, (leB (List.replicate k 0)).testBit j = false from by
        have z := leB_up [] k
        rw [List.append_nil] at z
        rw [z]
        show clm (0 * 2 ^ k) Y ^^^ _ = _ ∧ ∀ j, (0 * 2 ^ k).testBit j = false
        rw [Nat.zero_mul, clm_zero_left, Nat.zero_xor]
        exact ⟨hX.out, fun j => Nat.zero_testBit j⟩)
      have lx := Lib.hid (show len (leB xs) ≤ k from by have := len_le (leB_lt xs P.out.bit); rwa [hL.out] at this)
      have NE := Lib.hid ne
      clear NN GR SZ gl ne G1 N1 LT TK
      generalize List.replicate k 0 = qs0 at Q0 Z0
      have PQ := Lib.hid (Q.out.below (w' := wr) R0.out.below)
      go_wp2
      have bm : K ≤ 100000 := hk
      go_loopg [9] (k + 200001 - K) (fun gg z wr' => ∃ (i : Int) (ps qs : List Nat), z = .int .i64 i ∧ (gg : Int) = i + 200001 ∧ -200000 ≤ i ∧ i ≤ (k : Int) - (K : Int) ∧ Hid (FillB w g cg k ps wr') ∧ Hid (FillB w h ch k qs wr') ∧ Hid (clm (leB qs) Y ^^^ leB ps = X ∧ (len (leB ps) : Int) ≤ (m : Int) + 1 + i ∧ ∀ j : Nat, (j : Int) ≤ i → (leB qs).testBit j = false))
      case atStart => exact ⟨(k : Int) - (K : Int), xs, qs0, rfl, by omega, by omega, by omega, R0, Q0, Lib.hid ⟨Z0.out.1, by have := lx.out; have := hm.out; omega, fun j _ => Z0.out.2 j⟩⟩
      case round =>
        obtain ⟨i, ps, qs, rfl, hg, b1, b2, R, QQ, HV⟩ := hrel
        clear R0 Q0 Z0 lx
        have DR := fun (n : Nat) (e : i = (n : Int)) => div_round (k := n) lY.out HV.out.1 (by have := HV.out.2.1; omega) (fun j hj => HV.out.2.2 j (by omega))
        have HDR := Lib.hid DR
        clear DR
        by_cases hi : 0 ≤ i
        · obtain ⟨n, rfl⟩ : ∃ n : Nat, i = (n : Int) := ⟨i.toNat, by omega⟩
          have D := HDR.out n rfl
          clear HDR
          obtain ⟨t, ht⟩ : ∃ t, m + n = t := ⟨_, rfl⟩
          obtain ⟨s, hs⟩ : ∃ s, n + K = s := ⟨_, rfl⟩
          rw [ht] at D
          have tk : t < k := by have := hm.out; omega
          have r1 : (n : Int) + (K : Int) = (s : Int) := by omega
          have r2 : (s : Int) - 1 = (t : Int) := by have := hm.out; omega
          have r3 : (t : Int) < (k : Int) := by omega
          have r4 : (0 : Int) ≤ (t : Int) := by omega
          have r5 : s ≤ 300000 := by omega
          have HT := Lib.hid ht
          have HS := Lib.hid hs
          clear ht hs
          obtain ⟨c1, c2⟩ := R.out.cell t tk
          have gt := leB_get ps t R.out.bit
          have HD := Lib.hid D
          clear D
          rcases Nat.mod_two_eq_zero_or_one (leB ps / 2 ^ t) with hy | hy
          · have L0 := Lib.hid (HD.out.1 hy)
            rw [← gt, hy] at c1
            clear gt hy HD c2
            go_wp2
            go_roundg (gk - 1)
            case measure => omega
            case rel => exact ⟨(n : Int) - 1, ps, qs, rfl, by omega, by omega, by omega, R, QQ, Lib.hid ⟨HV.out.1, by have := L0.out; have := HT.out; omega, fun j hj => HV.out.2.2 j (by omega)⟩⟩
          · obtain ⟨lR, L1, V1, T1⟩ := HD.out.2 hy
            have HL1 := Lib.hid L1
            have HV1 := Lib.hid V1
            have HT1 := Lib.hid T1
            rw [← gt, hy] at c1
            clear gt hy HD c2 lR L1 V1 T1
            have nk : n < k := by have := hm.out; omega
            have n1 : (n : Int) < (k : Int) := by omega
            have n0 : (0 : Int) ≤ (n : Int) := by omega
            have sq := Lib.hid (set_one QQ.out.bit (by rw [QQ.out.len]; exact nk) (HV.out.2.2 n (by omega)))
            have Q1 := Lib.hid (QQ.out.set n 1 (by decide))
            have R1 := Lib.hid (R.out.other (u := .int .i64 ((1 : Nat) : Int)) (k := n) NE.out QQ.out.new)
            obtain ⟨c3, c4⟩ := QQ.out.cell n nk
            generalize qs.set n 1 = qs1 at sq Q1
            generalize qs.getD n 0 = qv at c3
            have S0 := Lib.hid (SubB.start n (leB ps) ys ps rfl)
            obtain ⟨go, rfl⟩ : ∃ go, go = gk := ⟨_, rfl⟩
            go_wp2
            go_loopg [10] K (fun gg z wr2 => ∃ (j : Nat) (ps1 : List Nat), j + gg = K ∧ z = .int .i64 j ∧ Hid (SubB n j (leB ps) ys ps1) ∧ Hid (FillB w g cg k ps1 wr2) ∧ Hid (FillB w h ch k qs1 wr2))
            case atStart => exact ⟨0, ps, by omega, rfl, S0, R1, Q1⟩
            case round =>
              clear R1 Q1 c1 c3 c4 S0
              obtain ⟨j, ps1, hj, rfl, HS1, R1, Q1⟩ := hrel
              by_cases hlt3 : j < K
              · have jl : (j : Int) < (K : Int) := by omega
                have j0 : (0 : Int) ≤ (j : Int) := by omega
                obtain ⟨bb, ob, eb, pc⟩ := (Q.out.below R1.out.below).cell j (by rw [hK.out]; exact hlt3)
                obtain ⟨t2, ht2⟩ : ∃ t, t = n + j := ⟨_, rfl⟩
                have tM : t2 < k := by omega
                obtain ⟨d1, d2⟩ := R1.out.cell t2 tM
                have S1 := Lib.hid (HS1.out.step Q.out.bit R1.out.bit (by rw [hK.out]; exact hlt3) ht2 (by rw [R1.out.len]; exact tM))
                have b3 := Q.out.bit.get j
                have b4 := R1.out.bit.get t2
                have R2 := Lib.hid (R1.out.drew.set t2 ((ps1.getD t2 0 + ys.getD j 0) % 2) (Nat.mod_lt _ (by decide)))
                have Q2 := Lib.hid (Q1.out.drew.other (u := .int .i64 (((ps1.getD t2 0 + ys.getD j 0) % 2 : Nat) : Int)) (k := t2) (fun e => NE.out e.symm) R1.out.new)
                generalize ps1.set t2 ((ps1.getD t2 0 + ys.getD j 0) % 2) = ps2 at S1 R2
                generalize ps1.getD t2 0 = p at d1 b4 R2 Q2
                generalize ys.getD j 0 = x at pc b3 R2 Q2
                obtain ⟨s2, hs2⟩ : ∃ s, s = p + x := ⟨_, rfl⟩
                rw [← hs2] at R2 Q2
                obtain ⟨q2, hq2⟩ : ∃ q, q = s2 % 2 := ⟨_, rfl⟩
                rw [← hq2] at R2 Q2
                have u1 : IntKind.i64.wrap ((n : Int) + (j : Int)) = (t2 : Int) := by rw [IntKind.wrap_i64]; omega
                have u2 : IntKind.i64.wrap ((p : Int) + (x : Int)) = (s2 : Int) := by rw [IntKind.wrap_i64]; omega
                have u3 : (t2 : Int) < (k : Int) := by omega
                have u4 : (0 : Int) ≤ (t2 : Int) := by omega
                have u5 : Int.tmod (s2 : Int) 2 = (q2 : Int) := by rw [hq2]; exact (Int.ofNat_tmod s2 2).symm
                have bq : q2 < 2 := by omega
                have u6 : IntKind.i64.wrap (q2 : Int) = (q2 : Int) := by rw [IntKind.wrap_i64]; omega
                clear hs2 hq2 ht2 r1 r2 r3 r4 r5
                subst eb
                go_wp2_with fail
                go_region
                clear u1 u2 u3 u4 u5 u6
                go_wp2_with fail
                go_roundg (gk - 1)
                case measure => omega
                case rel => exact ⟨j + 1, ps2, by omega, by go_num, S1, R2, Q2⟩
              · obtain rfl : j = K := by omega
                have jl : ¬ ((j : Int) < (j : Int)) := by omega
                have e := HS1.out
                rw [← hK.out] at e
                have E := Lib.hid e.done
                have HV2 := Lib.hid (show clm (leB qs1) Y ^^^ leB ps1 = X ∧ (len (leB ps1) : Int) ≤ (m : Int) + 1 + ((n : Int) - 1) ∧ ∀ j : Nat, (j : Int) ≤ (n : Int) - 1 → (leB qs1).testBit j = false from by
                  rw [E.out, sq.out, hY.out]
                  exact ⟨HV1.out, by have := HL1.out; have := HT.out; omega, fun j hj => HT1.out j (by omega)⟩)
                clear e
                go_wp2
                go_roundg (go - 1)
                case measure => omega
                case rel => exact ⟨(n : Int) - 1, ps1, qs1, rfl, by omega, by omega, by omega, R1, Q1, HV2⟩
        · have QR := Lib.hid (qr_of (a := X) (b := Y) (by intro e; have := lY.out; rw [e, len_zero] at this; omega) HV.out.1 (by have := HV.out.2.1; have := lY.out; omega))
          clear HDR
          have T1 := Lib.hid (rTrim (qt X Y) QQ.out.lst QQ.out.len QR.out.1.symm (by omega))
          go_wp2_with fail
          refine (T1.out).mono ?_
          rintro e wq ⟨Aq, cq, rfl, lq, hb⟩
          have HLQ := Lib.hid lq
          have HB := Lib.hid hb
          clear lq hb T1
          have T2 := Lib.hid (rTrim (rt X Y) (R.out.lst.below HB.out) R.out.len QR.out.2.symm (by omega))
          go_wp2_with fail
          refine (T2.out).mono ?_
          rintro e wq2 ⟨Ar, cr, rfl, lr, hb⟩
          have HLR := Lib.hid lr
          have HLQ2 := Lib.hid (HLQ.out.below hb)
          have HB2 := Lib.hid (below_then (below_then R.out.below HB.out) hb)
          clear lr hb T2
          go_wp2_with fail
          go_ret2
          exact ⟨Aq, Ar, cq, cr, rfl, HLQ2.out, HLR.out, HB2.out⟩
end Go.Proofs.Ytmhglbnoddimhaa
