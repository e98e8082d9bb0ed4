/-
  TableCopies of layer 19: the walk.
-/
import Derived.Test.YtlimfgmmbkgeeaaTbN
namespace Go.Proofs.Ytlimfgmmbkgeeaa
open Go.RowKit
set_option linter.unusedVariables false
set_option maxRecDepth 100000

theorem tSame {w : World} {p : Nat} {F : Nat → Prop} {t : Tb} (h : At w p F t) : Calls Try.prog 20 #[.pointer (some ⟨p, 0, none⟩), .func (.func 19) #[] #[]] w (fun e w' => ∃ q, e = .returned (.pointer (some ⟨q, 0, none⟩)) ∧ Post (fun _ => False) w q t w') := by
  have k := tCopy h ownSame
  rw [map_id] at k
  exact k
set_option maxHeartbeats 8000000 in
theorem tableCopies (A B : Option Addr) (ca cb : Nat) (k l : List Ac) (w : World) (HK : AL w A ca k) (HL : AL w B cb l) : Calls Try.prog 5 #[.slice A k.length ca, .slice B l.length cb] w (AnsB true w) := by
  have HA := Lib.hid HK
  have HC := Lib.hid HL
  clear HK HL
  go_enter Try.func5, Try.ntmps5
  go_wp2_with fail
  refine (awake19 _).mono ?_
  rintro e V ⟨rfl, hb⟩
  have HB := Lib.hid hb
  clear hb
  by_cases hm : 100 < k.length
  · have hm' : (k.length : Int) > 100 := by omega
    go_wp2
    go_ret
    exact ⟨rfl, HB.out⟩
  have hm' : ¬ ((k.length : Int) > 100) := by omega
  by_cases hn : 100 < l.length
  · have hn' : (l.length : Int) > 100 := by omega
    go_wp2
    go_ret
    exact ⟨rfl, HB.out⟩
  have hn' : ¬ ((l.length : Int) > 100) := by omega
  clear hm hn
  go_wp2_with fail
  refine (tNew _).mono ?_
  rintro e V2 ⟨p, rfl, hp, A0, hb⟩
  have J : Hid (One w V2 p ⟨[], 0⟩) := Lib.hid ⟨⟨_, A0, fun b e => e ▸ Nat.le_trans HB.out.size hp⟩, below_then HB.out hb⟩
  clear A0 hp hb HB
  go_wp2_with fail
  go_loopg [34] k.length (fun g iv wr => ∃ (i : Nat) (t : Tb), i + g = k.length ∧ iv = .int .i64 i ∧ Hid (One w wr p t))
  case atStart => exact ⟨0, _, by omega, rfl, J⟩
  case round =>
    clear J
    obtain ⟨i, t, hi, rfl, J⟩ := hrel
    by_cases hlt : i < k.length
    · have hlt' : (i : Int) < k.length := by omega
      obtain ⟨b, o, rfl, hbl, c0, c1, c2⟩ := (HA.out.below J.out.below).cell i hlt
      have cap1 := HA.out.cap1
      have cap2 := HA.out.cap2
      generalize hA : k.getD i default = a at c0 c1 c2
      clear hA
      have KP : Hid (OneN w (wr.alloc (.cells (acC a) 32)) (fun b => b = wr.heap.size) p t ∧ KB (wr.alloc (.cells (acC a) 32)) wr.heap.size a) := Lib.hid ⟨J.out.non.more (below_allocs wr _) (fun b e => .inr ⟨Nat.le_of_eq e.symm, by subst e; simp⟩), Blk.new wr _ _⟩
      clear J
      go_upto_region 11 with fail
      unfold acC at KP
      generalize hx : wr.heap.size = x at KP ⊢
      clear hx
      generalize wr.alloc _ = W1 at KP ⊢
      clear c0 c1 c2 hbl cap1 cap2
      obtain ⟨c0, c1, c2⟩ := KB.cells KP.out.2
      go_wp2_with fail
      obtain ⟨F, at1, nx⟩ := KP.out.1.act
      refine (tDo at1 a).mono ?_
      rintro e W2 ⟨rfl, X⟩
      have J2 := Lib.hid (nx _ _ X).1.one
      clear X nx at1 F c0 c1 c2 KP
      generalize doT t a = t2 at *
      generalize doN t a = n at *
      generalize doE t a = m at *
      go_wp2_with fail
      go_roundg (gk - 1)
      case measure => omega
      case rel => exact ⟨i + 1, t2, by omega, by go_num, J2⟩
    · obtain rfl : i = k.length := by omega
      clear HA
      go_wp2_with fail
      obtain ⟨F, at1, nx⟩ := J.out.act
      refine (tSame at1).mono ?_
      rintro e W2 ⟨q, rfl, X⟩
      have D := Lib.hid (J.out.copy X)
      clear X nx at1 F J
      go_wp2_with fail
      obtain ⟨F, at1, nx⟩ := D.out.act1
      refine (tSame at1).mono ?_
      rintro e W3 ⟨r, rfl, X⟩
      have T := Lib.hid (D.out.copy X)
      clear X nx at1 F D
      go_wp2_with fail
      obtain ⟨F, at1⟩ := T.out.at1
      refine (tHandles at1).mono ?_
      rintro e W4 ⟨v, rfl, o1, hb⟩
      have TN : Hid (TrioN w W4 (fun b => v.ownBlock = some b) p t q t r t) := Lib.hid (T.out.non.more hb (fun b e => .inr (o1.lt b e)))
      have OV := Lib.hid (il_zero o1)
      clear hb T at1 F o1
      go_wp2_with fail
      obtain ⟨F, at1⟩ := TN.out.at1
      refine (tNext at1).mono ?_
      rintro e W5 ⟨rfl, rfl⟩
      clear at1 F
      obtain ⟨A5, k5, rfl, _⟩ := own_slice OV.out
      have hs16 : t.h.length ≤ 16 := by
        obtain ⟨_, at1⟩ := TN.out.at1
        rw [t.h_len]; exact at1.ok.many
      have HT : Hid (t.h.length ≤ 16) := Lib.hid hs16
      clear hs16
      go_wp2_with fail
      go_loopg [60] l.length (fun g iv wr => ∃ (i : Nat) (s : Tb), i + g = l.length ∧ iv = .int .i64 i ∧ Hid (TrioN w wr (fun b => (Value.slice A5 t.h.length k5).ownBlock = some b) p t q s r s) ∧ Hid (IL 0 wr (.slice A5 t.h.length k5) t.h))
      case atStart => exact ⟨0, _, by omega, rfl, TN, OV⟩
      case round =>
        clear TN OV hi
        obtain ⟨i, s, hi, rfl, TN, OV⟩ := hrel
        by_cases hlt : i < l.length
        · have hlt' : (i : Int) < l.length := by omega
          obtain ⟨b, o, rfl, hbl, c0, c1, c2⟩ := (HC.out.below TN.out.below).cell i hlt
          have cap1 := HC.out.cap1
          have cap2 := HC.out.cap2
          generalize hA : l.getD i default = a at c0 c1 c2
          clear hA
          have LB := below_allocs wr (.cells (acC a) 32)
          have KP : Hid (TrioN w (wr.alloc (.cells (acC a) 32)) (fun b => (Value.slice A5 t.h.length k5).ownBlock = some b ∨ b = wr.heap.size) p t q s r s ∧ KB (wr.alloc (.cells (acC a) 32)) wr.heap.size a ∧ IL 0 (wr.alloc (.cells (acC a) 32)) (.slice A5 t.h.length k5) t.h) := Lib.hid ⟨TN.out.more LB (fun b e => e.imp id fun e => ⟨Nat.le_of_eq e.symm, by subst e; simp⟩), Blk.new wr _ _, il_below OV.out LB⟩
          clear TN OV LB
          go_upto_region 21 with fail
          unfold acC at KP
          generalize hx : wr.heap.size = x at KP ⊢
          clear hx
          generalize wr.alloc _ = W1 at KP ⊢
          clear c0 c1 c2 hbl cap1 cap2
          obtain ⟨c0, c1, c2⟩ := KB.cells KP.out.2.1
          go_wp2_with fail
          obtain ⟨F, at1, nx⟩ := KP.out.1.act2
          refine (tDo at1 a).mono ?_
          rintro e W2 ⟨rfl, X⟩
          have K1 := Lib.hid (And.intro (nx _ _ X).1 (And.intro (KP.out.2.1.keep (nx _ _ X).2 (.inr rfl)) (il_keep KP.out.2.2 (nx _ _ X).2 (fun b e => .inl e))))
          clear X nx at1 F c0 c1 c2 KP
          obtain ⟨c0, c1, c2⟩ := KB.cells K1.out.2.1
          go_wp2_with fail
          obtain ⟨F, at1, nx⟩ := K1.out.1.act3
          refine (tDo at1 a).mono ?_
          rintro e W3 ⟨rfl, X⟩
          have K2 := Lib.hid (And.intro ((nx _ _ X).1.less (M := fun b => (Value.slice A5 t.h.length k5).ownBlock = some b) (fun b e => .inl e)) (il_keep K1.out.2.2 (nx _ _ X).2 (fun b e => .inl e)))
          clear X nx at1 F c0 c1 c2 K1
          generalize doT s a = s2 at *
          generalize doN s a = n at *
          generalize doE s a = m at *
          have H2 : Hid (s2.h.length ≤ 16) := Lib.hid (by
            obtain ⟨_, at1, _⟩ := K2.out.1.act2
            rw [s2.h_len]; exact at1.ok.many)
          go_wp2_with fail
          obtain ⟨F, at1, nx⟩ := K2.out.1.act2
          refine (tHandles at1).mono ?_
          rintro e W4 ⟨v1, rfl, o1, hb⟩
          have K3 := Lib.hid (And.intro (K2.out.1.still hb) (And.intro (il_below K2.out.2 hb) (il_zero o1)))
          clear hb nx at1 F o1 K2
          go_wp2_with fail
          obtain ⟨F, at1, nx⟩ := K3.out.1.act3
          refine (tHandles at1).mono ?_
          rintro e W5 ⟨v2, rfl, o2, hb⟩
          have K4 := Lib.hid (And.intro (K3.out.1.still hb) (And.intro (il_below K3.out.2.1 hb) (And.intro (il_below K3.out.2.2 hb) (il_zero o2))))
          clear hb nx at1 F o2 K3
          go_wp2_with fail
          refine (rInts K4.out.2.2.1 K4.out.2.2.2 (Nat.le_trans H2.out (by decide)) (Nat.le_trans H2.out (by decide))).mono ?_
          rintro e W6 ⟨rfl, hb⟩
          rw [decide_eq_true rfl]
          have K5 := Lib.hid (And.intro (K4.out.1.still hb) (il_below K4.out.2.1 hb))
          clear hb K4 H2
          go_wp2_with fail
          obtain ⟨F, at1, nx⟩ := K5.out.1.act2
          refine (tNext at1).mono ?_
          rintro e W7 ⟨rfl, rfl⟩
          clear nx at1 F
          go_wp2_with fail
          obtain ⟨F, at1, nx⟩ := K5.out.1.act3
          refine (tNext at1).mono ?_
          rintro e W7 ⟨rfl, rfl⟩
          clear nx at1 F
          generalize hsn : s2.n = sn
          clear hsn
          have J2 := Lib.hid K5.out.1
          have O2 := Lib.hid K5.out.2
          clear K5
          go_wp2_with fail
          go_roundg (gk - 1)
          case measure => omega
          case rel => exact ⟨i + 1, s2, by omega, by go_num, J2, O2⟩
        · obtain rfl : i = l.length := by omega
          go_wp2_with fail
          obtain ⟨F, at1⟩ := TN.out.at1
          have TX := Lib.hid (fun V (hb : Below wr.heap.size wr V) => tNext (at1.below hb))
          refine (tHandles at1).mono ?_
          rintro e W4 ⟨v1, rfl, o1, hb⟩
          have K3 := Lib.hid (And.intro (below_then TN.out.below ⟨hb.os, hb.tape, hb.output, hb.size, hb.block⟩) (And.intro (il_below OV.out hb) (And.intro (il_zero o1) hb)))
          clear hb at1 F o1 TN OV
          go_wp2_with fail
          refine (rInts K3.out.2.2.1 K3.out.2.1 (Nat.le_trans HT.out (by decide)) (Nat.le_trans HT.out (by decide))).mono ?_
          rintro e W6 ⟨rfl, hb⟩
          rw [decide_eq_true rfl]
          have K5 := Lib.hid (And.intro (K3.out.1.trans (hb.mono K3.out.1.size)) (below_then K3.out.2.2.2 hb))
          clear hb K3
          go_wp2_with fail
          refine (TX.out _ K5.out.2).mono ?_
          rintro e W7 ⟨rfl, rfl⟩
          clear TX
          generalize hsn : t.n = sn
          clear hsn
          go_wp2_with fail
          go_ret
          exact ⟨rfl, K5.out.1⟩
end Go.Proofs.Ytlimfgmmbkgeeaa
