/-
  TableDoes of layer 19: the walk.
-/
import Derived.Test.YtlimfgmmbkgeeaaTbK
import Derived.Deep.RegionHeld3
namespace Go.Proofs.Ytlimfgmmbkgeeaa
open Go.RowKit
set_option linter.unusedVariables false
set_option maxRecDepth 100000

set_option maxHeartbeats 8000000 in
theorem tableDoes (A : Option Addr) (cap : Nat) (l : List Ac) (h : Int) (w : World) (H : AL w A cap l) : Calls Try.prog 3 #[.slice A l.length cap, .int .i64 h] w (AnsB true w) := by
  have HA := Lib.hid H
  clear H
  go_enter Try.func3, Try.ntmps3
  go_wp2_with fail
  refine (awake19 _).mono ?_
  rintro e V ⟨rfl, hb⟩
  have HB := Lib.hid hb
  clear hb
  by_cases hm : 100 < l.length
  · have hm' : (l.length : Int) > 100 := by omega
    go_wp2
    go_ret
    exact ⟨rfl, HB.out⟩
  have hm' : ¬ ((l.length : Int) > 100) := by omega
  clear hm
  go_wp2_with fail
  refine (tNew _).mono ?_
  rintro e V2 ⟨p, rfl, hp, A0, hb⟩
  have HO := Lib.hid (And.intro A0 (And.intro (show w.heap.size ≤ p from Nat.le_trans HB.out.size hp) (below_then HB.out hb)))
  have B2 := below_allocs V2 (.cells #[.slice none 0 0, .int .i64 0] 30)
  have J : Hid (Pair w (V2.alloc (.cells #[.slice none 0 0, .int .i64 0] 30)) p V2.heap.size ⟨[], 0⟩ ⟨[], 0⟩) := Lib.hid (by
    have a := HO.out.1
    have s := HO.out.2.2.size
    refine ⟨⟨fun b => b = p, fun b => b = V2.heap.size, a.below B2, ⟨⟨.slice none 0 0, Blk.new V2 _ _, World.ownsRow_nil _ _ _ _, fun e => (by cases e), fun b e => (by cases e)⟩, rfl, fun b e => (by subst e; simp), ok_new⟩, fun b e f => ?_, fun b e => e ▸ HO.out.2.1, fun b e => e ▸ s⟩, below_then HO.out.2.2 B2⟩
    have := a.plt
    omega)
  clear A0 hp hb HO B2 HB
  go_upto_region 6 with fail
  generalize V2.alloc _ = V3 at J ⊢
  generalize V2.heap.size = q at J ⊢
  go_wp2_with fail
  go_loopg [29] l.length (fun g iv wr => ∃ (i : Nat) (t : Tb), i + g = l.length ∧ iv = .int .i64 i ∧ Hid (Pair w wr p q t t))
  case atStart => exact ⟨0, _, by omega, rfl, J⟩
  case round =>
    clear J
    obtain ⟨i, t, hi, rfl, J⟩ := hrel
    by_cases hlt : i < l.length
    · have hlt' : (i : Int) < l.length := by omega
      obtain ⟨b, o, rfl, hbl, c0, c1, c2⟩ := (HA.out.below J.out.below).cell i hlt
      have cap1 := HA.out.cap1
      have cap2 := HA.out.cap2
      generalize hA : l.getD i default = a at c0 c1 c2
      clear hA
      have KP := Lib.hid (J.out.act a)
      clear J
      go_upto_region 11 with fail
      generalize hx : wr.heap.size = x at KP ⊢
      clear hx
      unfold acC at KP
      generalize wr.alloc _ = W1 at KP ⊢
      clear c0 c1 c2 hbl cap1 cap2
      obtain ⟨c0, c1, c2⟩ := KP.out.k.cells
      go_wp2_with fail
      obtain ⟨F, at1, nx⟩ := KP.out.act1
      refine (tDo at1 a).mono ?_
      rintro e W2 ⟨rfl, X⟩
      replace KP := Lib.hid (nx _ _ X)
      clear X nx at1 F c0 c1 c2
      obtain ⟨c0, c1, c2⟩ := KP.out.k.cells
      go_upto_region 12 with fail
      go_cut [11, 12] (fun u v wr => u = .int .i64 0 ∧ v = .int .i64 0 ∧ wr = W2)
      case first =>
        go_wp2_with fail
        go_meet
        exact ⟨rfl, rfl, rfl⟩
      obtain ⟨rfl, rfl, rfl⟩ := hcut
      go_step
      go_step
      go_cut [11, 12] (fun u v wr => u = .int .i64 (doN t a) ∧ v = .int .i64 (doE t a) ∧ KPair w wr p q (doT t a) (doT t a) x a)
      case first =>
        by_cases d0 : a.d = 0
        · have R : Hid (doN t a = addN t ∧ doE t a = addE t ∧ doT t a = addT t a.v) := Lib.hid (by simp [doN, doE, doT, d0])
          rw [d0] at c0
          go_wp2_with fail
          obtain ⟨G, at2, nx⟩ := KP.out.act2
          refine (rAdd at2 a.v).mono ?_
          rintro e W3 ⟨rfl, X⟩
          have KQ := Lib.hid (nx _ _ X)
          rw [← R.out.2.2] at KQ
          clear at2 nx X c0 c1 c2 KP
          go_wp2_with fail
          go_meet
          exact ⟨by rw [R.out.1], by rw [R.out.2.1], KQ.out⟩
        · by_cases d1 : a.d = 1
          · have R : Hid (doN t a = (if hasT t a.h = true then 1 else 0) ∧ doE t a = 0 ∧ doT t a = dropT t a.h) := Lib.hid (by simp [doN, doE, doT, d1])
            rw [d1] at c0
            clear d0
            go_wp2_with fail
            obtain ⟨G, at2, nx⟩ := KP.out.act2
            refine (rDrop at2 a.h).mono ?_
            rintro e W3 ⟨rfl, X⟩
            have KQ := Lib.hid (nx _ _ X)
            rw [← R.out.2.2] at KQ
            clear at2 nx X c0 c1 c2 KP
            cases hm : hasT t a.h with
            | true =>
              rw [hm, if_pos rfl] at R
              clear hm
              go_wp2_with fail
              go_meet
              exact ⟨by rw [R.out.1], by rw [R.out.2.1], KQ.out⟩
            | false =>
              rw [hm, if_neg Bool.false_ne_true] at R
              clear hm
              go_wp2_with fail
              go_meet
              exact ⟨by rw [R.out.1], by rw [R.out.2.1], KQ.out⟩
          · by_cases d2 : a.d = 2
            · have R : Hid (doN t a = 0 ∧ doE t a = layE t a.h ∧ doT t a = layT t a.h a.v) := Lib.hid (by simp [doN, doE, doT, d2])
              rw [d2] at c0
              clear d0 d1
              go_wp2_with fail
              obtain ⟨G, at2, nx⟩ := KP.out.act2
              refine (rLay at2 a.h a.v).mono ?_
              rintro e W3 ⟨rfl, X⟩
              have KQ := Lib.hid (nx _ _ X)
              rw [← R.out.2.2] at KQ
              clear at2 nx X c0 c1 c2 KP
              go_wp2_with fail
              go_meet
              exact ⟨by rw [R.out.1], by rw [R.out.2.1], KQ.out⟩
            · by_cases d3 : a.d = 3
              · have R : Hid (doN t a = 0 ∧ doE t a = goesE t a.h ∧ doT t a = goesT t a.h) := Lib.hid (by simp [doN, doE, doT, d3])
                rw [d3] at c0
                clear d0 d1 d2
                go_wp2_with fail
                obtain ⟨G, at2, nx⟩ := KP.out.act2
                refine (rGoes at2 a.h).mono ?_
                rintro e W3 ⟨rfl, X⟩
                have KQ := Lib.hid (nx _ _ X)
                rw [← R.out.2.2] at KQ
                clear at2 nx X c0 c1 c2 KP
                go_wp2_with fail
                go_meet
                exact ⟨by rw [R.out.1], by rw [R.out.2.1], KQ.out⟩
              · have R : Hid (doN t a = 0 ∧ doE t a = 0 ∧ doT t a = t) := Lib.hid (by simp [doN, doE, doT, d0, d1, d2, d3])
                have KQ := KP
                rw [R.out.2.2] at KQ
                generalize a.d = dd at *
                go_wp2_with fail
                go_meet
                exact ⟨by rw [R.out.1], by rw [R.out.2.1], by rw [R.out.2.2]; exact KQ.out⟩
      obtain ⟨rfl, rfl, KP2⟩ := hcut
      have KP2 := Lib.hid KP2
      clear KP c0 c1 c2
      generalize doN t a = n at *
      generalize doE t a = m at *
      generalize doT t a = t2 at *
      go_wp2_with fail
      obtain ⟨F, at1⟩ := KP2.out.at1
      refine (tGetB at1 h).mono ?_
      rintro e W3 ⟨rfl, hb⟩
      replace KP2 := Lib.hid (KP2.out.still hb)
      clear hb at1 F
      go_wp2_with fail
      obtain ⟨F, at2⟩ := KP2.out.at2
      refine (rGet at2 h).mono ?_
      rintro e W4 ⟨rfl, rfl⟩
      clear at2 F
      generalize getT t2 h = gv at *
      generalize hasT t2 h = hv at *
      go_upto_region 25 with fail
      obtain ⟨F, at1⟩ := KP2.out.at1
      obtain ⟨G, at2⟩ := KP2.out.at2
      have AN : Hid (∀ V, Below W3.heap.size W3 V → Calls Try.prog 15 #[.pointer (some ⟨p, 0, none⟩)] V (fun e w' => e = .returned (.int .i64 t2.n) ∧ V = w')) := Lib.hid (fun V hb => tNext (at1.below hb))
      have AH : Hid (∀ V, Below W3.heap.size W3 V → Calls Try.prog 17 #[.pointer (some ⟨p, 0, none⟩)] V (AnsI t2.h V)) := Lib.hid (fun V hb => tHandles (at1.below hb))
      have RH : Hid (∀ V, Below W3.heap.size W3 V → Calls Try.prog 18 #[.pointer (some ⟨q, 0, none⟩)] V (AnsI t2.h V)) := Lib.hid (fun V hb => rHandles (at2.below hb))
      have CI : Hid (∀ V v u, IL 0 V v t2.h → IL 0 V u t2.h → Calls Try.prog 16 #[v, u] V (AnsB true V)) := Lib.hid (fun V v u h1 h2 => by
        have m : t2.h.length ≤ 16 := by rw [t2.h_len]; exact at1.ok.many
        have := rInts h1 h2 (by omega) (by omega)
        rw [decide_eq_true rfl] at this
        exact this)
      have CC : Hid (∀ V, Below W3.heap.size W3 V → V.cell? ⟨q, 1, none⟩ = some (.int .i64 t2.n)) := Lib.hid (fun V hb => by
        obtain ⟨v, B, _⟩ := (at2.below hb).ex
        exact B.cell 1 _ rfl)
      clear at1 at2
      generalize t2.h = hs at *
      generalize t2.n = tn at *
      go_cut [116] (fun u wr => u = .bool false ∧ Below W3.heap.size W3 wr)
      case first =>
        have b0 : Below W3.heap.size W3 W3.drew := (Below.refl _ _).drew
        have c1 := CC.out _ (Below.refl _ W3)
        go_region_held3 (fun w' => w'.cell? ⟨q, 1, none⟩ = some (.int .i64 tn)) (go_keep) (first
          | (go_at_call 15; (with_reducible refine (AN.out _ b0).mono ?_); rintro e y1 ⟨rfl, rfl⟩)
          | (go_at_call 17; (with_reducible refine (AH.out _ b0).mono ?_); rintro e y2 ⟨v1, rfl, o1, hb1⟩; have b1 := below_then b0 hb1; have H1 := Lib.hid (il_zero o1); have k1 := CC.out _ b1; clear hb1 o1)
          | (go_at_call 18; (with_reducible refine (RH.out _ b1).mono ?_); rintro e y3 ⟨v2, rfl, o2, hb2⟩; have b2 := below_then b1 hb2; have H2 := Lib.hid (And.intro (il_below H1.out hb2) (il_zero o2)); have k2 := CC.out _ b2; clear hb2 o2)
          | (go_at_call 16; (with_reducible refine (CI.out _ _ _ H2.out.1 H2.out.2).mono ?_); rintro e y4 ⟨rfl, hb3⟩; have b3 := below_then b2 hb3; have k3 := CC.out _ b3; clear hb3))
        all_goals
          go_wp2_with fail
          go_meet
          exact ⟨rfl, b3⟩
      obtain ⟨rfl, hb⟩ := hcut
      have J2 := Lib.hid (KP2.out.still hb).pair
      clear KP2 hb AN AH RH CI CC
      go_wp2_with fail
      go_roundg (gk - 1)
      case measure => omega
      case rel => exact ⟨i + 1, t2, by omega, by go_num, J2⟩
    · obtain rfl : i = l.length := by omega
      go_wp2
      go_ret
      exact ⟨rfl, J.out.below⟩
end Go.Proofs.Ytlimfgmmbkgeeaa
