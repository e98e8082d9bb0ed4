/-
  TableStays of layer 19: the walk.
-/
import Derived.Test.YtlimfgmmbkgeeaaTbV
namespace Go.Proofs.Ytlimfgmmbkgeeaa
open Go.RowKit
set_option linter.unusedVariables false
set_option maxRecDepth 100000

theorem lawI : Maps.Keyed Try.prog 3 := Maps.int_keyed Try.underlying3
theorem wf_low {x : Int} (h0 : 0 ≤ x) (h1 : x < 2147483647) : (Lit.int .i64 x).wf = true := WalkArith.wf_i64 (by omega)
theorem keyI {x : Int} (h0 : 0 ≤ x) (h1 : x < 2147483647) : keyOf Try.prog 3 (.int .i64 x) = some (kI x) := Maps.keyOf_int_mk Try.underlying3 (wf_low h0 h1)
section
variable {V : World} {b n : Nat} {D : DataW Unit} {t : Tb}
theorem look_has (h : V.ownsMap Try.prog 3 (plainElem Try.prog 26) b n D) (m : MapIs D t) {x : Int} (h0 : 0 ≤ x) (h1 : x < 2147483647) :
    (Instr.lookup 47 (.map (some b)) (.int .i64 x) true).run Try.prog V = .ok (.tuple #[.int .u64 (if hasT t x = true then getT t x else 0), .bool (hasT t x)]) V := by
  obtain ⟨v, ps, hrun, hv⟩ := h.look_ok lawI Try.underlying47 (Try.zeroValue26 V) (zd := dU 0) (zp := []) (plainElem_int Try.underlying26 (by decide)) (keyI h0 h1)
  obtain ⟨c, rfl, hc, _⟩ := plainElem_int_inv Try.underlying26 hv
  simp only [Prod.mk.injEq] at hc
  rw [hrun, m.has]
  have e : c = (if hasT t x = true then getT t x else 0) := by
    cases q : hasT t x with
    | true =>
      have := hc.1
      rw [m.get x q] at this
      have : getT t x = c := by injection this with a; injection a
      rw [if_pos rfl, this]
    | false =>
      have := hc.1
      rw [Maps.atKey_of_not_has (by rw [m.has]; exact q)] at this
      have : (0 : Int) = c := by injection this with a; injection a
      rw [if_neg Bool.false_ne_true, ← this]
  rw [← e]
theorem look_gone {E : DataW Unit} (h : V.ownsMap Try.prog 3 (plainElem Try.prog 3) b n E) (g : GoneIs E t) {x : Int} (h0 : 0 ≤ x) (h1 : x < 2147483647) (hx : t.n ≤ x) :
    (Instr.lookup 48 (.map (some b)) (.int .i64 x) false).run Try.prog V = .ok (.int .i64 0) V := by
  obtain ⟨c, hrun, hat, _⟩ := h.lookup_int lawI Try.underlying48 Try.underlying3 (Try.zeroValue3 V) (keyI h0 h1)
  rw [hrun]
  have f : Maps.has E (kI x) = false := by
    rw [← Bool.not_eq_true]
    intro e
    have := g.lt x e
    omega
  rw [Maps.atKey_of_not_has f] at hat
  have : (0 : Int) = c := by injection hat with a; injection a
  rw [this]
end
theorem Mid.delH {w V w' : World} {p mh mg k : Nat} {t : Tb} {D E D' : DataW Unit} {N : Nat → Prop} (h : Mid w V p mh mg k t D E N) (o : w'.ownsMap Try.prog 3 (plainElem Try.prog 26) mh k D') (g : V.grownBy w' (some mh)) : Mid w w' p mh mg k t D' E N :=
  ⟨h.one.turn g (.inl rfl) h.low.1, o, h.gone.kept g (fun e => h.ne (by simpa using e.symm)), h.ne, h.out, h.low⟩
/-- The end of an act: the maps are those of the table behind it. -/
def EndA (w : World) (p mh mg k x : Nat) (t : Tb) (wr : World) : Prop := ∃ D E, Mid w wr p mh mg k t D E (fun b => b = x) ∧ MapIs D t ∧ GoneIs E t
set_option maxHeartbeats 16000000 in
theorem tableStays (A : Option Addr) (cap : Nat) (l : List Ac) (w : World) (H : AL w A cap l) (HW : ∀ a ∈ l, (Lit.int .u64 a.v).wf = true) : Calls Try.prog 4 #[.slice A l.length cap] w (AnsB true w) := by
  have HA := Lib.hid H
  have WF := Lib.hid HW
  clear H HW
  have hmm := @run_makeMap Try.prog
  go_enter Try.func4, Try.ntmps4
  go_wp2_with fail
  refine (awake19 _).mono ?_
  rintro e V ⟨rfl, hb⟩
  have HB := Lib.hid hb
  clear hb
  by_cases hm : 100 < l.length
  · have hm' : (l.length : Int) > 100 := by omega
    go_wp2
    go_ret
    exact ⟨rfl, HB.out⟩
  have hm' : ¬ ((l.length : Int) > 100) := by omega
  have hl100 : l.length ≤ 100 := by omega
  clear hm
  go_wp2_with fail
  refine (tNew _).mono ?_
  rintro e V2 ⟨p, rfl, hp, A0, hb⟩
  have J : Hid (One w V2 p ⟨[], 0⟩) := Lib.hid ⟨⟨_, A0, fun b e => e ▸ Nat.le_trans HB.out.size hp⟩, below_then HB.out hb⟩
  clear A0 hp hb HB
  have LB := below_then (below_allocs V2 (.map #[] 0)) (below_allocs (V2.alloc (.map #[] 0)) (.map #[] 0))
  have JM : Hid (Mid w ((V2.alloc (.map #[] 0)).alloc (.map #[] 0)) p V2.heap.size (V2.heap.size + 1) 0 ⟨[], 0⟩ (.map []) (.map []) (fun _ => False)) := Lib.hid (by
    have sz : (V2.alloc (.map #[] 0)).heap.size = V2.heap.size + 1 := by simp
    have o1 := World.ownsMap_made (H := Unit) V2 Try.prog 3 (plainElem Try.prog 26)
    have o2 := World.ownsMap_made (H := Unit) (V2.alloc (.map #[] 0)) Try.prog 3 (plainElem Try.prog 3)
    rw [sz] at o2
    have s0 := J.out.below.size
    refine ⟨J.out.non.more LB (fun b e => .inr ?_), map_below o1 (below_allocs _ _), o2, by omega, ⟨id, id⟩, ⟨s0, by omega⟩⟩
    have sz2 : ((V2.alloc (.map #[] 0)).alloc (.map #[] 0)).heap.size = V2.heap.size + 1 + 1 := by simp
    rcases e with e | e | e
    · omega
    · omega
    · exact e.elim)
  clear LB J
  go_upto_region 9 with fail
  have MI : Hid (MapIs (.map []) ⟨[], 0⟩ ∧ GoneIs (.map []) ⟨[], 0⟩) := Lib.hid ⟨MapIs.new, GoneIs.new⟩
  generalize World.alloc (World.alloc V2 _) _ = V3 at JM ⊢
  generalize V2.heap.size + 1 = mg at JM ⊢
  generalize V2.heap.size = mh at JM ⊢
  clear hmm
  go_wp2_with fail
  go_loopg [33] l.length (fun g iv wr => ∃ (i : Nat) (t : Tb) (D E : DataW Unit), i + g = l.length ∧ iv = .int .i64 i ∧ Hid (Mid w wr p mh mg i t D E (fun _ => False)) ∧ Hid (MapIs D t ∧ GoneIs E t))
  case atStart => exact ⟨0, _, _, _, by omega, rfl, JM, MI⟩
  case round =>
    clear JM MI
    obtain ⟨i, t, D, E, hi, rfl, JM, MI⟩ := hrel
    by_cases hlt : i < l.length
    · have hlt' : (i : Int) < l.length := by omega
      obtain ⟨b, o, rfl, hbl, c0, c1, c2⟩ := (HA.out.below JM.out.one.below).cell i hlt
      have cap1 := HA.out.cap1
      have cap2 := HA.out.cap2
      have wfa : (Lit.int .u64 (l.getD i default).v).wf = true := WF.out _ (by rw [List.getD_eq_getElem?_getD, List.getElem?_eq_getElem hlt]; exact List.getElem_mem hlt)
      generalize hA : l.getD i default = a at c0 c1 c2 wfa
      clear hA
      have WA := Lib.hid wfa
      clear wfa
      have LB := below_allocs wr (.cells (acC a) 32)
      have KP : Hid (Mid w (wr.alloc (.cells (acC a) 32)) p mh mg i t D E (fun b => b = wr.heap.size) ∧ KB (wr.alloc (.cells (acC a) 32)) wr.heap.size a) := Lib.hid ⟨JM.out.more LB (fun b e => .inr ⟨Nat.le_of_eq e.symm, by subst e; simp⟩), Blk.new wr _ _⟩
      have HK : Hid t.Ok := Lib.hid (by obtain ⟨_, a, _⟩ := JM.out.act; exact a.ok)
      clear JM LB
      go_upto_region 12 with fail
      unfold acC at KP
      generalize hx : wr.heap.size = x at KP ⊢
      clear hx
      generalize wr.alloc _ = W1 at KP ⊢
      clear c0 c1 c2 hbl cap1 cap2
      obtain ⟨c0, c1, c2⟩ := KB.cells KP.out.2
      go_cut [8, 9] (fun u v wr => u = .int .i64 (doN t a) ∧ v = .int .i64 (doE t a) ∧ Mid w wr p mh mg i (doT t a) D E (fun b => b = x) ∧ KB wr x a)
      case first =>
        go_wp2_with fail
        obtain ⟨F, at1, nx⟩ := KP.out.1.act
        refine (tDo at1 a).mono ?_
        rintro e W2 ⟨rfl, X⟩
        have K1 := Lib.hid (And.intro (nx _ _ X).1 (KP.out.2.keep (nx _ _ X).2 rfl))
        clear X nx at1 F c0 c1 c2 KP
        go_wp2_with fail
        go_meet
        exact ⟨rfl, rfl, K1.out⟩
      obtain ⟨rfl, rfl, K1⟩ := hcut
      have K1 := Lib.hid K1
      clear KP c0 c1 c2
      generalize hdn : doN t a = dn
      generalize hde : doE t a = de
      have DN := Lib.hid hdn
      have DE := Lib.hid hde
      clear hdn hde
      go_step
      go_step
      go_cut [] (EndA w p mh mg (i + 1) x (doT t a))
      case first =>
        have n00 := HK.out.n0
        obtain ⟨c0, c1, c2⟩ := KB.cells K1.out.2
        have hi100 : i < maxLen := by unfold maxLen; omega
        have hi101 : i + 1 < maxLen := by unfold maxLen; omega
        rcases do_cases HK.out a with ⟨d0, e0, m0, dt, hn⟩ | ⟨d2, e0, dt, hn, hh⟩ | ⟨d1, m1, hh, dt⟩ | ⟨q0, q2, q1, hl, hn⟩
        · rw [d0] at c0
          rw [DE.out] at e0
          rw [DN.out] at m0
          subst e0 m0
          clear DN DE
          have LH := look_has K1.out.1.has MI.out.1 n00 hn
          rw [fresh HK.out (Int.le_refl _), if_neg Bool.false_ne_true] at LH
          have LG := look_gone K1.out.1.gone MI.out.2 n00 hn (Int.le_refl _)
          have KY := Lib.hid (keyI n00 hn)
          have R : Hid (∀ w1 : World, w1.ownsMap Try.prog 3 (plainElem Try.prog 26) mh (i + 1) (D.put (kI t.n) (dU a.v)) → wc.grownBy w1 (some mh) → EndA w p mh mg (i + 1) x (doT t a) w1) := Lib.hid (fun w1 o g => ⟨_, _, K1.out.1.setH o g, by rw [dt]; exact MI.out.1.put HK.out (Int.le_refl _) a.v, MI.out.2.mono (by rw [dt]; show t.n ≤ t.n + 1; omega)⟩)
          have OH := Lib.hid K1.out.1.has
          clear K1 dt d0 HK MI
          generalize t.n = tn at *
          generalize a.v = av at *
          go_wp2_with (at_mapUpdate; refine wpList_mapUpdate_own _ rfl _ _ _ 47 rfl 3 26 lawI Try.underlying47 _ mh i D rfl OH.out hi100 _ _ _ rfl rfl KY.out (dU av) [] (plainElem_int Try.underlying26 WA.out) ?_; intro w1 hown1 hgrow1)
          go_meet
          exact R.out _ hown1 hgrow1
        · rw [d2] at c0
          rw [DE.out] at e0
          subst e0
          clear DN DE
          have h0 : 0 ≤ a.h := Int.le_trans n00 hn
          have LH := look_has K1.out.1.has MI.out.1 h0 hh
          rw [fresh HK.out hn, if_neg Bool.false_ne_true] at LH
          have LG := look_gone K1.out.1.gone MI.out.2 h0 hh hn
          have KY := Lib.hid (keyI h0 hh)
          have R : Hid (∀ w1 : World, w1.ownsMap Try.prog 3 (plainElem Try.prog 26) mh (i + 1) (D.put (kI a.h) (dU a.v)) → wc.grownBy w1 (some mh) → EndA w p mh mg (i + 1) x (doT t a) w1) := Lib.hid (fun w1 o g => ⟨_, _, K1.out.1.setH o g, by rw [dt]; exact MI.out.1.put HK.out hn a.v, MI.out.2.mono (by rw [dt]; show t.n ≤ a.h + 1; omega)⟩)
          have OH := Lib.hid K1.out.1.has
          clear K1 dt d2 HK MI
          generalize a.h = ah at *
          generalize a.v = av at *
          go_wp2_with (at_mapUpdate; refine wpList_mapUpdate_own _ rfl _ _ _ 47 rfl 3 26 lawI Try.underlying47 _ mh i D rfl OH.out hi100 _ _ _ rfl rfl KY.out (dU av) [] (plainElem_int Try.underlying26 WA.out) ?_; intro w1 hown1 hgrow1)
          go_meet
          exact R.out _ hown1 hgrow1
        · rw [d1] at c0
          rw [DN.out] at m1
          subst m1
          clear DN DE
          have hlow := has_low HK.out hh
          have hn1 := HK.out.n1
          have h0 : 0 ≤ a.h := hlow.1
          have h1 : a.h < 2147483647 := by omega
          have LH := look_has K1.out.1.has MI.out.1 h0 h1
          rw [hh, if_pos rfl] at LH
          have KY := Lib.hid (keyI h0 h1)
          have nx1 : x ≠ mh := fun e => K1.out.1.out.1 e.symm
          have R1 : Hid (∀ w1 : World, w1.ownsMap Try.prog 3 (plainElem Try.prog 26) mh i (D.del (kI a.h)) → wc.mapTurned w1 mh → (Mid w w1 p mh mg i (doT t a) (D.del (kI a.h)) E (fun b => b = x) ∧ KB w1 x a)) := Lib.hid (fun w1 o g => ⟨K1.out.1.delH o g.grown, grown_kept K1.out.2 g.grown nx1⟩)
          have R2 : Hid (∀ w1 w2 : World, Mid w w1 p mh mg i (doT t a) (D.del (kI a.h)) E (fun b => b = x) → w2.ownsMap Try.prog 3 (plainElem Try.prog 3) mg (i + 1) (E.put (kI a.h) (.lit (.int .i64 1))) → w1.grownBy w2 (some mg) → EndA w p mh mg (i + 1) x (doT t a) w2) := Lib.hid (fun w1 w2 M o g => ⟨_, _, M.setG o g, by rw [dt]; exact MI.out.1.del HK.out hh, by rw [dt]; exact (MI.out.2.mono (t' := dropT t a.h) (Int.le_refl _)).put hlow.2 _⟩)
          have OH := Lib.hid K1.out.1.has
          clear K1 dt d1 HK MI hlow hn1 h0 h1 hh
          generalize getT t a.h = gv at *
          go_wp2_with (first
            | (at_delete; refine wpList_delete_own _ rfl _ _ 47 3 rfl 26 lawI Try.underlying47 _ mh i D rfl OH.out _ _ rfl KY.out ?_; intro w1 hown1 hturn1; have M1 := Lib.hid (R1.out _ hown1 hturn1); obtain ⟨c0, c1, c2⟩ := KB.cells M1.out.2; have OG := Lib.hid M1.out.1.gone; clear hown1 hturn1 OH R1)
            | (at_mapUpdate; refine wpList_mapUpdate_own _ rfl _ _ _ 48 rfl 3 3 lawI Try.underlying48 _ mg i E rfl OG.out hi100 _ _ _ rfl rfl KY.out (.lit (.int .i64 1)) [] (plainElem_int Try.underlying3 (by decide)) ?_; intro w2 hown2 hgrow2))
          go_meet
          exact R2.out _ _ M1.out.1 hown2 hgrow2
        · have R : Hid (EndA w p mh mg (i + 1) x (doT t a) wc) := Lib.hid ⟨_, _, K1.out.1.up, MI.out.1.same hl, MI.out.2.mono hn⟩
          rw [DE.out] at q0 q2
          rw [DN.out] at q1
          clear K1 HK MI hl hn DN DE
          by_cases d0 : a.d = 0
          · have qq := q0 d0
            rw [d0] at c0
            clear q0 q1 q2 d0
            go_wp2_with fail
            go_meet
            exact R.out
          · by_cases d1 : a.d = 1
            · have qq := q1 d1
              rw [d1] at c0
              clear q0 q1 q2 d0 d1
              go_wp2_with fail
              go_meet
              exact R.out
            · by_cases d2 : a.d = 2
              · have qq := q2 d2
                rw [d2] at c0
                clear q0 q1 q2 d0 d1 d2
                go_wp2_with fail
                go_meet
                exact R.out
              · clear q0 q1 q2
                generalize a.d = dd at *
                go_wp2_with fail
                go_meet
                exact R.out
      clear DN DE K1 WA MI HK
      obtain ⟨D2, E2, M, m2, g2⟩ := hcut
      generalize doT t a = t2 at *
      have hk2 : t2.Ok := by obtain ⟨_, a, _⟩ := M.act; exact a.ok
      have h16 : t2.h.length ≤ 16 := by rw [t2.h_len]; exact hk2.many
      have M := Lib.hid M.less
      have MG := Lib.hid (And.intro m2 g2)
      have HK := Lib.hid hk2
      clear m2 g2 hk2
      go_wp2_with fail
      obtain ⟨F, at1, nx⟩ := M.out.act
      refine (tHandles at1).mono ?_
      rintro e V5 ⟨v, rfl, o1, hb⟩
      obtain ⟨A5, k5, rfl, hcap5, hcap6⟩ := own_slice (il_zero o1)
      have M5 := Lib.hid (M.out.still hb)
      have O5 := Lib.hid (il_zero o1)
      clear nx at1 F o1 hb M
      have SZ : Hid (((Maps.size D2 : Nat) : Int) = ((t2.h.length : Nat) : Int)) := Lib.hid (by rw [MG.out.1.size, t2.h_len])
      have h16' : ¬ ((t2.h.length : Nat) : Int) > 16 := by omega
      go_wp2_with (at_len; refine wpList_len_own _ rfl _ 47 rfl 3 26 Try.underlying47 _ mh (i + 1) D2 rfl M5.out.has ?_; rw [SZ.out])
      have G5 : Hid (∀ W, Below V5.heap.size V5 W → Mid w W p mh mg (i + 1) t2 D2 E2 (fun _ => False)) := Lib.hid (fun W hb => M5.out.still hb)
      have R5 : Hid (∀ W, Below V5.heap.size V5 W → IL 0 W (.slice A5 t2.h.length k5) t2.h) := Lib.hid (fun W hb => il_below O5.out hb)
      have UP : Hid (∀ j k : Nat, k < j → j < t2.h.length → t2.h.getD k 0 < t2.h.getD j 0) := Lib.hid (fun j k hk hj => by
        have := (List.pairwise_iff_getElem.1 HK.out.up) k j (by omega) hj hk
        rwa [List.getD_eq_getElem?_getD, List.getD_eq_getElem?_getD, List.getElem?_eq_getElem hj, List.getElem?_eq_getElem (by omega)])
      have IN : Hid (∀ j : Nat, j < t2.h.length → hasT t2 (t2.h.getD j 0) = true) := Lib.hid (fun j hj => by
        rw [has_iff, List.getD_eq_getElem?_getD, List.getElem?_eq_getElem hj]
        exact List.getElem_mem hj)
      clear M5 O5 SZ
      generalize hhs : t2.h = hs at *
      clear hhs
      go_loopg [119] hs.length (fun g jv wr => ∃ j : Nat, j + g = hs.length ∧ jv = .int .i64 j ∧ Hid (Below V5.heap.size V5 wr))
      case atStart => exact ⟨0, by omega, rfl, Lib.hid (Below.refl _ _)⟩
      case round =>
        obtain ⟨j, hj, rfl, BW⟩ := hrel
        by_cases hjl : j < hs.length
        · have hjl' : (j : Int) < (hs.length : Int) := by omega
          obtain ⟨A', c', e', HC⟩ := il_slice (R5.out _ BW.out)
          simp only [Value.slice.injEq, true_and] at e'
          obtain ⟨rfl, rfl⟩ := e'
          obtain ⟨g5, rfl, _, r0⟩ := HC j hjl
          have hin := IN.out j hjl
          have hup := UP.out j
          have hlow := has_low HK.out hin
          have hn1 := HK.out.n1
          have CP : Hid (∀ jp : Nat, jp + 1 = j → ∀ W, Below V5.heap.size V5 W → W.cell? ⟨g5, jp, none⟩ = some (.int .i64 (hs.getD jp 0)) ∧ hs.getD jp 0 < hs.getD j 0) := Lib.hid (fun jp e W hb => by
            obtain ⟨A', c', e', HC'⟩ := il_slice (R5.out _ hb)
            simp only [Value.slice.injEq, true_and] at e'
            obtain ⟨rfl, rfl⟩ := e'
            obtain ⟨g6, e6, _, r6⟩ := HC' jp (by omega)
            simp only [Option.some.injEq, Addr.mk.injEq, and_true] at e6
            subst e6
            exact ⟨r6, hup jp (by omega) hjl⟩)
          clear HC hup
          generalize hs.getD j 0 = hv at *
          go_wp2_with fail
          obtain ⟨F, at1, nx⟩ := (G5.out _ BW.out).act
          refine (tGetB at1 hv).mono ?_
          rintro e V6 ⟨rfl, hb⟩
          have B6 := Lib.hid (below_then BW.out hb)
          clear nx at1 F hb r0
          have M6 := G5.out _ B6.out
          have LH := look_has M6.has MG.out.1 hlow.1 (x := hv) (by omega)
          obtain ⟨F, at1, nx⟩ := M6.act
          have TN := Lib.hid (tNext at1)
          clear at1 nx F M6
          rw [hin, if_pos rfl] at LH
          have h0' : ¬ hv < 0 := by omega
          have h1' : ¬ hv ≥ t2.n := by omega
          rw [hin]
          clear hin hlow hn1
          generalize getT t2 hv = gv at *
          generalize t2.n = tn at *
          by_cases hj0 : j = 0
          · subst hj0
            clear CP
            go_wp2_with fail
            refine TN.out.mono ?_
            rintro e W7 ⟨rfl, rfl⟩
            clear TN LH
            go_wp2_with fail
            go_roundg (gk - 1)
            case measure => omega
            case rel => exact ⟨1, by omega, by go_num, B6⟩
          · have hj0' : (j : Int) > 0 := by omega
            obtain ⟨jp, hjp⟩ : ∃ jp : Nat, jp + 1 = j := ⟨j - 1, by omega⟩
            obtain ⟨r1, hlt1⟩ := CP.out jp hjp _ B6.out
            have w1 : IntKind.i64.wrap ((j : Int) - 1) = (jp : Int) := by rw [IntKind.wrap_i64]; omega
            have w2 : RowKit.wrap64 ((j : Int) - 1) = (jp : Int) := by unfold RowKit.wrap64; omega
            have hjpl : (jp : Int) < (hs.length : Int) := by omega
            have hle : ¬ hv ≤ hs.getD jp 0 := by omega
            clear CP hlt1
            generalize hs.getD jp 0 = pv at *
            go_wp2_with fail
            refine TN.out.mono ?_
            rintro e W7 ⟨rfl, rfl⟩
            clear TN LH
            go_wp2_with fail
            go_roundg (gk - 1)
            case measure => omega
            case rel => exact ⟨j + 1, by omega, by go_num, B6⟩
        · obtain rfl : j = hs.length := by omega
          go_wp2_with fail
          go_roundg (l.length - (i + 1))
          case measure => omega
          case rel => exact ⟨i + 1, t2, D2, E2, by omega, by go_num, Lib.hid (G5.out _ BW.out), MG⟩
    · obtain rfl : i = l.length := by omega
      go_wp2
      go_ret
      exact ⟨rfl, JM.out.one.below⟩
end Go.Proofs.Ytlimfgmmbkgeeaa
