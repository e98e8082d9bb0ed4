/-
  What Twice of package span answers.
-/
import Derived.Test.YtolicfackceomaaSpX
import Derived.Test.YtolicfackceomaaSpO
import Derived.Carry
namespace Go.Proofs.Ytolicfackceomaa
open Go.RowKit Go.Maps
set_option linter.unusedVariables false
set_option maxRecDepth 100000

/-- What Twice tells, where each span stands so often. -/
def tw : (Sp → Nat) → List Sp → List Sp
  | _, [] => []
  | m, s :: l => if 1 < m s then s :: tw (upd m s 0) l else tw m l
def cntL (l : List Sp) (u : Sp) : Nat := l.count u
theorem cnt_succ (l : List Sp) (k : Nat) (h : k < l.length) : upd (cntL (l.take k)) (l.getD k default) (cntL (l.take k) (l.getD k default) + 1) = cntL (l.take (k + 1)) := by
  funext u
  unfold upd cntL
  rw [take_succ_getD l k h, List.count_append]
  generalize l.getD k default = s
  by_cases e : u = s
  · subst e; simp
  · rw [if_neg e, List.count_singleton]
    simp [Ne.symm e]
theorem tw_cons (m : Sp → Nat) (s : Sp) (l : List Sp) : tw m (s :: l) = if 1 < m s then s :: tw (upd m s 0) l else tw m l := rfl
theorem drop_getD' (o : List Sp) (k : Nat) (h : k < o.length) : o.drop k = o.getD k default :: o.drop (k + 1) := by
  rw [List.drop_eq_getElem_cons h, List.getD_eq_getElem?_getD, List.getElem?_eq_getElem h]; rfl
theorem MP.del {w : World} {b n : Nat} {m : Sp → Nat} (h : MP w b n m) {p q r t : Int} {s : Sp} (hs : Ws p q r t s) :
    ∃ W, (∀ ty, (Builtin.delete_ #[75, 26] ty #[.map (some b), .agg #[.int .u64 p, .int .u64 q, .int .u64 r, .int .u64 t]]).run Try.prog w = .ok (.tuple #[]) W) ∧ MP W b n (upd m s 0) ∧ w.grownBy W (some b) := by
  obtain ⟨D, hD, hm⟩ := h.own
  obtain ⟨kl, hk⟩ := keyS hs
  obtain ⟨W, hrun, hown, ht⟩ := hD.drop keyedS undI hk 0
  refine ⟨W, fun ty => hrun, ⟨_, hown, fun u ku hu hku => ?_⟩, ht.grown⟩
  rw [← hs.val] at hk
  unfold upd
  by_cases e : u = s
  · subst e
    have : ku = kl := (keys_apart hu hs.ok hku hk).2 rfl
    subst this
    rw [if_pos rfl]
    exact atKey_del_same _
  · rw [if_neg e, atKey_del_other (fun hh => e ((keys_apart hu hs.ok hku hk).1 hh))]
    exact hm u ku hu hku
theorem MP.grown {w w' : World} {b n : Nat} {m : Sp → Nat} {row : Option Nat} (h : MP w b n m) (hg : w.grownBy w' row) (hne : some b ≠ row) : MP w' b n m := h.keep (hg.block b h.lt hne)
theorem MP.notRow {w : World} {b n : Nat} {m : Sp → Nat} (h : MP w b n m) {t : TypeId} {B : Nat} {w0 : World} {v : Value} {l : List Sp} (g : Grow t B w0 v l w) : some b ≠ v.ownBlock := by
  obtain ⟨D, ⟨es, clock, hb, _⟩, _⟩ := h.own
  rcases g.own.2 with ⟨rfl, _⟩ | ⟨g', cap, cur, rfl, _, hh, _⟩
  · simp [Value.ownBlock]
  · intro e
    simp only [Value.ownBlock, Option.some.injEq] at e
    subst e
    rw [hb] at hh
    cases hh
theorem Grow.kept {t : TypeId} {B : Nat} {w wr w' : World} {v : Value} {l : List Sp} (h : Grow t B w v l wr) {b : Nat} (hg : wr.grownBy w' (some b)) (hne : some b ≠ v.ownBlock) (hb : B ≤ b) : Grow t B w v l w' :=
  ⟨h.own.kept hg (.inr (by intro e; exact hne e.symm)), h.ok, h.below.grown hg (Nat.le_trans h.le h.below.size) (fun k hk => by cases hk; exact hb), h.le⟩
set_option maxHeartbeats 8000000 in
theorem cTwice (A : Option Addr) (cap : Nat) (l : List Sp) (w : World) (h : SL w A cap l) (hn : l.length ≤ 1000) :
    Calls Try.prog 25 #[.slice A l.length cap] w (AnsL (tw (cntL l) l) w) := by
  have hmm := @run_makeMap Try.prog
  obtain ⟨i0, hi, hz0, hz1, hz2⟩ := info_parts infoS
  have HI := Lib.hid hi
  have HZ0 := Lib.hid hz0
  have HZ1 := Lib.hid hz1
  have HZ2 := Lib.hid hz2
  have H := Lib.hid h
  have hcap1 := h.cap1
  have hcap2 := h.cap2
  clear hi hz0 hz1 hz2 h
  go_enter Try.func25, Try.ntmps25
  go_wp2
  go_loopg [12] l.length (fun gk i wr => ∃ k : Nat, k + gk = l.length ∧ i = .int .i64 k ∧ Hid (MP wr w.heap.size k (cntL (l.take k))) ∧ Hid (Below w.heap.size w wr))
  case atStart => exact ⟨0, by omega, rfl, Lib.hid (MP.made w), Lib.hid (below_allocs _ _)⟩
  case round =>
    obtain ⟨k, hk, rfl, M, B⟩ := hrel
    by_cases hlt : k < l.length
    · have hlt' : (k : Int) < l.length := by omega
      obtain ⟨b, o, p, q, r, t, rfl, hl, HS, c0, c1, c2, c3⟩ := (H.out.below B.out).at4 hlt
      have E := Lib.hid (cnt_succ l k hlt)
      have lb : cntL (l.take k) (l.getD k default) + 1 ≤ 1000 := by
        have := List.count_le_length (a := l.getD k default) (l := l.take k)
        rw [List.length_take] at this
        unfold cntL; omega
      generalize l.getD k default = s at HS E lb
      have LB := below_allocs wr (.cells #[.int .u64 p, .int .u64 q, .int .u64 r, .int .u64 t] 26)
      have K := Lib.hid (And.intro (SB.new wr p q r t 26) (And.intro (M.out.below LB) (below_then B.out LB)))
      clear LB
      go_upto_region 5 with fail
      clear c0 c1 c2 c3 hl
      generalize World.alloc wr _ = W at K ⊢
      generalize wr.heap.size = y at K ⊢
      have look := (K.out.2.1.drew).look HS.out
      obtain ⟨v0, st, W1, W2, ent, sto, M2, G2, _⟩ := (K.out.2.1.drew).put HS.out (cntL (l.take k) s + 1) lb (by omega)
      have look1 := (K.out.2.1.drew).entryLook HS.out (by omega) ent
      rw [E.out] at M2
      have KM := Lib.hid (And.intro M2 ((K.out.2.2.drew).grown G2 K.out.2.2.drew.size (fun j hj => by cases hj; exact Nat.le_refl _)))
      obtain ⟨s0, s1, s2, s3⟩ := (show SB _ W.drew y p q r t from K.out.1).cells
      clear M2 G2 K M B E
      generalize hc : cntL (l.take k) s = c at look look1 sto lb
      clear hc
      rw [show (((c + 1 : Nat) : Nat) : Int) = (c : Int) + 1 from by omega] at sto
      have wr1 : IntKind.i64.wrap ((c : Int) + 1) = (c : Int) + 1 := by rw [IntKind.wrap_i64]; omega
      go_region
      all_goals go_wp2
      all_goals go_roundg (gk - 1)
      all_goals first
        | omega
        | exact ⟨k + 1, by omega, by go_num, Lib.hid (KM.out.1.keep rfl), Lib.hid KM.out.2⟩
        | exact ⟨k + 1, by omega, by go_num, Lib.hid (KM.out.1.keep rfl), Lib.hid KM.out.2.drew⟩
    · obtain rfl : k = l.length := by omega
      have M2 : Hid (MP wr w.heap.size l.length (cntL l)) := Lib.hid (by have := M.out; rw [List.take_length] at this; exact this)
      have G0 : Hid (Grow 26 w.heap.size w (.slice none 0 0) [] wr) := Lib.hid ⟨⟨rfl, .inl ⟨rfl, rfl⟩⟩, fun x hx => (by cases hx), B.out, Nat.le_refl _⟩
      clear M B
      obtain ⟨m0, hm0⟩ : ∃ m0, cntL l = m0 := ⟨_, rfl⟩
      have HM0 := Lib.hid hm0
      rw [hm0] at M2
      clear hm0
      go_wp2
      go_loopg [6, 25] l.length (fun gk v i wr => ∃ (k : Nat) (m : Sp → Nat) (res : List Sp), k + gk = l.length ∧ i = .int .i64 k ∧ res.length ≤ k ∧ Hid (tw m0 l = res ++ tw m (l.drop k)) ∧ Hid (MP wr w.heap.size l.length m) ∧ Hid (Grow 26 w.heap.size w v res wr))
      case atStart => exact ⟨0, m0, [], by omega, rfl, Nat.le_refl _, Lib.hid (by rw [List.drop_zero]; rfl), M2, G0⟩
      case round =>
        clear M2 G0
        obtain ⟨k, m, res, hk, rfl, hres, T, M, G⟩ := hrel
        by_cases hlt : k < l.length
        · have hlt' : (k : Int) < l.length := by omega
          obtain ⟨b, o, p, q, r, t, rfl, hl, HS, c0, c1, c2, c3⟩ := (H.out.below G.out.below).at4 hlt
          have T2 := T.out
          rw [drop_getD' l k hlt, tw_cons] at T2
          have T3 := Lib.hid T2
          clear T2 T
          generalize l.getD k default = s at HS T3
          have LB := below_allocs wr (.cells #[.int .u64 p, .int .u64 q, .int .u64 r, .int .u64 t] 26)
          have K := Lib.hid (And.intro (SB.new wr p q r t 26) (And.intro (M.out.below LB) (G.out.far LB)))
          have YN : Hid (some wr.heap.size = u6.ownBlock → False) := Lib.hid (fun e => absurd (G.out.own.lt _ e.symm).2 (Nat.lt_irrefl _))
          clear LB M G
          go_upto_region 11 with fail
          clear c0 c1 c2 c3 hl
          generalize World.alloc wr _ = W at K ⊢
          generalize wr.heap.size = y at K YN ⊢
          have look := K.out.2.1.look HS.out
          obtain ⟨s0, s1, s2, s3⟩ := K.out.1.cells
          by_cases hm : 1 < m s
          · have hm' : (1 : Int) < ((m s : Nat) : Int) := by omega
            rw [if_pos hm] at T3
            have T4 : Hid (tw m0 l = (res ++ [s]) ++ tw (upd m s 0) (l.drop (k + 1))) := Lib.hid (by rw [T3.out, List.append_assoc]; rfl)
            clear hm T3
            generalize ((m s : Nat) : Int) = c at look hm'
            have sz := K.out.2.2.below.size
            have lyw := K.out.1.lt
            go_wp2_with (at_builtin; refine wpList_append_own _ rfl _ _ 27 rfl w.heap.size 26 i0 (.agg #[.int .u64 0, .int .u64 0, .int .u64 0, .int .u64 0]) 4 32 Try.underlying27 HI.out HZ0.out HZ1.out HZ2.out rfl (by decide) _ _ _ rfl (K.out.2.2.own.alloc _) ⟨W.heap.size, 0, none⟩ 1 1 (encs [s]) rfl rfl ?c1 ?c2 ?c3 ?c4 ?c5 ?_)
            case c1 => exact new4 W s _ _ _ _ _ HS.out.enc
            case c2 => exact encs_one _
            case c3 => unfold maxLen; omega
            case c4 => omega
            case c5 => simp; omega
            intro v' w1 hown hgrow _
            have LW := below_allocs W (.cells #[.int .u64 p, .int .u64 q, .int .u64 r, .int .u64 t] 26)
            have GW := K.out.2.2.far LW
            have hne := (K.out.2.1.below LW).notRow GW
            have G1 := GW.step (k := [s]) (fun x hx => by rw [List.mem_singleton.1 hx]; exact HS.out.ok) (v' := v') (by simpa using hown) hgrow
            have M1 := (K.out.2.1.below LW).grown hgrow hne
            have hs1 : w1.heap[y]? = some (.cells #[.int .u64 p, .int .u64 q, .int .u64 r, .int .u64 t] 26 (0, 0)) := (hgrow.block y (K.out.1.below LW).lt YN.out).trans (K.out.1.below LW)
            obtain ⟨W2, hdel, M2, hg2⟩ := M1.del HS.out
            have R := Lib.hid (And.intro M2 (G1.kept hg2 (M1.notRow G1) (Nat.le_refl _)))
            obtain ⟨z0, z1, z2, z3⟩ := (show SB _ w1 y p q r t from hs1).cells
            clear hown hgrow LW GW hne G1 M1 M2 hg2 hs1 K s0 s1 s2 s3 look
            go_wp2
            go_roundg (gk - 1)
            case measure => omega
            case rel => exact ⟨k + 1, upd m s 0, res ++ [s], by omega, by go_num, by simp; omega, T4, Lib.hid R.out.1, Lib.hid R.out.2⟩
          · have hm' : ¬ (1 : Int) < ((m s : Nat) : Int) := by omega
            rw [if_neg hm] at T3
            clear hm
            generalize ((m s : Nat) : Int) = c at look hm'
            go_wp2
            go_roundg (gk - 1)
            case measure => omega
            case rel => exact ⟨k + 1, m, res, by omega, by go_num, by omega, T3, Lib.hid K.out.2.1, Lib.hid K.out.2.2⟩
        · obtain rfl : k = l.length := by omega
          have T2 : Hid (tw m0 l = res) := Lib.hid (by rw [T.out, List.drop_length]; simp [tw])
          clear T
          go_wp2
          go_ret
          rw [HM0.out, T2.out]
          exact G.out.ans
end Go.Proofs.Ytolicfackceomaa
