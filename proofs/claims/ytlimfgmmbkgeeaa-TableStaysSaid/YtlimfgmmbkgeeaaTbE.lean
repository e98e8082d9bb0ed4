/-
  What the calls answer and Copy of package table do, for a function that tells each value another one.
-/
import Derived.Test.YtlimfgmmbkgeeaaTbD
import Derived.Defers
import Derived.Recover
import Derived.Deep.DeepCutAuto
namespace Go.Proofs.Ytlimfgmmbkgeeaa
open Go.RowKit
set_option linter.unusedVariables false
set_option maxRecDepth 100000

theorem caught (w : World) : CallsD Try.prog 36 #[] .returning w fun e u' w' => e = .returned (.tuple #[]) ∧ u' = .returning ∧ w' = w := by
  refine callsD_of_wpS Try.func36 rfl fun c₀ cs hu => ?_
  apply wpS_region
  cases c₀
  simp_all [wpOpsS, go_sem, recoverD, Try.ntmps36, bodyPostS, results, Try.results36]
/-- A function value that tells each value another one. -/
structure Own (g : Nat) (f : Int → Int) : Prop where
  enters : ∀ (args : Array Value) (w : World), (callFunc g args).run Try.prog w = .ok (.enter g args) w
  tells : ∀ (x : Int) (w : World), Calls Try.prog g #[.int .u64 x] w (fun e w' => e = .returned (.int .u64 (f x)) ∧ w' = w)
theorem tAnswer {g : Nat} {f : Int → Int} (H : Own g f) (x : Int) (w : World) : Calls Try.prog 29 #[.func (.func g) #[] #[], .int .u64 x] w (fun e w' => e = .returned (.int .u64 (f x)) ∧ w' = w) := by
  have hmf : ∀ (fn : Fn) (first cap : Array Value) (w : World), (Instr.makeFunc fn first cap).run Try.prog w = .ok (.func fn first cap) w := fun _ _ _ _ => rfl
  have eg := H.enters
  have C := Lib.hid (H.tells x)
  clear H
  go_enter_defers Try.func29, Try.ntmps29
  go_wp2_with (go_at_fn g; refine (C.out _).mono ?_; rintro e w' ⟨rfl, rfl⟩)
  refine leaves_cons (f := 36) (args := #[]) (by simp) (by simp [go_sem]) ?_
  refine (caught _).mono ?_
  rintro e u' w'' ⟨rfl, rfl, rfl⟩
  simp [Leaves, settle, results, Try.results29, go_sem]
def mapT (f : Int → Int) (t : Tb) : Tb := ⟨t.l.map (fun x => (x.1, f x.2)), t.n⟩
theorem map_h (f : Int → Int) (t : Tb) : (mapT f t).h = t.h := by simp [mapT, Tb.h]
theorem map_v (f : Int → Int) (t : Tb) : (mapT f t).v = t.v.map f := by simp [mapT, Tb.v]
theorem map_id (t : Tb) : mapT (fun x => x) t = t := by
  unfold mapT
  have : t.l.map (fun x => (x.1, x.2)) = t.l := by simp
  rw [this]
theorem Tb.Ok.map {t : Tb} (k : t.Ok) (f : Int → Int) : (mapT f t).Ok :=
  ⟨by simpa [mapT] using k.many, k.n0, k.n1, by rw [map_h]; exact k.up, by rw [map_h]; exact k.within⟩
/-- Both lists have been copied. -/
structure Two (w : World) (hs vs : List Int) (v1 v2 : Value) (V : World) : Prop where
  o1 : V.ownsRow w.heap.size 3 1 v1 hs.length (hs.map (Value.int .i64))
  o2 : V.ownsRow w.heap.size 26 1 v2 vs.length (vs.map (Value.int .u64))
  n3 : ∀ b, v1.ownBlock = some b → v2.ownBlock ≠ some b
abbrev One1 (w : World) (hs : List Int) (v1 : Value) (V : World) : Prop := V.ownsRow w.heap.size 3 1 v1 hs.length (hs.map (Value.int .i64))
abbrev One2 (w : World) (vs : List Int) (v2 : Value) (V : World) : Prop := V.ownsRow w.heap.size 26 1 v2 vs.length (vs.map (Value.int .u64))
theorem two_a {w V W : World} {hs vs : List Int} {v1 v2 : Value} (h : One1 w hs v1 V) (k : One2 V vs v2 W) (hb : Below V.heap.size V W) (hw : w.heap.size ≤ V.heap.size) : Two w hs vs v1 v2 W :=
  ⟨owns_kept (F := fun _ => False) h (Kept.of_below hb) (fun _ _ => id), owns_base k (fun b e => Nat.le_trans hw (k.lt b e).1), fun b e f => by
    have := (h.lt b e).2
    have := (k.lt b f).1
    omega⟩
theorem two_b {w V W : World} {hs vs : List Int} {v1 v2 : Value} (h : One2 w vs v2 V) (k : One1 V hs v1 W) (hb : Below V.heap.size V W) (hw : w.heap.size ≤ V.heap.size) : Two w hs vs v1 v2 W :=
  ⟨owns_base k (fun b e => Nat.le_trans hw (k.lt b e).1), owns_kept (F := fun _ => False) h (Kept.of_below hb) (fun _ _ => id), fun b e f => by
    have := (k.lt b e).1
    have := (h.lt b f).2
    omega⟩
/-- The new table, its lists copied. -/
def CutC (w : World) (hs vs : List Int) (n : Int) (v : Value) (wr : World) : Prop := ∃ p sh sv, v = .pointer (some ⟨p, 0, none⟩) ∧ Mv (fun _ => False) w wr p sh sv hs vs n
theorem cutC {w V : World} {hs vs : List Int} {v1 v2 : Value} (n : Int) (B : Below w.heap.size w V) (T : Two w hs vs v1 v2 V) : CutC w hs vs n (.pointer (some ⟨V.heap.size, 0, none⟩)) (V.alloc (.cells #[v1, v2, .int .i64 n] 55)) := by
  have b := below_allocs V (.cells #[v1, v2, .int .i64 n] 55)
  have b2 := below_then B b
  have s : (V.alloc (.cells #[v1, v2, .int .i64 n] 55)).heap.size = V.heap.size + 1 := by simp
  have k := Kept.of_below (F := fun _ => False) b
  refine ⟨V.heap.size, v1, v2, rfl, ⟨Blk.new V _ _, owns_base (owns_kept T.o1 k (fun _ _ => id)) (fun _ _ => Nat.zero_le _), owns_base (owns_kept T.o2 k (fun _ _ => id)) (fun _ _ => Nat.zero_le _), fun e => ?_, fun e => ?_, T.n3⟩, ⟨.inr ⟨B.size, by omega⟩, fun c e => .inr ⟨(T.o1.lt c e).1, ?_⟩, fun c e => .inr ⟨(T.o2.lt c e).1, ?_⟩⟩, Kept.of_below b2, fun _ => False.elim⟩
  · have := (T.o1.lt _ e).2; omega
  · have := (T.o2.lt _ e).2; omega
  · have := (T.o1.lt c e).2; omega
  · have := (T.o2.lt c e).2; omega
/-- One of the values is another one. -/
theorem Mv.setAt {F : Nat → Prop} {w0 w : World} {p g cap : Nat} {sh : Value} {hs vs : List Int} {n : Int} (h : Mv F w0 w p sh (.slice (some ⟨g, 0, none⟩) vs.length cap) hs vs n) (i : Nat) (y : Int) :
    Mv F w0 (w.setCell ⟨g, i, none⟩ (.int .u64 y)) p sh (.slice (some ⟨g, 0, none⟩) (vs.set i y).length cap) hs (vs.set i y) n := by
  obtain ⟨o, gr⟩ := h.tg.vs.stored i (.int .u64 y)
  have k2 := Kept.grown (F := fun b => some g = some b) gr (fun b e => e)
  have hx : ∀ b, Ext F w0 w b → Ext F w0 (w.setCell ⟨g, i, none⟩ (.int .u64 y)) b := fun b e => ext_more k2.size e
  rw [List.length_set]
  refine ⟨⟨h.tg.blk.kept k2 (fun e => h.tg.n2 e), owns_kept h.tg.hs k2 (fun b e f => h.tg.n3 b e f), ?_, h.tg.n1, h.tg.n2, h.tg.n3⟩, ⟨hx p h.foot.p, fun b e => hx b (h.foot.h b e), fun b e => hx b (h.foot.v b e)⟩, ?_, h.lt⟩
  · rw [List.length_set, List.map_set]; exact o
  · exact h.kept.trans ((Kept.refl _ w).set (.inl (h.foot.v g rfl)) _)
/-- The values, of which the first i are told anew. -/
def half (f : Int → Int) (vs : List Int) (i : Nat) : List Int := (vs.take i).map f ++ vs.drop i
theorem half_len (f : Int → Int) (vs : List Int) (i : Nat) : (half f vs i).length = vs.length := by simp [half]; omega
theorem half_zero (f : Int → Int) (vs : List Int) : half f vs 0 = vs := by simp [half]
theorem half_all (f : Int → Int) (vs : List Int) : half f vs vs.length = vs.map f := by simp [half]
theorem half_at (f : Int → Int) (vs : List Int) (i : Nat) (h : i < vs.length) : (half f vs i)[i]? = some (vs.getD i 0) := by
  unfold half
  rw [List.getElem?_append_right (by simp; omega), List.getElem?_drop, List.getD_eq_getElem?_getD, List.getElem?_eq_getElem (by simp; omega)]
  have : i + (i - ((vs.take i).map f).length) = i := by simp; omega
  simp only [this, List.getElem?_eq_getElem h, Option.getD_some]
theorem half_next (f : Int → Int) (vs : List Int) (i : Nat) (h : i < vs.length) : (half f vs i).set i (f (vs.getD i 0)) = half f vs (i + 1) := by
  refine List.ext_getElem? fun j => ?_
  rw [List.getElem?_set]
  by_cases e : i = j
  · subst e
    rw [if_pos rfl, if_pos (by rw [half_len]; exact h)]
    unfold half
    rw [List.getElem?_append_left (by simp; omega), List.getElem?_map, List.getElem?_take, if_pos (by omega), List.getD_eq_getElem?_getD, List.getElem?_eq_getElem h]
    rfl
  · rw [if_neg e]
    unfold half
    by_cases l : j < i
    · rw [List.getElem?_append_left (by simp; omega), List.getElem?_append_left (by simp; omega)]
      simp only [List.getElem?_map, List.getElem?_take]
      rw [if_pos l, if_pos (by omega)]
    · rw [List.getElem?_append_right (by simp; omega), List.getElem?_append_right (by simp; omega), List.getElem?_drop, List.getElem?_drop]
      congr 1
      simp
      omega
set_option maxHeartbeats 4000000 in
theorem tCopy {w : World} {p : Nat} {F : Nat → Prop} {t : Tb} (h : At w p F t) {g : Nat} {f : Int → Int} (O : Own g f) :
    Calls Try.prog 20 #[.pointer (some ⟨p, 0, none⟩), .func (.func g) #[] #[]] w (fun e w' => ∃ q, e = .returned (.pointer (some ⟨q, 0, none⟩)) ∧ Post (fun _ => False) w q (mapT f t) w') := by
  have K := Lib.hid (h.ok.map f)
  have TH : Hid (∀ V, Below w.heap.size w V → Calls Try.prog 17 #[.pointer (some ⟨p, 0, none⟩)] V (AnsI t.h V)) := Lib.hid (fun V hb => tHandles (h.below hb))
  have TA := Lib.hid (fun x w => tAnswer O x w)
  have eh := map_h f t
  have ev := map_v f t
  have en : (mapT f t).n = t.n := rfl
  have EE := Lib.hid (And.intro eh (And.intro ev en))
  have l1 : t.v.length ≤ 16 := by simpa [Tb.v] using h.ok.many
  obtain ⟨sh, sv, T, _⟩ := h.ex
  have TU : Hid (∀ V, Below w.heap.size w V → Calls Try.prog 28 #[sv] V (fun e w' => ∃ v', e = .returned v' ∧ w'.ownsRow V.heap.size 26 1 v' t.v.length (t.v.map (Value.int .u64)) ∧ Below V.heap.size V w')) := Lib.hid (fun V hb => cloneU (T.below hb).vs l1)
  have HT : Hid (∀ V, Below w.heap.size w V → V.cell? ⟨p, 1, none⟩ = some sv ∧ V.cell? ⟨p, 2, none⟩ = some (.int .i64 t.n)) := Lib.hid (fun V hb => ⟨(T.below hb).blk.cell 1 _ rfl, (T.below hb).blk.cell 2 _ rfl⟩)
  clear h T eh ev en O
  generalize t.h = hs at *
  generalize t.v = vs at *
  generalize t.n = n at *
  go_enter Try.func20, Try.ntmps20
  go_upto_region 1 with fail
  go_cut [5] (CutC w hs vs n)
  case first =>
    have hX : Below w.heap.size w w := Below.refl _ _
    obtain ⟨c1, c2⟩ := HT.out _ hX
    go_region_with (first
      | (go_at_call 17; (with_reducible refine (TH.out _ (by first | exact hX | exact hX.drew)).mono ?_); rintro e x1 ⟨v1, rfl, ho, hb⟩; obtain ⟨A1, k1, rfl, _⟩ := own_slice (owns_base ho (fun _ _ => Nat.zero_le _)); (try have Q := Lib.hid (two_b HV.out ho hb (hX.size))); have HH : Hid (One1 w hs _ x1) := Lib.hid (owns_base ho (fun b e => Nat.le_trans hX.size (ho.lt b e).1)); replace hX := below_then (show Below w.heap.size w _ by first | exact hX | exact hX.drew) hb; clear ho hb; clear c1 c2; obtain ⟨c1, c2⟩ := HT.out _ hX)
      | (go_at_call 28; (with_reducible refine (TU.out _ (by first | exact hX | exact hX.drew)).mono ?_); rintro e x2 ⟨v2, rfl, ho, hb⟩; obtain ⟨A2, k2, rfl, _⟩ := own_slice (owns_base ho (fun _ _ => Nat.zero_le _)); (try have Q := Lib.hid (two_a HH.out ho hb (hX.size))); have HV : Hid (One2 w vs _ x2) := Lib.hid (owns_base ho (fun b e => Nat.le_trans hX.size (ho.lt b e).1)); replace hX := below_then (show Below w.heap.size w _ by first | exact hX | exact hX.drew) hb; clear ho hb; clear c1 c2; obtain ⟨c1, c2⟩ := HT.out _ hX))
    all_goals
      go_wp2_with fail
      go_meet
      exact cutC _ hX Q.out
  obtain ⟨p', sh', sv', rfl, M⟩ := hcut
  have M := Lib.hid M
  clear TH TU HT
  obtain ⟨A, ca, rfl, hc1, hc2⟩ := own_slice M.out.tg.vs
  have c1 := M.out.tg.blk.cell 1 _ rfl
  have M0 : Hid (Mv (fun _ => False) w wc p' sh' (.slice A vs.length ca) hs (half f vs 0) n) := Lib.hid (by rw [half_zero]; exact M.out)
  clear M c1
  have c1 := M0.out.tg.blk.cell 1 _ rfl
  go_wp2_with fail
  go_loopg [26] vs.length (fun gk iv wr => ∃ i : Nat, i + gk = vs.length ∧ iv = .int .i64 i ∧ Hid (Mv (fun _ => False) w wr p' sh' (.slice A vs.length ca) hs (half f vs i) n))
  case atStart => exact ⟨0, by omega, rfl, M0⟩
  case round =>
    clear M0 c1
    obtain ⟨i, hi, rfl, M⟩ := hrel
    by_cases hlt : i < vs.length
    · have hlt' : (i : Int) < vs.length := by omega
      have hlen := half_len f vs i
      obtain ⟨g2, cap2, e2, _⟩ := M.out.tg.vs.form (by rw [hlen]; omega)
      simp only [Value.slice.injEq] at e2
      obtain ⟨rfl, e3, rfl⟩ := e2
      clear e3
      have MM := M.out
      rw [← hlen] at MM
      have d0 := MM.tg.vs.cellAt i (by omega)
      rw [List.getElem?_map, half_at f vs i hlt, Option.map_some] at d0
      have f0 := MM.tg.vs.frozenAt i
      have c1 := M.out.tg.blk.cell 1 _ rfl
      have R : Hid (Mv (fun _ => False) w ((wr.setCell ⟨g2, i, none⟩ (.int .u64 (f (vs.getD i 0)))).drew) p' sh' (.slice (some ⟨g2, 0, none⟩) vs.length ca) hs (half f vs (i + 1)) n) := Lib.hid (by
        have q := (MM.setAt i (f (vs.getD i 0))).below (Below.refl _ _).drew
        rw [half_next f vs i hlt, half_len] at q
        exact q)
      clear MM M hlen
      generalize vs.getD i 0 = x at d0 R
      go_upto_region 5 with fail
      go_region_with (go_at_call 29; (with_reducible refine (TA.out x _).mono ?_); rintro e x1 ⟨rfl, rfl⟩)
      all_goals
        go_wp2_with fail
        go_roundg (gk - 1)
        case measure => omega
        case rel => exact ⟨i + 1, by omega, by go_num, R⟩
    · obtain rfl : i = vs.length := by omega
      have R : Hid (Post (fun _ => False) w p' (mapT f t) wr) := Lib.hid (by
        have q := M.out
        rw [half_all, ← EE.out.1, ← EE.out.2.1, ← EE.out.2.2] at q
        exact q.post K.out)
      clear M
      go_wp2
      go_ret
      exact ⟨p', rfl, R.out⟩
end Go.Proofs.Ytlimfgmmbkgeeaa
