/-
  What the calls Get, Drop and Handles of package table do.
-/
import Derived.Test.YtlimfgmmbkgeeaaTbB
namespace Go.Proofs.Ytlimfgmmbkgeeaa
open Go.RowKit
set_option linter.unusedVariables false
set_option maxRecDepth 100000

theorem search_none (A : Option Addr) (c : Nat) (x : Int) (w : World) : Calls Try.prog 26 #[.slice A 0 c, .int .i64 x] w (fun e w' => e = .returned (.tuple #[.int .i64 0, .bool false]) ∧ w' = w) := by
  go_enter Try.func26, Try.ntmps26
  go_wp2
  go_loopg [7, 8] 0 (fun g s7 s8 wr => s7 = .int .i64 0 ∧ s8 = .int .i64 0 ∧ wr = w)
  case atStart => exact ⟨rfl, rfl, rfl⟩
  case round =>
    obtain ⟨rfl, rfl, rfl⟩ := hrel
    go_wp2
    go_ret2
    exact ⟨rfl, rfl⟩
/-- Where a handle stands in a table's list, and whether it does. -/
theorem tSearch {w : World} {p : Nat} {sh sv : Value} {t : Tb} (T : TG w p sh sv t.h t.v t.n) (ok : t.Ok) (x : Int) :
    Calls Try.prog 26 #[sh, .int .i64 x] w (fun e w' => e = .returned (.tuple #[.int .i64 ((t.h.countP (fun y => decide (y < x)) : Nat) : Int), .bool (hasT t x)]) ∧ ∃ q, w' = w.drewN q) := by
  have hl := t.h_len
  have hm := ok.many
  rcases T.hs.2 with ⟨rfl, hn⟩ | ⟨g, cap, cur, rfl, hg⟩
  · have e : t.h = [] := List.eq_nil_of_length_eq_zero hn
    unfold hasT
    rw [e]
    exact (search_none none 0 x w).mono fun _ _ h => ⟨h.1, 0, h.2⟩
  · have C := AnyG.slices_BinarySearch_int bsL g 0 t.h.length cap t.h x w (Nat.le_refl _) (by omega) (fun j hj => by
      have := T.hs.cellAt j (by omega)
      rw [Nat.zero_add, this, List.getElem?_map, List.getElem?_eq_getElem hj, List.getD_eq_getElem?_getD, List.getElem?_eq_getElem hj]
      rfl) (by rw [List.take_length]; exact ok.up.imp fun h => Int.le_of_lt h)
    rw [List.take_length] at C
    exact C
/-- What stands behind a handle, and whether anything does. -/
theorem tGet {w : World} {p : Nat} {F : Nat → Prop} {t : Tb} (h : At w p F t) (x : Int) :
    Calls Try.prog 13 #[.pointer (some ⟨p, 0, none⟩), .int .i64 x] w (fun e w' => e = .returned (.tuple #[.int .u64 (getT t x), .bool (hasT t x)]) ∧ ∃ q, w' = w.drewN q) := by
  obtain ⟨sh, sv, T, _⟩ := h.ex
  have ok := h.ok
  have C := Lib.hid (tSearch T ok x)
  have c0 := T.blk.cell 0 _ rfl
  have c1 := T.blk.cell 1 _ rfl
  cases hm : hasT t x with
  | false =>
    rw [hm] at C
    rw [get_none hm]
    clear hm h T ok
    go_enter Try.func13, Try.ntmps13
    go_wp2_with fail
    refine C.out.mono ?_
    rintro e V ⟨rfl, q, rfl⟩
    go_wp2
    go_returns
    exact ⟨rfl, q, rfl⟩
  | true =>
    obtain ⟨a, v, b, e, ec, _, ev⟩ := cut_at ok hm
    rw [hm, ec] at C
    rw [ev]
    have lv : t.v.length = a.length + 1 + b.length := by unfold Tb.v; rw [e]; simp; omega
    have gv : (t.v.map (Value.int .u64))[a.length]? = some (.int .u64 v) := by unfold Tb.v; rw [e]; simp
    obtain ⟨g, cap, rfl, _⟩ := T.vs.form (by omega)
    have cv := (T.vs.cellAt a.length (by omega)).trans gv
    have hk := ok.many
    have hk2 : a.length < t.l.length := by rw [e]; simp
    have c2 : (a.length : Int) < (t.v.length : Int) := by omega
    have hb : a.length < 16 := by omega
    generalize a.length = i at C cv c2 hb
    generalize t.v.length = k at c1 c2
    clear hm h T ok e ec ev lv gv hk hk2
    go_enter Try.func13, Try.ntmps13
    go_wp2_with fail
    refine C.out.mono ?_
    rintro e V ⟨rfl, q, rfl⟩
    go_wp2
    go_returns
    exact ⟨rfl, q, rfl⟩
theorem kept_putRow {α : Type} [Inhabited α] {enc : α → Value} {w : World} {g q : Nat} {d : Array α} : Kept (fun b => some g = some b) w (Sort.putRow enc (Sort.ahead w q) g 0 d) :=
  ⟨rfl, rfl, rfl, by simp [Sort.putRow, Sort.mapBlock, Sort.ahead], fun k hk hn => by
    have : g ≠ k := fun e => hn (by rw [e])
    simp [Sort.putRow, Sort.mapBlock, Sort.ahead, Array.getElem?_modify, this]⟩
theorem cut_list {α : Type} (a b : List α) (x z : α) (k : Nat) (hk : k = (a ++ b).length) : (((a ++ x :: b).take a.length ++ (a ++ x :: b).drop (a.length + 1) ++ List.replicate (a.length + 1 - a.length) z)).take k = a ++ b := by
  subst hk
  have e1 : (a ++ x :: b).take a.length = a := by simp
  have e2 : (a ++ x :: b).drop (a.length + 1) = b := by rw [← List.drop_drop]; simp
  rw [e1, e2, List.take_left]
/-- One of a list of numbers is deleted in place. -/
theorem delI {w : World} {g cap : Nat} (a : List Int) (x : Int) (b : List Int) (hs : List Int) (he : hs = a ++ x :: b) (hn : hs.length ≤ 16) (own : w.ownsRow 0 3 1 (.slice (some ⟨g, 0, none⟩) hs.length cap) hs.length (hs.map (Value.int .i64))) :
    Calls Try.prog 32 #[.slice (some ⟨g, 0, none⟩) hs.length cap, .int .i64 (a.length : Int), .int .i64 ((a.length + 1 : Nat) : Int)] w (fun e w' => e = .returned (.slice (some ⟨g, 0, none⟩) (a ++ b).length cap) ∧ w'.ownsRow 0 3 1 (.slice (some ⟨g, 0, none⟩) (a ++ b).length cap) (a ++ b).length ((a ++ b).map (Value.int .i64)) ∧ Kept (fun b => some g = some b) w w') := by
  obtain ⟨g', cap', e0, _, _, hc1, hc2, _, HH⟩ := Lib.holds_of_ownsRow own (by simp)
  simp only [Value.slice.injEq, Option.some.injEq, Addr.mk.injEq, and_true, true_and] at e0
  obtain ⟨rfl, rfl⟩ := e0
  obtain ⟨i0, hi, _, hz1, _⟩ := info_parts infoI
  have hl : hs.length = (a ++ b).length + 1 := by rw [he]; simp [Nat.add_assoc]
  have C := AnyE.slices_Delete deI (Value.int .i64) (fun _ => rfl) (0 : Int) Try.zeroValue3 i0 hi hz1 g 0 cap a.length (a.length + 1) hs.toArray w HH (by simpa using hc1) hc2 (by omega) (by rw [List.size_toArray, hl]; simp)
  have e1 : hs.toArray.size = hs.length := by simp
  rw [e1] at C
  refine C.mono ?_
  rintro e w' ⟨rfl, q, rfl⟩
  have e2 : hs.length - (a.length + 1 - a.length) = (a ++ b).length := by omega
  refine ⟨by rw [e2], ?_, kept_putRow⟩
  have O := Lib.ownsRow_putRow (q := q) (k := (a ++ b).length) (ys := hs.toArray.toList.take a.length ++ hs.toArray.toList.drop (a.length + 1) ++ List.replicate (a.length + 1 - a.length) (0 : Int)) own (by rw [he]; simp) (by omega)
  rw [he, List.toList_toArray, cut_list a b x 0 _ rfl] at O
  rw [he, List.toList_toArray]
  exact O
/-- One of a list of words is deleted in place. -/
theorem delU {w : World} {g cap : Nat} (a : List Int) (x : Int) (b : List Int) (hs : List Int) (he : hs = a ++ x :: b) (hn : hs.length ≤ 16) (own : w.ownsRow 0 26 1 (.slice (some ⟨g, 0, none⟩) hs.length cap) hs.length (hs.map (Value.int .u64))) :
    Calls Try.prog 33 #[.slice (some ⟨g, 0, none⟩) hs.length cap, .int .i64 (a.length : Int), .int .i64 ((a.length + 1 : Nat) : Int)] w (fun e w' => e = .returned (.slice (some ⟨g, 0, none⟩) (a ++ b).length cap) ∧ w'.ownsRow 0 26 1 (.slice (some ⟨g, 0, none⟩) (a ++ b).length cap) (a ++ b).length ((a ++ b).map (Value.int .u64)) ∧ Kept (fun b => some g = some b) w w') := by
  obtain ⟨g', cap', e0, _, _, hc1, hc2, _, HH⟩ := Lib.holds_of_ownsRow own (by simp)
  simp only [Value.slice.injEq, Option.some.injEq, Addr.mk.injEq, and_true, true_and] at e0
  obtain ⟨rfl, rfl⟩ := e0
  obtain ⟨i0, hi, _, hz1, _⟩ := info_parts infoU
  have hl : hs.length = (a ++ b).length + 1 := by rw [he]; simp [Nat.add_assoc]
  have C := AnyE.slices_Delete deU (Value.int .u64) (fun _ => rfl) (0 : Int) Try.zeroValue26 i0 hi hz1 g 0 cap a.length (a.length + 1) hs.toArray w HH (by simpa using hc1) hc2 (by omega) (by rw [List.size_toArray, hl]; simp)
  have e1 : hs.toArray.size = hs.length := by simp
  rw [e1] at C
  refine C.mono ?_
  rintro e w' ⟨rfl, q, rfl⟩
  have e2 : hs.length - (a.length + 1 - a.length) = (a ++ b).length := by omega
  refine ⟨by rw [e2], ?_, kept_putRow⟩
  have O := Lib.ownsRow_putRow (q := q) (k := (a ++ b).length) (ys := hs.toArray.toList.take a.length ++ hs.toArray.toList.drop (a.length + 1) ++ List.replicate (a.length + 1 - a.length) (0 : Int)) own (by rw [he]; simp) (by omega)
  rw [he, List.toList_toArray, cut_list a b x 0 _ rfl] at O
  rw [he, List.toList_toArray]
  exact O
theorem below_drewN (w : World) (q : Nat) : Below w.heap.size w (w.drewN q) := ⟨rfl, rfl, rfl, Nat.le_refl _, fun _ _ => rfl⟩
set_option maxHeartbeats 1000000 in
/-- A value is dropped. -/
theorem tDrop {w : World} {p : Nat} {F : Nat → Prop} {t : Tb} (h : At w p F t) (x : Int) :
    Calls Try.prog 22 #[.pointer (some ⟨p, 0, none⟩), .int .i64 x] w (fun e w' => e = .returned (.bool (hasT t x)) ∧ Post F w p (dropT t x) w') := by
  have ok := h.ok
  obtain ⟨sh, sv, M⟩ := h.mv
  have C := Lib.hid (tSearch M.tg ok x)
  have c0 := M.tg.blk.cell 0 _ rfl
  cases hm : hasT t x with
  | false =>
    rw [hm] at C
    have R : Hid (∀ q, Post F w p (dropT t x) (w.drewN q)) := Lib.hid (fun q => by
      rw [drop_none hm]
      exact (M.below (below_drewN w q)).post ok)
    clear hm h M ok
    go_enter Try.func22, Try.ntmps22
    go_wp2_with fail
    refine C.out.mono ?_
    rintro e V ⟨rfl, q, rfl⟩
    go_wp2
    go_ret
    exact ⟨rfl, R.out q⟩
  | true =>
    obtain ⟨a, v, b, e, ec, ed, _⟩ := cut_at ok hm
    rw [hm, ec] at C
    have eh : t.h = a.map Prod.fst ++ x :: b.map Prod.fst := by unfold Tb.h; rw [e]; simp
    have ev : t.v = a.map Prod.snd ++ v :: b.map Prod.snd := by unfold Tb.v; rw [e]; simp
    have dh : (dropT t x).h = a.map Prod.fst ++ b.map Prod.fst := by unfold Tb.h; rw [ed]; simp
    have dv : (dropT t x).v = a.map Prod.snd ++ b.map Prod.snd := by unfold Tb.v; rw [ed]; simp
    have K := Lib.hid (ok.drop x)
    have l1 : t.h.length ≤ 16 := by rw [t.h_len]; exact ok.many
    have l2 : t.v.length ≤ 16 := by simpa [Tb.v] using ok.many
    have la : (a.map Prod.fst).length = a.length := by simp
    have lb : (a.map Prod.snd).length = a.length := by simp
    have EN : Hid ((dropT t x).n = t.n) := Lib.hid rfl
    have EE := Lib.hid (And.intro dh dv)
    obtain ⟨g, cap, rfl, _⟩ := M.tg.hs.form (by rw [eh]; simp; omega)
    obtain ⟨g2, cap2, rfl, _⟩ := M.tg.vs.form (by rw [ev]; simp; omega)
    clear dh dv hm h ok ec ed e
    generalize a.map Prod.fst = a1 at *
    generalize a.map Prod.snd = a2 at *
    generalize b.map Prod.fst = b1 at *
    generalize b.map Prod.snd = b2 at *
    generalize t.h = hs at *
    generalize t.v = vs at *
    generalize a.length = i at *
    have hi : i < 16 := by rw [eh] at l1; simp at l1; omega
    have hi1 : IntKind.i64.wrap ((i : Int) + 1) = ((i + 1 : Nat) : Int) := by rw [IntKind.wrap_i64]; omega
    have hi2 : RowKit.wrap64 ((i : Int) + 1) = ((i + 1 : Nat) : Int) := by unfold RowKit.wrap64; omega
    have X1 : Hid (∀ q, Calls Try.prog 32 #[.slice (some ⟨g, 0, none⟩) hs.length cap, .int .i64 (i : Int), .int .i64 ((i + 1 : Nat) : Int)] (w.drewN q) (fun e w' => e = .returned (.slice (some ⟨g, 0, none⟩) (a1 ++ b1).length cap) ∧ Mv F w (w'.setCell ⟨p, 0, none⟩ (.slice (some ⟨g, 0, none⟩) (a1 ++ b1).length cap)) p (.slice (some ⟨g, 0, none⟩) (a1 ++ b1).length cap) (.slice (some ⟨g2, 0, none⟩) vs.length cap2) (a1 ++ b1) vs t.n ∧ w'.frozen? ⟨p, 0, none⟩ = false ∧ w'.cell? ⟨p, 0, none⟩ = some (.slice (some ⟨g, 0, none⟩) hs.length cap))) := Lib.hid (fun q => by
      have MQ := M.below (below_drewN w q)
      have D := delI a1 x b1 hs eh l1 MQ.tg.hs
      rw [la] at D
      refine D.mono ?_
      rintro e w' ⟨rfl, ho, hk⟩
      have B := MQ.tg.blk.kept (F := fun c => some g = some c) hk (fun e => MQ.tg.n1 e)
      exact ⟨rfl, MQ.setH (hs' := a1 ++ b1) hk ho (fun c e => .inl e), B.free 0, B.cell 0 _ rfl⟩)
    have X2 : Hid (∀ u n, Mv F w u p (.slice (some ⟨g, 0, none⟩) (a1 ++ b1).length cap) (.slice (some ⟨g2, 0, none⟩) vs.length cap2) (a1 ++ b1) vs n → Calls Try.prog 33 #[.slice (some ⟨g2, 0, none⟩) vs.length cap2, .int .i64 (i : Int), .int .i64 ((i + 1 : Nat) : Int)] u (fun e w' => e = .returned (.slice (some ⟨g2, 0, none⟩) (a2 ++ b2).length cap2) ∧ Mv F w (w'.setCell ⟨p, 1, none⟩ (.slice (some ⟨g2, 0, none⟩) (a2 ++ b2).length cap2)) p (.slice (some ⟨g, 0, none⟩) (a1 ++ b1).length cap) (.slice (some ⟨g2, 0, none⟩) (a2 ++ b2).length cap2) (a1 ++ b1) (a2 ++ b2) n ∧ w'.frozen? ⟨p, 1, none⟩ = false ∧ w'.cell? ⟨p, 1, none⟩ = some (.slice (some ⟨g2, 0, none⟩) vs.length cap2))) := Lib.hid (fun u n MQ => by
      have D := delU a2 v b2 vs ev l2 MQ.tg.vs
      rw [lb] at D
      refine D.mono ?_
      rintro e w' ⟨rfl, ho, hk⟩
      have B := MQ.tg.blk.kept (F := fun c => some g2 = some c) hk (fun e => MQ.tg.n2 e)
      exact ⟨rfl, MQ.setV (vs' := a2 ++ b2) hk ho (fun c e => .inl e), B.free 1, B.cell 1 _ rfl⟩)
    clear M l1 l2 la lb eh ev
    generalize t.n = n at EN X1 c0
    generalize hs.length = k1 at *
    generalize vs.length = k2 at *
    generalize hL1 : (a1 ++ b1).length = m1 at *
    generalize hL2 : (a2 ++ b2).length = m2 at *
    go_enter Try.func22, Try.ntmps22
    go_wp2_with fail
    refine C.out.mono ?_
    rintro e V ⟨rfl, q, rfl⟩
    go_wp2_with fail
    refine (X1.out q).mono ?_
    rintro e V ⟨rfl, M1, f0, d0⟩
    have M1 := Lib.hid M1
    clear X1 c0
    go_upto_region 5 with fail
    generalize V.setCell _ _ = V2 at M1 ⊢
    have c1 := M1.out.tg.blk.cell 1 _ rfl
    clear f0 d0
    go_wp2_with fail
    refine (X2.out _ _ M1.out).mono ?_
    rintro e V ⟨rfl, M2, f1, d1⟩
    have M2 := Lib.hid M2
    clear X2 c1 M1
    go_wp2_with fail
    go_ret
    refine ⟨rfl, ?_⟩
    have q2 := M2.out
    rw [← EE.out.1, ← EE.out.2, ← EN.out] at q2
    exact q2.post K.out
end Go.Proofs.Ytlimfgmmbkgeeaa
