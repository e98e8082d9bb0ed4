/-
  The document's own table in memory, and what its calls Lay, Add, Goes, Get, Drop and Handles answer.
-/
import Derived.Test.YtlimfgmmbkgeeaaTbD
namespace Go.Proofs.Ytlimfgmmbkgeeaa
open Go.RowKit
set_option linter.unusedVariables false
set_option maxRecDepth 100000

/-- The cells of a list of rows. -/
def encs : List (Int × Int) → List Value
  | [] => []
  | x :: l => .int .i64 x.1 :: .int .u64 x.2 :: encs l
theorem encs_append : ∀ a b : List (Int × Int), encs (a ++ b) = encs a ++ encs b
  | [], _ => rfl
  | x :: a, b => by rw [List.cons_append, encs, encs_append a b, encs]; rfl
theorem encs_length : ∀ l : List (Int × Int), (encs l).length = l.length * 2
  | [] => rfl
  | x :: l => by rw [encs, List.length_cons, List.length_cons, encs_length l, List.length_cons]; omega
theorem encs_at : ∀ (l : List (Int × Int)) (i : Nat), i < l.length → (encs l)[i * 2]? = some (.int .i64 (l.getD i (0, 0)).1) ∧ (encs l)[i * 2 + 1]? = some (.int .u64 (l.getD i (0, 0)).2)
  | [], i, h => absurd h (Nat.not_lt_zero _)
  | x :: l, 0, _ => ⟨rfl, rfl⟩
  | x :: l, i + 1, h => by
    have := encs_at l i (by simpa using h)
    rw [show (i + 1) * 2 = i * 2 + 1 + 1 by omega, encs]
    exact this
theorem encs_one : ∀ (l : List (Int × Int)) (u : Value), u ∈ encs l → u.oneCell' = true
  | [], u, h => by cases h
  | x :: l, u, h => by
    rw [encs, List.mem_cons, List.mem_cons] at h
    rcases h with rfl | rfl | h
    · rfl
    · rfl
    · exact encs_one l u h
abbrev RL (B : Nat) (w : World) (v : Value) (l : List (Int × Int)) : Prop := w.ownsRow B 57 2 v l.length (encs l)
theorem rl_below {B : Nat} {w w' : World} {v : Value} {l : List (Int × Int)} (h : RL B w v l) (hb : Below w.heap.size w w') : RL B w' v l := owns_kept (F := fun _ => False) h (Kept.of_below hb) (fun _ _ => id)
theorem rl_slice {B : Nat} {w : World} {v : Value} {l : List (Int × Int)} (h : RL B w v l) : ∃ A cap, v = .slice A l.length cap ∧ l.length ≤ cap ∧ cap ≤ 9223372036854775807 ∧ ∀ i, i < l.length → ∃ g, A = some ⟨g, 0, none⟩ ∧ g < w.heap.size ∧ w.cell? ⟨g, i * 2, none⟩ = some (.int .i64 (l.getD i (0, 0)).1) ∧ w.cell? ⟨g, i * 2 + 1, none⟩ = some (.int .u64 (l.getD i (0, 0)).2) := by
  rcases h.2 with ⟨rfl, hn⟩ | ⟨g, cap, cur, rfl, _, _, hc1, hc2, _⟩
  · exact ⟨none, 0, by rw [hn], by omega, by decide, fun i hi => by omega⟩
  · refine ⟨_, cap, rfl, hc1, hc2, fun i hi => ⟨g, rfl, (h.lt g rfl).2, ?_, ?_⟩⟩
    · rw [h.cellAt (i * 2) (by omega)]; exact (encs_at l i hi).1
    · rw [h.cellAt (i * 2 + 1) (by omega)]; exact (encs_at l i hi).2
/-- The document's table: its block p, its list. -/
structure RT (w : World) (p : Nat) (F : Nat → Prop) (t : Tb) : Prop where
  ex : ∃ v, Blk 30 w p #[v, .int .i64 t.n] ∧ RL 0 w v t.l ∧ v.ownBlock ≠ some p ∧ ∀ b, v.ownBlock = some b → F b
  self : F p
  lt : ∀ b, F b → b < w.heap.size
  ok : t.Ok
section
variable {F G : Nat → Prop} {w w' : World} {p : Nat} {t : Tb}
theorem RT.kept (h : RT w p F t) (k : Kept G w w') (hd : ∀ b, F b → ¬ G b) : RT w' p F t := by
  obtain ⟨v, b, o, n, f⟩ := h.ex
  exact ⟨⟨v, b.kept k (hd _ h.self), owns_kept o k (fun b e => hd _ (f b e)), n, f⟩, h.self, fun b e => Nat.lt_of_lt_of_le (h.lt b e) k.size, h.ok⟩
theorem RT.below (h : RT w p F t) (hb : Below w.heap.size w w') : RT w' p F t := h.kept (G := fun _ => False) (Kept.of_below hb) (fun _ _ e => e)
end
/-- What a call that turns the document's table leaves behind. -/
structure RPost (F : Nat → Prop) (w : World) (p : Nat) (t : Tb) (w' : World) : Prop where
  at' : RT w' p (Ext F w w') t
  kept : Kept F w w'
theorem RPost.same {F : Nat → Prop} {w : World} {p : Nat} {t : Tb} (h : RT w p F t) {w' : World} (hb : Below w.heap.size w w') : RPost F w p t w' := by
  have k := h.below hb
  obtain ⟨v, b, o, n, f⟩ := k.ex
  exact ⟨⟨⟨v, b, o, n, fun b e => .inl (f b e)⟩, .inl h.self, fun b e => e.elim (fun e => Nat.lt_of_lt_of_le (h.lt b e) hb.size) (fun e => e.2), h.ok⟩, Kept.of_below hb⟩
/-- Its list is another one, or its next handle. -/
theorem RPost.make {F : Nat → Prop} {w V : World} {p : Nat} {t t' : Tb} (h : RT w p F t) (hb : Below w.heap.size w V) {v : Value} (o : RL 0 V v t'.l) (hv : ∀ b, v.ownBlock = some b → F b ∨ w.heap.size ≤ b) (hn : v.ownBlock ≠ some p) (ok : t'.Ok) {w' : World} (k : Kept (fun b => b = p) V w') (hB : Blk 30 w' p #[v, .int .i64 t'.n]) : RPost F w p t' w' := by
  have s := k.size
  have o' : RL 0 w' v t'.l := owns_kept o k (fun b e f => hn (f ▸ e))
  refine ⟨⟨⟨v, hB, o', hn, fun b e => (hv b e).imp id fun q => ⟨q, (o'.lt b e).2⟩⟩, .inl h.self, fun b e => e.elim (fun e => Nat.lt_of_lt_of_le (h.lt b e) (Nat.le_trans hb.size s)) (fun e => e.2), ok⟩, ?_⟩
  exact (Kept.of_below hb).trans (k.mono fun b _ e => .inl (e ▸ h.self))
theorem infoR : (Try.prog.info? 57).map (fun i => (i.zero, i.size, i.bytes)) = some (some (.agg #[.int .i64 0, .int .u64 0]), 2, 16) := by kernel_rfl
theorem rGoes {w : World} {p : Nat} {F : Nat → Prop} {t : Tb} (h : RT w p F t) (x : Int) : Calls Try.prog 12 #[.pointer (some ⟨p, 0, none⟩), .int .i64 x] w (fun e w' => e = .returned (.int .i64 (goesE t x)) ∧ RPost F w p (goesT t x) w') := by
  have ok := h.ok
  obtain ⟨v, B, o, n, f⟩ := h.ex
  have c1 := B.cell 1 _ rfl
  have f1 := B.free 1
  by_cases hx : x < t.n
  · have R : Hid (goesE t x = 1 ∧ RPost F w p (goesT t x) w) := Lib.hid (by
      have e : goesE t x = 1 := if_pos (.inl hx)
      refine ⟨e, ?_⟩
      unfold goesT
      rw [e]
      exact RPost.same h (Below.refl _ _))
    clear h B o n f ok
    generalize t.n = n at hx c1
    go_enter Try.func12, Try.ntmps12
    go_wp2
    go_ret
    exact ⟨by rw [R.out.1]; rfl, R.out.2⟩
  · by_cases hy : 2147483647 < x
    · have R : Hid (goesE t x = 1 ∧ RPost F w p (goesT t x) w) := Lib.hid (by
        have e : goesE t x = 1 := if_pos (.inr hy)
        refine ⟨e, ?_⟩
        unfold goesT
        rw [e]
        exact RPost.same h (Below.refl _ _))
      clear h B o n f ok
      generalize t.n = n at hx c1
      have hy' : x > 2147483647 := hy
      go_enter Try.func12, Try.ntmps12
      go_wp2
      go_ret
      exact ⟨by rw [R.out.1]; rfl, R.out.2⟩
    · have R : Hid (goesE t x = 0 ∧ RPost F w p (goesT t x) (w.setCell ⟨p, 1, none⟩ (.int .i64 x))) := Lib.hid (by
        have e : goesE t x = 0 := if_neg (by omega)
        refine ⟨e, ?_⟩
        have k := ok.goes x
        unfold goesT at k ⊢
        rw [if_pos e] at k ⊢
        exact RPost.make h (Below.refl _ _) (t' := ⟨t.l, x⟩) o (fun b e => .inl (f b e)) n k ((Kept.refl (fun b => b = p) w).set (a := ⟨p, _, none⟩) (.inl rfl) _) (B.set 1 _))
      clear h B o n f ok
      generalize t.n = n at hx c1
      have hy' : ¬ x > 2147483647 := hy
      go_enter Try.func12, Try.ntmps12
      go_wp2
      go_ret
      exact ⟨by rw [R.out.1]; rfl, R.out.2⟩
theorem find_none {l : List (Int × Int)} {x : Int} (h : ∀ j, j < l.length → (l.getD j (0, 0)).1 ≠ x) : l.find? (fun y => y.1 == x) = none ∧ (l.map Prod.fst).contains x = false := by
  have h' : ∀ y ∈ l, y.1 ≠ x := fun y hy => by
    obtain ⟨i, hi, rfl⟩ := List.getElem_of_mem hy
    have := h i hi
    rwa [List.getD_eq_getElem?_getD, List.getElem?_eq_getElem hi] at this
  refine ⟨List.find?_eq_none.2 fun y hy => by simpa using h' y hy, ?_⟩
  rw [← Bool.not_eq_true, List.contains_iff_mem]
  intro hm
  obtain ⟨y, hy, e⟩ := List.mem_map.1 hm
  exact h' y hy e
theorem find_some {l : List (Int × Int)} {x : Int} {i : Nat} (hi : i < l.length) (e : (l.getD i (0, 0)).1 = x) (h : ∀ j, j < i → (l.getD j (0, 0)).1 ≠ x) : l.find? (fun y => y.1 == x) = some (l.getD i (0, 0)) ∧ (l.map Prod.fst).contains x = true := by
  induction l generalizing i with
  | nil => exact absurd hi (Nat.not_lt_zero _)
  | cons y l ih =>
    cases i with
    | zero =>
      have : y.1 = x := e
      simp [this]
    | succ i =>
      have h0 : y.1 ≠ x := h 0 (by omega)
      obtain ⟨a, b⟩ := ih (i := i) (by simpa using hi) e (fun j hj => h (j + 1) (by omega))
      have h1 : (y.1 == x) = false := by simpa using h0
      have h2 : x ≠ y.1 := fun e => h0 e.symm
      simp only [List.find?_cons, h1, List.map_cons, List.contains_cons]
      refine ⟨a, ?_⟩
      rw [b]; simp
set_option maxHeartbeats 1000000 in
theorem rGet {w : World} {p : Nat} {F : Nat → Prop} {t : Tb} (h : RT w p F t) (x : Int) :
    Calls Try.prog 14 #[.pointer (some ⟨p, 0, none⟩), .int .i64 x] w (fun e w' => e = .returned (.tuple #[.int .u64 (getT t x), .bool (hasT t x)]) ∧ w = w') := by
  have hm := h.ok.many
  obtain ⟨v, B, o, _⟩ := h.ex
  obtain ⟨A, cap, rfl, hc1, hc2, HC⟩ := rl_slice o
  have HC := Lib.hid HC
  have c0 := B.cell 0 _ rfl
  have G : Hid (∀ y b, (t.l.find? (fun y => y.1 == x) = y ∧ (t.l.map Prod.fst).contains x = b) → getT t x = (match y with | some y => y.2 | none => 0) ∧ hasT t x = b) := Lib.hid (fun y b e => by
    unfold getT hasT Tb.h
    rw [e.1]
    exact ⟨rfl, e.2⟩)
  clear B o h hc1 hc2
  generalize getT t x = gv at *
  generalize hasT t x = hv at *
  generalize t.l = l at *
  go_enter Try.func14, Try.ntmps14
  go_wp2
  go_loopg [6] l.length (fun g iv wr => ∃ i : Nat, i + g = l.length ∧ iv = .int .i64 i ∧ wr = w ∧ Hid (∀ j, j < i → (l.getD j (0, 0)).1 ≠ x))
  case atStart => exact ⟨0, by omega, rfl, rfl, Lib.hid fun j hj => absurd hj (Nat.not_lt_zero _)⟩
  case round =>
    obtain ⟨i, hi, rfl, rfl, E⟩ := hrel
    by_cases hlt : i < l.length
    · have hlt' : (i : Int) < l.length := by omega
      obtain ⟨g, rfl, _, d0, d1⟩ := HC.out i hlt
      by_cases he : (l.getD i (0, 0)).1 = x
      · have R := Lib.hid (G.out _ _ (find_some hlt he E.out))
        clear E G
        generalize l.getD i (0, 0) = y at *
        obtain ⟨y1, y2⟩ := y
        go_wp2
        go_returns
        exact ⟨by rw [R.out.1, R.out.2]; rfl, rfl⟩
      · have E2 : Hid (∀ j, j < i + 1 → (l.getD j (0, 0)).1 ≠ x) := Lib.hid (fun j hj => by
          by_cases e : j = i
          · subst e; exact he
          · exact E.out j (by omega))
        clear E G
        generalize (l.getD i (0, 0)).1 = y at d0 he
        go_wp2_with fail
        go_roundg (gk - 1)
        case measure => omega
        case rel => exact ⟨i + 1, by omega, by go_num, rfl, E2⟩
    · obtain rfl : i = l.length := by omega
      have R := Lib.hid (G.out _ _ (find_none E.out))
      clear E G
      go_wp2
      go_returns
      exact ⟨by rw [R.out.1, R.out.2]; rfl, rfl⟩
end Go.Proofs.Ytlimfgmmbkgeeaa
