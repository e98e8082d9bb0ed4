/-
  What the call Words of package gen answers for a state of the kind Mix.
-/
import Derived.Test.YtkpignbmocpcaaaGreatGnD
import Derived.Deep.OwnRows
namespace Go.Proofs.YtkpignbmocpcaaaGreat
open Go.RowKit
set_option linter.unusedVariables false
set_option maxRecDepth 100000

theorem infoW : (Tryz.prog.info? 22).map (fun i => (i.zero, i.size, i.bytes)) = some (some (.int .u64 0), 1, 8) := by kernel_rfl
/-- The cells of a list of words. -/
def wl (ps : List Nat) : Array Value := (ps.map fun x : Nat => Value.int .u64 (x : Int)).toArray
theorem wl_size (ps : List Nat) : (wl ps).size = ps.length := by simp [wl]
theorem wl_get (ps : List Nat) (i : Nat) (h : i < ps.length) : (wl ps)[i]? = some (.int .u64 ((ps.getD i 0 : Nat) : Int)) := by
  simp [wl, List.getElem?_eq_getElem h]
theorem wl_set (ps : List Nat) (k x : Nat) : (wl ps).setIfInBounds k (.int .u64 (x : Int)) = wl (ps.set k x) := by
  simp [wl, List.map_set]
theorem wl_zero (n : Nat) : madeCells #[.int .u64 0] n = wl (List.replicate n 0) := by
  apply Array.toList_inj.1
  rw [toList_madeCells_one, wl, List.map_replicate]
  rfl
theorem take_next {α : Type} (l r : List α) (x : α) (h : r.length < l.length) (e : l[r.length]? = some x) (k : l.take r.length = r) : l.take (r.length + 1) = r ++ [x] := by
  rw [List.take_add_one, k, e]
  rfl
/-- A list that is filled with words: so many are what they shall be. -/
structure Fl (w : World) (g n : Nat) (ps us : List Nat) (wr : World) : Prop where
  row : Blk 22 wr g (wl ps)
  new : w.heap.size ≤ g
  len : ps.length = n
  ok : ps.take us.length = us
  below : Below w.heap.size w wr
theorem Fl.start (w : World) (n : Nat) : Fl w w.heap.size n (List.replicate n 0) [] (w.alloc (.cells (madeCells #[.int .u64 0] n) 22)) := by
  refine ⟨?_, Nat.le_refl _, List.length_replicate, rfl, below_allocs _ _⟩
  rw [wl_zero]
  exact Blk.new _ _ _
theorem Fl.far {w wr w' : World} {g n : Nat} {ps us : List Nat} (h : Fl w g n ps us wr) (hb : Below wr.heap.size wr w') : Fl w g n ps us w' := ⟨h.row.below hb, h.new, h.len, h.ok, below_then h.below hb⟩
theorem Fl.set {w wr : World} {g n : Nat} {ps us : List Nat} (h : Fl w g n ps us wr) (x : Nat) (hl : us.length < n) : Fl w g n (ps.set us.length x) (us ++ [x]) (wr.setCell ⟨g, us.length, none⟩ (.int .u64 (x : Int))) := by
  refine ⟨?_, h.new, by rw [List.length_set]; exact h.len, ?_, h.below.setCell h.new _⟩
  · rw [← wl_set]; exact h.row.set _ _
  · rw [List.length_append, List.length_singleton]
    refine take_next _ _ x (by rw [List.length_set, h.len]; exact hl) (by simp [h.len, hl]) ?_
    rw [List.take_set_of_le (Nat.le_refl _), h.ok]
theorem Fl.cell {w wr : World} {g n : Nat} {ps us : List Nat} (h : Fl w g n ps us wr) (hl : us.length < n) : wr.cell? ⟨g, us.length, none⟩ = some (.int .u64 ((ps.getD us.length 0 : Nat) : Int)) ∧ wr.frozen? ⟨g, us.length, none⟩ = false :=
  ⟨h.row.cell _ _ (wl_get _ _ (by rw [h.len]; exact hl)), h.row.free _⟩
theorem Fl.full {w wr : World} {g n : Nat} {ps us : List Nat} (h : Fl w g n ps us wr) (hl : us.length = n) : Blk 22 wr g (wl us) := by
  have e : ps = us := by rw [← h.ok, hl, ← h.len, List.take_length]
  rw [← e]; exact h.row

/-- The answer of Words: a new list, the state behind it, and OK. -/
def AnsWs (xs : List Nat) (s : Nat) (w : World) (e : Ending) (w' : World) : Prop :=
  ∃ g : Nat, e = .returned (.tuple #[.slice (some ⟨g, 0, none⟩) xs.length xs.length, .agg (stC (s : Int)), .int .i64 0]) ∧ Blk 22 w' g (wl xs) ∧ w.heap.size ≤ g ∧ Below w.heap.size w w'
set_option maxHeartbeats 2000000 in
theorem gWords (s n : Nat) (h : s < 18446744073709551616) (hn : n ≤ 256) (w : World) : Calls Tryz.prog 59 #[.agg (stC s), .int .i64 n] w (AnsWs (rowN s n) (iterN s n) w) := by
  have hmk := run_make_row' (P := Tryz.prog) 112 22 (.int .u64 0) 8 Tryz.underlying112 infoW rfl .i64 .i64 n (by omega) (by omega)
  have h0 : ¬ (n : Int) < 0 := by omega
  have h1 : ¬ (n : Int) > 256 := by omega
  have K := Two.new w s
  unfold stZ at K
  go_enter Tryz.func59, Tryz.ntmps59
  go_upto_region 1 with fail
  generalize (w.alloc (.cells (stC s) _)).alloc _ = W1 at K ⊢
  go_wp2_with (first | (refine list_load rfl _ rfl rfl K.k ?_) | fail)
  refine (gChecked s _).mono ?_
  rintro e V ⟨rfl, hb⟩
  have K2 := Lib.hid (K.below hb)
  clear K hb
  go_upto_region 8 with fail
  clear hmk h0 h1
  have F0 := Lib.hid (Fl.start V n)
  generalize List.replicate n 0 = p0 at F0
  generalize V.alloc _ = W2 at F0 ⊢
  go_wp2
  go_loopg [7, 31] n (fun g z i wr => ∃ (k : Nat) (ps : List Nat), k + g = n ∧ z = .iface 117 (.int .u64 ((iterN s k : Nat) : Int)) ∧ i = .int .i64 k ∧ Hid (Fl V V.heap.size n ps (rowN s k) wr))
  case atStart => exact ⟨0, p0, by omega, rfl, rfl, F0⟩
  case round =>
    obtain ⟨k, ps, hk, rfl, rfl, F⟩ := hrel
    clear F0
    by_cases hlt : k < n
    · have kl : (k : Int) < (n : Int) := by omega
      have k0 : (0 : Int) ≤ (k : Int) := by omega
      have hl := row_len s k
      have e1 := row_succ s k
      have C1 := Lib.hid (pWord (iterN s k) (iter_lt h k))
      have C2 := Lib.hid (pStep (iterN s k))
      have hm1 : ∀ w : World, (method 145 117 (.int .u64 ((iterN s k : Nat) : Int)) "knucklebone/gen.word").run Tryz.prog w = .ok (94, .int .u64 ((iterN s k : Nat) : Int)) w := fun _ => by kernel_rfl
      have hm2 : ∀ w : World, (method 145 117 (.int .u64 ((iterN s k : Nat) : Int)) "knucklebone/gen.step").run Tryz.prog w = .ok (92, .int .u64 ((iterN s k : Nat) : Int)) w := fun _ => by kernel_rfl
      have E2 := Lib.hid (show iterN s (k + 1) = stepN (iterN s k) from rfl)
      generalize iterN s k = S at C1 C2 e1 E2 hm1 hm2 ⊢
      generalize rowN s k = us at F hl e1
      generalize mixN (stepN S) = X at C1 e1
      have E1 := Lib.hid e1
      clear e1
      go_wp2_with fail
      refine (C1.out _).mono ?_
      rintro e w2 ⟨rfl, hb⟩
      have F2 := Lib.hid (F.out.far hb)
      clear hb F
      obtain ⟨c1, c2⟩ := F2.out.cell (by omega)
      have F3 := Lib.hid (F2.out.set X (by omega))
      rw [hl] at c1 c2 F3
      generalize ps.getD k 0 = old at c1
      generalize ps.set k X = ps' at F3
      go_wp2_with fail
      refine (C2.out _).mono ?_
      rintro e w3 ⟨rfl, hb⟩
      have F4 := Lib.hid (F3.out.far hb)
      clear hb F3 F2 c1 c2
      go_wp2
      go_roundg (gk - 1)
      case measure => omega
      case rel => exact ⟨k + 1, ps', by omega, by rw [E2.out], by go_num, by rw [E1.out]; exact F4⟩
    · obtain rfl : k = n := by omega
      have kl : ¬ (k : Int) < (k : Int) := by omega
      have F5 := Lib.hid (And.intro (F.out.full (row_len s k)) (And.intro K2.out.z.lt (K2.out.below F.out.below)))
      generalize V.heap.size = G at F5
      clear F K2
      go_wp2_with fail
      refine (gWhole ((iterN s k : Nat) : Int) _).mono ?_
      rintro e w4 ⟨rfl, hb⟩
      have K5 := Lib.hid (And.intro (F5.out.1.below hb) (And.intro F5.out.2.1 (F5.out.2.2.below hb)))
      clear hb F5
      go_wp2_with (first | (refine list_store rfl _ _ rfl (w.heap.size + 1) rfl rfl rfl K5.out.2.2.z ?_; intro w5 N0 NL NF NS; have B5 := NL _ (Nat.le_succ _) _ K5.out.2.2.b; have R5 : Blk 22 w5 G (wl (rowN s k)) := (NF G (Nat.ne_of_gt K5.out.2.1)).trans K5.out.1; have G5 := K5.out.2.1; clear K5 NL NF NS) | fail)
      exact bodyPost_ret (res_tst Tryz.results59 _ _ (w.heap.size + 1) _ rfl N0) rfl ⟨G, by rw [row_len]; rfl, R5, by omega, B5⟩
end Go.Proofs.YtkpignbmocpcaaaGreat
