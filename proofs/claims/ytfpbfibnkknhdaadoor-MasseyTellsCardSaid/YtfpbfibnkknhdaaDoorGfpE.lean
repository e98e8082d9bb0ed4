/-
  What the calls Same and Add of package gfp answer, for all lists of words (of up to 50000).
-/
import Derived.Test.YtfpbfibnkknhdaaDoorGfpD
namespace Go.Proofs.YtfpbfibnkknhdaaDoor
open Go.RowKit G
set_option linter.unusedVariables false

/-- Are two numbers the same? -/
def sameN (M N : Nat) : Bool := decide (M = N)
theorem sameN_self (N : Nat) : sameN N N = true := by unfold sameN; simp
theorem sameL_words (M N : Nat) : sameL (wordsOf M) (wordsOf N) = sameN M N := by
  unfold sameL sameN
  refine decide_eq_decide.2 ⟨fun h => ?_, fun h => by rw [h]⟩
  rw [← leN_wordsOf M, ← leN_wordsOf N, h]
/-- A new row that holds these words. -/
def RowL (w : World) (g : Nat) (ps : List Nat) : Prop := w.rowIs g 50 ps.length (fun i => .int .u64 ((ps.getD i 0 : Nat) : Int))
theorem RowL.set {w : World} {g : Nat} {ps : List Nat} (h : RowL w g ps) (k v : Nat) (hk : k < ps.length) : RowL (w.setCell ⟨g, k, none⟩ (.int .u64 (v : Int))) g (ps.set k v) := by
  unfold RowL at *
  rw [List.length_set]
  refine (World.rowIs.set h k (.int .u64 (v : Int))).congr (fun i hi => ?_)
  show (if i = k then Value.int .u64 (v : Int) else .int .u64 ((ps.getD i 0 : Nat) : Int)) = _
  rw [getD_set _ _ _ _ hk]
  split <;> rfl
theorem RowL.made (w : World) (n : Nat) : RowL (w.alloc (.cells (madeCells #[.int .u64 0] n) 50)) w.heap.size (List.replicate n 0) := by
  unfold RowL
  rw [List.length_replicate]
  refine (World.rowIs_made w (.int .u64 0) n 50).congr (fun i hi => ?_)
  simp [hi]
theorem RowL.pol {w : World} {g : Nat} {ps : List Nat} (h : RowL w g ps) (hw : Wds ps) (hl : ps.length ≤ 9223372036854775807) : Pol w (some ⟨g, 0, none⟩) ps.length ps :=
  ⟨hw, Nat.le_refl _, hl, fun i hi => ⟨g, 0, rfl, by rw [Nat.zero_add]; exact World.rowIs.cell h hi⟩⟩
theorem wds_zero (n : Nat) : Wds (List.replicate n 0) := fun x hx => by rw [(List.mem_replicate.1 hx).2]; decide
theorem getD_zero (n i : Nat) : (List.replicate n 0).getD i 0 = 0 := by
  rw [List.getD_eq_getElem?_getD, List.getElem?_replicate]; split <;> rfl
/-- What a loop that fills a new row keeps. -/
structure Fill (w : World) (g n : Nat) (ps : List Nat) (wr : World) : Prop where
  row : RowL wr g ps
  wds : Wds ps
  len : ps.length = n
  new : w.heap.size ≤ g
  below : Below w.heap.size w wr
theorem Fill.start (w : World) (n : Nat) : Fill w w.heap.size n (List.replicate n 0) (w.alloc (.cells (madeCells #[.int .u64 0] n) 50)) :=
  ⟨RowL.made w n, wds_zero n, List.length_replicate, Nat.le_refl _, below_alloc (Below.refl _ _) _⟩
theorem Fill.set {w : World} {g n : Nat} {ps : List Nat} {wr : World} (h : Fill w g n ps wr) (k v : Nat) (hk : k < n) (hv : v < 18446744073709551616) : Fill w g n (ps.set k v) (wr.setCell ⟨g, k, none⟩ (.int .u64 (v : Int))) :=
  ⟨h.row.set k v (by rw [h.len]; exact hk), h.wds.set k v hv, by rw [List.length_set]; exact h.len, h.new, h.below.setCell h.new _⟩
theorem Fill.cell {w : World} {g n : Nat} {ps : List Nat} {wr : World} (h : Fill w g n ps wr) (k : Nat) (hk : k < n) : wr.cell? ⟨g, k, none⟩ = some (.int .u64 ((ps.getD k 0 : Nat) : Int)) ∧ wr.frozen? ⟨g, k, none⟩ = false :=
  ⟨World.rowIs.cell h.row (by rw [h.len]; exact hk), World.rowIs.frozen h.row k⟩
theorem Fill.pol {w : World} {g n : Nat} {ps : List Nat} {wr : World} (h : Fill w g n ps wr) (hn : n ≤ 9223372036854775807) : Pol wr (some ⟨g, 0, none⟩) n ps := by
  have := h.row.pol h.wds (by rw [h.len]; exact hn)
  rwa [h.len] at this
theorem Pol.far {w wr : World} {A : Option Addr} {cap : Nat} {xs : List Nat} (P : Pol w A cap xs) (hb : Below w.heap.size w wr) : Pol wr A cap xs := P.below hb

set_option maxHeartbeats 1000000 in
theorem addWalk (A B : Option Addr) (ca cb L K n : Nat) (xs ys : List Nat) (hL : Hid (xs.length = L)) (hK : Hid (ys.length = K)) (hn : max L K = n) (bn : n ≤ 100000) (w : World) (P : Hid (Pol w A ca xs)) (Q : Hid (Pol w B cb ys)) (Z : Nat) (hZ : Hid (leN xs ^^^ leN ys = Z)) :
    Calls Tryd.prog 38 #[.slice A L ca, .slice B K cb] w (Ans Z w) := by
  have hmk := run_make_row' (P := Tryd.prog) 23 50 (.int .u64 0) 8 Tryd.underlying23 infoW rfl .i64 .i64 n (by omega) (by omega)
  have em : max (L : Int) (K : Int) = (n : Int) := by omega
  go_enter Tryd.func38, Tryd.ntmps38
  go_wp2
  clear hmk em
  have F0 := Fill.start w n
  have Z0 : Hid (∀ i, (List.replicate n 0).getD i 0 = if i < 0 then xs.getD i 0 ^^^ ys.getD i 0 else 0) := Lib.hid (fun i => by rw [getD_zero]; simp)
  generalize hps : List.replicate n 0 = ps0 at F0 Z0
  clear hps
  go_loopg [21] n (fun g i wr => ∃ (k : Nat) (ps : List Nat), k + g = n ∧ i = .int .i64 k ∧ Hid (∀ i, ps.getD i 0 = if i < k then xs.getD i 0 ^^^ ys.getD i 0 else 0) ∧ Hid (Fill w w.heap.size n ps wr))
  case atStart => exact ⟨0, ps0, by omega, rfl, Z0, Lib.hid F0⟩
  case round =>
    obtain ⟨k, ps, hk, rfl, hp, F⟩ := hrel
    clear F0 Z0
    by_cases hlt : k < n
    · have kl : (k : Int) < (n : Int) := by omega
      have k0 : (0 : Int) ≤ (k : Int) := by omega
      obtain ⟨c1, c2⟩ := F.out.cell k hlt
      have P' := Lib.hid (P.out.far F.out.below)
      have Q' := Lib.hid (Q.out.far F.out.below)
      have hx := P.out.word.get k
      have hy := Q.out.word.get k
      have W1 := cWord A ca xs k _ rfl wr P'.out
      have W2 := cWord B cb ys k _ rfl wr Q'.out
      rw [hL.out] at W1
      rw [hK.out] at W2
      have F1 := Lib.hid (F.out.set k (xs.getD k 0 ^^^ ys.getD k 0) hlt (word_xor hx hy))
      have X1 := xor_int _ _ hx hy
      have H1 := Lib.hid (show ∀ i, (ps.set k (xs.getD k 0 ^^^ ys.getD k 0)).getD i 0 = if i < k + 1 then xs.getD i 0 ^^^ ys.getD i 0 else 0 from fun i => by
        rw [getD_set _ _ _ _ (by rw [F.out.len]; exact hlt), hp.out]
        by_cases e : i = k
        · subst e; rw [if_pos rfl, if_pos (by omega)]
        · rw [if_neg e]
          by_cases e2 : i < k
          · rw [if_pos e2, if_pos (by omega)]
          · rw [if_neg e2, if_neg (by omega)])
      generalize ps.set k (xs.getD k 0 ^^^ ys.getD k 0) = ps' at F1 H1
      generalize xs.getD k 0 = x at W1 hx F1 X1
      generalize ys.getD k 0 = y at W2 hy F1 X1
      generalize x ^^^ y = z at F1 X1
      generalize ps.getD k 0 = p at c1
      have HW1 := Lib.hid W1
      have HW2 := Lib.hid W2
      clear W1 W2
      go_wp2_with (first
        | (go_at_call 31; ((with_reducible refine (HW1.out).mono ?_); rintro e w' ⟨rfl, rfl⟩))
        | (go_at_call 31; ((with_reducible refine (HW2.out).mono ?_); rintro e w' ⟨rfl, rfl⟩)))
      go_roundg (gk - 1)
      case measure => omega
      case rel => exact ⟨k + 1, ps', by omega, by go_num, H1, F1⟩
    · obtain rfl : k = n := by omega
      have hs : leN ps = Z := by
        rw [← hZ.out]
        refine leN_sum ps xs ys F.out.wds P.out.word Q.out.word (fun i => ?_)
        rw [hp.out]
        split
        · rfl
        · rw [List.getD_eq_getElem?_getD, List.getD_eq_getElem?_getD, List.getElem?_eq_none (by rw [hL.out]; omega), List.getElem?_eq_none (by rw [hK.out]; omega)]; rfl
      have O := cOwn (some ⟨w.heap.size, 0, none⟩) k ps Z hs (by rw [F.out.len]; exact bn) wr (F.out.pol (by omega))
      rw [F.out.len] at O
      have HO := Lib.hid O
      clear O hs
      go_wp2_with (go_at_call 33; ((with_reducible refine (HO.out).mono ?_); rintro e w' ⟨A', c', rfl, PA, hb⟩))
      go_ret
      exact ⟨A', c', rfl, PA, below_then F.out.below hb⟩
theorem cAdd (A B : Option Addr) (ca cb : Nat) (xs ys : List Nat) (Z : Nat) (hZ : leN xs ^^^ leN ys = Z) (hl : xs.length ≤ 100000) (hk : ys.length ≤ 100000) (w : World) (P : Pol w A ca xs) (Q : Pol w B cb ys) :
    Calls Tryd.prog 38 #[.slice A xs.length ca, .slice B ys.length cb] w (Ans Z w) :=
  addWalk A B ca cb _ _ _ xs ys (Lib.hid rfl) (Lib.hid rfl) rfl (by omega) w (Lib.hid P) (Lib.hid Q) Z (Lib.hid hZ)
end Go.Proofs.YtfpbfibnkknhdaaDoor
