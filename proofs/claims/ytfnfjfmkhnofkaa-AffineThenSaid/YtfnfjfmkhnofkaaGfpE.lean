/-
  What the calls Same and Add of package gfp answer, for all lists of words (of up to 50000).
-/
import Derived.Test.YtfnfjfmkhnofkaaGfpD
namespace Go.Proofs.Ytfnfjfmkhnofkaa
open Go.RowKit G
set_option linter.unusedVariables false

/-- Are two numbers the same? -/
def sameN (M N : Nat) : Bool := decide (M = N)
theorem sameN_self (N : Nat) : sameN N N = true := by unfold sameN; simp
theorem sameL_words (M N : Nat) : sameL (wordsOf M) (wordsOf N) = sameN M N := by
  unfold sameL sameN
  refine decide_eq_decide.2 ⟨fun h => ?_, fun h => by rw [h]⟩
  rw [← leN_wordsOf M, ← leN_wordsOf N, h]
/-- A new row that holds these words. -/
def RowL (w : World) (g : Nat) (ps : List Nat) : Prop := w.rowIs g 22 ps.length (fun i => .int .u64 ((ps.getD i 0 : Nat) : Int))
theorem RowL.set {w : World} {g : Nat} {ps : List Nat} (h : RowL w g ps) (k v : Nat) (hk : k < ps.length) : RowL (w.setCell ⟨g, k, none⟩ (.int .u64 (v : Int))) g (ps.set k v) := by
  unfold RowL at *
  rw [List.length_set]
  refine (World.rowIs.set h k (.int .u64 (v : Int))).congr (fun i hi => ?_)
  show (if i = k then Value.int .u64 (v : Int) else .int .u64 ((ps.getD i 0 : Nat) : Int)) = _
  rw [getD_set _ _ _ _ hk]
  split <;> rfl
theorem RowL.made (w : World) (n : Nat) : RowL (w.alloc (.cells (madeCells #[.int .u64 0] n) 22)) w.heap.size (List.replicate n 0) := by
  unfold RowL
  rw [List.length_replicate]
  refine (World.rowIs_made w (.int .u64 0) n 22).congr (fun i hi => ?_)
  simp [hi]
theorem RowL.pol {w : World} {g : Nat} {ps : List Nat} (h : RowL w g ps) (hw : Wds ps) (hl : ps.length ≤ 9223372036854775807) : Pol w (some ⟨g, 0, none⟩) ps.length ps :=
  ⟨hw, Nat.le_refl _, hl, fun i hi => ⟨g, 0, rfl, by rw [Nat.zero_add]; exact World.rowIs.cell h hi⟩⟩
theorem wds_zero (n : Nat) : Wds (List.replicate n 0) := fun x hx => by rw [(List.mem_replicate.1 hx).2]; decide
theorem getD_zero (n i : Nat) : (List.replicate n 0).getD i 0 = 0 := by
  rw [List.getD_eq_getElem?_getD, List.getElem?_replicate]; split <;> rfl
/-- What a loop that fills a new row keeps. -/
structure Fill (w : World) (g n : Nat) (ps : List Nat) (wr : World) : Prop where
  row : RowL wr g ps
  wds : Wds ps
  len : ps.length = n
  new : w.heap.size ≤ g
  below : Below w.heap.size w wr
theorem Fill.start (w : World) (n : Nat) : Fill w w.heap.size n (List.replicate n 0) (w.alloc (.cells (madeCells #[.int .u64 0] n) 22)) :=
  ⟨RowL.made w n, wds_zero n, List.length_replicate, Nat.le_refl _, below_alloc (Below.refl _ _) _⟩
theorem Fill.set {w : World} {g n : Nat} {ps : List Nat} {wr : World} (h : Fill w g n ps wr) (k v : Nat) (hk : k < n) (hv : v < 18446744073709551616) : Fill w g n (ps.set k v) (wr.setCell ⟨g, k, none⟩ (.int .u64 (v : Int))) :=
  ⟨h.row.set k v (by rw [h.len]; exact hk), h.wds.set k v hv, by rw [List.length_set]; exact h.len, h.new, h.below.setCell h.new _⟩
theorem Fill.cell {w : World} {g n : Nat} {ps : List Nat} {wr : World} (h : Fill w g n ps wr) (k : Nat) (hk : k < n) : wr.cell? ⟨g, k, none⟩ = some (.int .u64 ((ps.getD k 0 : Nat) : Int)) ∧ wr.frozen? ⟨g, k, none⟩ = false :=
  ⟨World.rowIs.cell h.row (by rw [h.len]; exact hk), World.rowIs.frozen h.row k⟩
theorem Fill.pol {w : World} {g n : Nat} {ps : List Nat} {wr : World} (h : Fill w g n ps wr) (hn : n ≤ 9223372036854775807) : Pol wr (some ⟨g, 0, none⟩) n ps := by
  have := h.row.pol h.wds (by rw [h.len]; exact hn)
  rwa [h.len] at this
theorem Pol.far {w wr : World} {A : Option Addr} {cap : Nat} {xs : List Nat} (P : Pol w A cap xs) (hb : Below w.heap.size w wr) : Pol wr A cap xs := P.below hb

end Go.Proofs.Ytfnfjfmkhnofkaa
