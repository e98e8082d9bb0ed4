/-
  What the call Words of package mix answers, for all states and numbers.
-/
import Derived.Test.YteldmnjgjijocaaMixA
import Derived.Test.YteldmnjgjijocaaGfdA
import Derived.Test.YteldmnjgjijocaaGfpTc
namespace Go.Proofs.Yteldmnjgjijocaa
open Go.RowKit G
set_option linter.unusedVariables false

theorem heapNew (w : World) (o : Obj) : (w.alloc o).heap[w.heap.size]? = some o := by
  show (w.heap.push o)[w.heap.size]? = some o
  simp
theorem row_new (w : World) (base M : Nat) (hb : base ≤ w.heap.size) (hM : M ≤ 9223372036854775807) : Row base w.heap.size M (List.replicate M 0) (w.alloc (.cells (madeCells #[.int .u64 0] M) 22)) := by
  have F := Fill.start w M
  refine ⟨⟨by simp [words], .inr ⟨w.heap.size, M, madeCells #[.int .u64 0] M, by rw [List.length_replicate], hb, heapNew w _, by simp, hM, ?_, ?_⟩⟩, F.wds⟩
  · rw [size_madeCells, Nat.mul_one]
  · rw [toList_madeCells_one, List.length_replicate, Nat.mul_one, words, List.map_replicate, List.take_replicate, Nat.min_self]
    rfl
/-- What a loop that fills a new list, and makes memory, keeps: the list, of which so many words are what they shall be. -/
structure Filled (w : World) (g n : Nat) (ps us : List Nat) (wr : World) : Prop where
  row : Row w.heap.size g n ps wr
  len : ps.length = n
  ok : ps.take us.length = us
  below : Below w.heap.size w wr
theorem Filled.start (w : World) (n : Nat) (hn : n ≤ 9223372036854775807) : Filled w w.heap.size n (List.replicate n 0) [] (w.alloc (.cells (madeCells #[.int .u64 0] n) 22)) :=
  ⟨row_new w _ n (Nat.le_refl _) hn, List.length_replicate, rfl, below_alloc (Below.refl _ _) _⟩
theorem Filled.far {w wr w' : World} {g n : Nat} {ps us : List Nat} (h : Filled w g n ps us wr) (hb : Below wr.heap.size wr w') : Filled w g n ps us w' := ⟨h.row.below hb, h.len, h.ok, below_then h.below hb⟩
theorem Filled.set {w wr : World} {g n : Nat} {ps us : List Nat} (h : Filled w g n ps us wr) (x : Nat) (hx : x < 18446744073709551616) (hl : us.length < n) : Filled w g n (ps.set us.length x) (us ++ [x]) (wr.setCell ⟨g, us.length, none⟩ (.int .u64 (x : Int))) := by
  refine ⟨h.row.set _ _ hx, by rw [List.length_set]; exact h.len, ?_, h.below.setCell h.row.lt.1 _⟩
  rw [List.length_append, List.length_singleton, take_next _ _ x (by rw [List.length_set, h.len]; exact hl) (by simp [h.len, hl])]
  rw [List.take_set_of_le (Nat.le_refl _), h.ok]
theorem Filled.cell {w wr : World} {g n : Nat} {ps us : List Nat} (h : Filled w g n ps us wr) (hl : us.length < n) : wr.cell? ⟨g, us.length, none⟩ = some (.int .u64 ((ps.getD us.length 0 : Nat) : Int)) ∧ wr.frozen? ⟨g, us.length, none⟩ = false :=
  h.row.cell _ (by rw [h.len]; exact hl)
theorem Filled.full {w wr : World} {g n : Nat} {ps us : List Nat} (h : Filled w g n ps us wr) (hl : us.length = n) : Pol wr (some ⟨g, 0, none⟩) n us := by
  have e : ps = us := by rw [← h.ok, hl, ← h.len, List.take_length]
  rw [← e]; exact h.row.pol

/-- The answer of Words: a list, the state behind it, and OK. -/
def AnsR (xs : List Nat) (s : Nat) (w : World) (e : Ending) (w' : World) : Prop := ∃ (A : Option Addr) (cap : Nat), e = .returned (.tuple #[.slice A xs.length cap, .int .u64 (s : Int), .int .i64 0]) ∧ Pol w' A cap xs ∧ Below w.heap.size w w'

theorem wordsNo (s many : Int) (h : many < 0 ∨ 256 < many) (w : World) : Calls Try.prog 8 #[.int .u64 s, .int .i64 many] w (fun e w' => e = .returned (.tuple #[.slice none 0 0, .int .u64 0, .int .i64 1]) ∧ w' = w) := by
  go_enter Try.func8, Try.ntmps8
  by_cases h0 : many < 0
  · go_wp2
    go_returns
    exact ⟨rfl, rfl⟩
  · have h1 : many > 256 := by omega
    go_wp2
    go_returns
    exact ⟨rfl, rfl⟩
set_option maxHeartbeats 1000000 in
theorem wordsYes (s n : Nat) (h : s < 18446744073709551616) (hn : n ≤ 256) (w : World) : Calls Try.prog 8 #[.int .u64 s, .int .i64 n] w (AnsR (rowN s n) (iterN s n) w) := by
  have hmk := run_make_row' (P := Try.prog) 25 22 (.int .u64 0) 8 Try.underlying25 infoW rfl .i64 .i64 n (by omega) (by omega)
  have h0 : ¬ (n : Int) < 0 := by omega
  have h1 : ¬ (n : Int) > 256 := by omega
  go_enter Try.func8, Try.ntmps8
  go_wp2
  clear hmk
  have F0 := Lib.hid (Filled.start w n (by omega))
  generalize hA : List.replicate n 0 = p0 at F0
  clear hA
  generalize hW : w.alloc _ = W1 at F0 ⊢
  clear hW
  go_loopg [0, 19] n (fun g z i wr => ∃ (k : Nat) (ps : List Nat), k + g = n ∧ z = .int .u64 ((iterN s k : Nat) : Int) ∧ i = .int .i64 k ∧ Hid (Filled w w.heap.size n ps (rowN s k) wr))
  case atStart => exact ⟨0, p0, by omega, rfl, rfl, F0⟩
  case round =>
    obtain ⟨k, ps, hk, rfl, rfl, F⟩ := hrel
    clear F0
    by_cases hlt : k < n
    · have kl : (k : Int) < (n : Int) := by omega
      have k0 : (0 : Int) ≤ (k : Int) := by omega
      have hl := row_len s k
      have e1 := row_succ s k
      have C1 := Lib.hid (cWord (iterN s k) (iter_lt h k))
      have C2 := Lib.hid (cStep (iterN s k))
      have hm := mix_lt (stepN (iterN s k))
      have L1 := row_len s (k + 1)
      have E2 := Lib.hid (show iterN s (k + 1) = stepN (iterN s k) from rfl)
      generalize iterN s k = S at C1 C2 hm e1 E2 ⊢
      generalize rowN s k = us at F hl e1
      generalize mixN (stepN S) = X at C1 hm e1
      have E1 := Lib.hid e1
      clear e1
      go_wp2_with fail
      refine (C1.out _).mono ?_
      rintro e w2 ⟨rfl, hb⟩
      have F2 := Lib.hid (F.out.far hb)
      clear hb
      obtain ⟨c1, c2⟩ := F2.out.cell (by omega)
      have F3 := Lib.hid (F2.out.set X hm (by omega))
      rw [hl] at c1 c2 F3
      generalize ps.getD k 0 = old at c1
      generalize ps.set k X = ps' at F3
      go_wp2_with fail
      refine (C2.out _).mono ?_
      rintro e w3 ⟨rfl, rfl⟩
      go_wp2
      go_roundg (gk - 1)
      case measure => omega
      case rel => exact ⟨k + 1, ps', by omega, by rw [E2.out], by go_num, by rw [E1.out]; exact F3⟩
    · obtain rfl : k = n := by omega
      have kl : ¬ (k : Int) < (k : Int) := by omega
      go_wp2
      go_returns
      refine ⟨some ⟨w.heap.size, 0, none⟩, k, by rw [row_len]; rfl, F.out.full (row_len s k), F.out.below⟩
end Go.Proofs.Yteldmnjgjijocaa
