/-
  What the document's own New of layer 14 and Limit of layer 16 answer for the kind Mix.
-/
import Derived.Test.YtkpignbmocpcaaaGreatGnD
namespace Go.Proofs.YtkpignbmocpcaaaGreat
open Go.RowKit
set_option linter.unusedVariables false
set_option maxRecDepth 100000

theorem rStep (s : Nat) (w : World) : Calls Tryz.prog 38 #[.int .u64 s] w (fun e w' => e = .returned (.int .u64 ((stepN s : Nat) : Int)) ∧ w' = w) := by
  go_enter Tryz.func38, Tryz.ntmps38
  go_wp2
  go_ret
  refine ⟨?_, rfl⟩
  show Ending.returned (.int .u64 _) = _
  rw [IntKind.wrap_u64]; rfl
theorem rMix (z : Nat) (h : z < 18446744073709551616) (w : World) : Calls Tryz.prog 49 #[.int .u64 z] w (fun e w' => e = .returned (.int .u64 ((mixN z : Nat) : Int)) ∧ w' = w) := by
  have e1 := half1I h
  have e2 := half2I (half1_lt z)
  have e3 := lastI (half2_lt (half1 z))
  go_enter Tryz.func49, Tryz.ntmps49
  go_wp2
  go_ret
  refine ⟨?_, rfl⟩
  show Ending.returned (.int .u64 _) = _
  rw [mixN]
theorem rWord (s : Nat) (w : World) : Calls Tryz.prog 37 #[.int .u64 s] w (fun e w' => e = .returned (.int .u64 ((mixN (stepN s) : Nat) : Int)) ∧ w' = w) := by
  have q : IntKind.u64.wrap ((s : Int) + 11400714819323198485) = ((stepN s : Nat) : Int) := by rw [IntKind.wrap_u64]; rfl
  go_enter Tryz.func37, Tryz.ntmps37
  go_wp2_with fail
  refine (rMix _ (step_lt s) _).mono ?_
  rintro e w1 ⟨rfl, rfl⟩
  go_wp2
  go_ret
  exact ⟨rfl, rfl⟩
/-- A state of the document's into memory. -/
theorem list_storeR {ops : Array Oper} {rest : List Oper} {o : Oper} {a : Act} {w : World} {Q : Exit → Act → World → Prop} {s : Int} {old : Array Value} (hgd : o.guard = none) (x y : Operand) (ho : o.op = .store 68 x y)
    (b : Nat) (hx : a.eval x = .pointer (some ⟨b, 0, none⟩)) (hy : a.eval y = .agg (stC s)) (hs : old.size = 15) (h : Blk 68 w b old)
    (k : ∀ w', Blk 68 w' b (stC s) → (∀ B, B ≤ b → ∀ a0, Below B a0 w → Below B a0 w') → (∀ g, g ≠ b → w'.heap[g]? = w.heap[g]?) → w'.heap.size = w.heap.size → wpList Tryz.prog ops Q rest (a.put o.dst undef) w') : wpList Tryz.prog ops Q (o :: rest) a w := by
  refine wpList_store_row hgd _ x y ho b (stC s) hx hy _ _ h (by kernel_rfl) hs (by simp [stC, Value.oneCell']) (k _ ?_ ?_ ?_ ?_)
  · unfold Blk at h ⊢
    simp [World.setRow, Array.getElem?_modify, h]
  · intro B hB a0 h0
    refine ⟨h0.os, h0.tape, h0.output, ?_, fun g hg => ?_⟩
    · show _ ≤ (w.heap.modify b _).size
      rw [Array.size_modify]; exact h0.size
    · rw [← h0.block g hg]
      show (w.heap.modify b _)[g]? = _
      rw [Array.getElem?_modify, if_neg (by omega)]
  · intro g hg
    show (w.heap.modify b _)[g]? = _
    rw [Array.getElem?_modify, if_neg (Ne.symm hg)]
  · show (w.heap.modify b _).size = _
    rw [Array.size_modify]
theorem res_stR {fn : Func} {p u : Tmp} (h : fn.results = #[.cell p 68, .tmp u]) (tmps : Array Value) (w : World) (b : Nat) (s : Int) (hp : tmps.getD p undef = .pointer (some ⟨b, 0, none⟩)) (hm : Blk 68 w b (stC s)) :
    (results fn tmps).run Tryz.prog w = .ok (.tuple #[.agg (stC s), tmps.getD u undef]) w := by
  have hp' : tmps[p]?.getD undef = .pointer (some ⟨b, 0, none⟩) := by simpa using hp
  have e : (loadVar 68 ⟨b, 0, none⟩).run Tryz.prog w = .ok (.agg (stC s)) w := run_loadVar_row w b 68 _ (stC s) (0, 0) _ hm Tryz.underlying68 rfl (by kernel_rfl)
  simp [results, h, hp', asAddr, e]
set_option maxHeartbeats 1000000 in
theorem rLimit (w : World) : Calls Tryz.prog 26 #[.int .i64 1] w (fun e w' => e = .returned (.agg #[.int .u64 0, .int .u64 9223372036854775808]) ∧ Below w.heap.size w w') := by
  go_enter Tryz.func26, Tryz.ntmps26
  go_wp2
  go_returns
  exact ⟨rfl, below_allocs _ _⟩
/-- What New keeps while it makes its words. -/
structure Rn (w : World) (wr : World) : Prop where
  z : Blk 68 wr w.heap.size stZ
  l : ∃ a b c d : Int, Blk 60 wr (w.heap.size + 1) #[.int .u64 a, .int .u64 b, .int .u64 c, .int .u64 d]
  b : Below w.heap.size w wr
theorem Rn.set {w wr : World} (h : Rn w wr) (k : Nat) (x : Int) (hk : k < 4) : Rn w (wr.setCell ⟨w.heap.size + 1, k, none⟩ (.int .u64 x)) := by
  obtain ⟨a, b, c, d, l⟩ := h.l
  refine ⟨h.z.far (by show _ ≠ w.heap.size + 1; omega) _, ?_, h.b.setCell (Nat.le_succ _) _⟩
  have m := l.set k (.int .u64 x)
  match k, hk, m with
  | 0, _, m => exact ⟨x, b, c, d, m⟩
  | 1, _, m => exact ⟨a, x, c, d, m⟩
  | 2, _, m => exact ⟨a, b, x, d, m⟩
  | 3, _, m => exact ⟨a, b, c, x, m⟩
theorem Rn.cell {w wr : World} (h : Rn w wr) (k : Nat) (hk : k < 4) : ∃ x : Int, wr.cell? ⟨w.heap.size + 1, k, none⟩ = some (.int .u64 x) ∧ wr.frozen? ⟨w.heap.size + 1, k, none⟩ = false := by
  obtain ⟨a, b, c, d, l⟩ := h.l
  match k, hk with
  | 0, _ => exact ⟨a, l.cell 0 _ rfl, l.free 0⟩
  | 1, _ => exact ⟨b, l.cell 1 _ rfl, l.free 1⟩
  | 2, _ => exact ⟨c, l.cell 2 _ rfl, l.free 2⟩
  | 3, _ => exact ⟨d, l.cell 3 _ rfl, l.free 3⟩
theorem Rn.new (w : World) : Rn w ((w.alloc (.cells stZ 68)).alloc (.cells #[.int .u64 0, .int .u64 0, .int .u64 0, .int .u64 0] 60)) := by
  have Z := Blk.new w stZ 68
  have B0 := below_allocs w (.cells stZ 68)
  generalize hW : w.alloc (.cells stZ 68) = W0 at Z B0 ⊢
  have e0 : W0.heap.size = w.heap.size + 1 := by rw [← hW]; exact Array.size_push _
  have L := Blk.new W0 #[.int .u64 0, .int .u64 0, .int .u64 0, .int .u64 0] 60
  rw [e0] at L
  have B1 := below_allocs W0 (.cells #[.int .u64 0, .int .u64 0, .int .u64 0, .int .u64 0] 60)
  exact ⟨Z.below B1, ⟨0, 0, 0, 0, L⟩, below_then B0 B1⟩
set_option maxHeartbeats 2000000 in
theorem rSeedNew (s : Nat) (hs : s < 18446744073709551616) (w : World) : Calls Tryz.prog 25 #[.int .i64 1, .int .u64 s] w (fun e w' => e = .returned (.tuple #[.agg (stC s), .int .i64 0]) ∧ Below w.heap.size w w') := by
  have K := Rn.new w
  unfold stZ at K
  go_enter Tryz.func25, Tryz.ntmps25
  go_upto_region 2 with fail
  generalize (w.alloc _).alloc _ = W1 at K ⊢
  have F0 := Lib.hid K
  clear K
  go_wp2_with fail
  go_loopg [7, 8] 4 (fun g u i wr => ∃ k S : Nat, k + g = 4 ∧ u = .int .u64 (S : Int) ∧ i = .int .i64 k ∧ Hid (Rn w wr))
  case atStart => exact ⟨0, s, by omega, rfl, rfl, F0⟩
  case round =>
    obtain ⟨k, S, hk, rfl, rfl, F⟩ := hrel
    clear F0
    by_cases hlt : k < 4
    · have kl : (k : Int) < 4 := by omega
      have k0 : (0 : Int) ≤ (k : Int) := by omega
      have C1 := Lib.hid (rWord S)
      have C2 := Lib.hid (rStep S)
      generalize mixN (stepN S) = X at C1
      generalize stepN S = S' at C2
      obtain ⟨x, c1, c2⟩ := F.out.cell k hlt
      have F2 := Lib.hid (F.out.set k (X : Int) hlt)
      clear F
      go_wp2_with fail
      refine (C1.out _).mono ?_
      rintro e w2 ⟨rfl, rfl⟩
      go_wp2_with fail
      refine (C2.out _).mono ?_
      rintro e w3 ⟨rfl, rfl⟩
      go_wp2
      go_roundg (gk - 1)
      case measure => omega
      case rel => exact ⟨k + 1, S', by omega, rfl, by go_num, F2⟩
    · obtain rfl : k = 4 := by omega
      go_wp2_with (first | (refine list_storeR rfl _ _ rfl w.heap.size rfl rfl rfl F.out.z ?_; intro w5 N0 NL NF NS; have B5 := NL _ (Nat.le_refl _) _ F.out.b; clear F NL NF NS) | fail)
      exact bodyPost_ret (res_stR Tryz.results25 _ _ w.heap.size _ rfl N0) rfl ⟨rfl, B5⟩
end Go.Proofs.YtkpignbmocpcaaaGreat
