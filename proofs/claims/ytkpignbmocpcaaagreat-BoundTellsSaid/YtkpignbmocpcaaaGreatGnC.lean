/-
  What the calls checked, Jump, Step, Words and Limit of package gen answer for a state of the kind Mix.
-/
import Derived.Test.YtkpignbmocpcaaaGreatGnB
import Derived.Outline
import Derived.WalkMore
import Derived.LoopTactic
import Derived.Deep.Cut
namespace Go.Proofs.YtkpignbmocpcaaaGreat
open Go.RowKit
set_option linter.unusedVariables false
set_option maxRecDepth 100000

theorem nilI (s : Int) (w : World) : Sem.run Tryz.prog (binOp .eql 97 (.iface 117 (.int .u64 s)) .nilIface) w = .ok (.bool false) w := by rfl
theorem quietG {P : Program} {f : FuncId} {args : Array Value} {W0 w : World} {s : Int} (h : Calls P f args w (fun e w' => e = .returned (.agg (stC s)) ∧ Below w.heap.size w w')) (hC : Below W0.heap.size W0 w) :
    Calls P f args w (fun e w'' => e = .returned (.agg (stC s)) ∧ Below W0.heap.size W0 w'') := quietOf h hC
theorem gChecked (s : Int) (w : World) : Calls Tryz.prog 56 #[.agg (stC s)] w (fun e w' => e = .returned (.tuple #[mp s, .int .i64 0]) ∧ Below w.heap.size w w') := by
  have hm : ∀ w : World, (method 145 117 (.int .u64 s) "knucklebone/gen.right").run Tryz.prog w = .ok (91, .int .u64 s) w := fun _ => by kernel_rfl
  have hn := nilI s
  have K := Blk.new w (stC s) 106
  have B := below_allocs w (.cells (stC s) 106)
  go_enter Tryz.func56, Tryz.ntmps56
  go_upto_region 1 with fail
  generalize hW : w.alloc _ = W1 at K B ⊢
  go_wp2_with (first | (refine list_load rfl _ rfl rfl K ?_) | fail)
  refine (gPartOf s _).mono ?_
  rintro e V ⟨rfl, hb⟩
  have K2 := Lib.hid (K.below hb)
  have B2 := Lib.hid (below_then B hb)
  clear hW K B hb
  go_wp2_with fail
  refine (pRight s _).mono ?_
  rintro e V2 ⟨rfl, hb⟩
  have K3 := Lib.hid (K2.out.below hb)
  have B3 := Lib.hid (below_then B2.out hb)
  clear hb K2 B2
  go_upto_region 5 with fail
  have hs := sameI s
  refine wp_region_class (fun w' => Below V2.heap.size V2 w') (by kernel_rfl) (by kernel_rfl) (Below.refl _ _).drew ?_
  iterate 5
    (first
     | (refine WQ.yes _ (by rfl) (fun w' hC => quiet_load _ rfl rfl (K3.out.below hC)) ?_)
     | (refine WQ.yes ?_ (by rfl) (fun w' hC => ?_) ?_
        rotate_left
        · (go_simp
           first | done | with_reducible rfl | exact ⟨rfl, rfl⟩ | (go_at_call 57; (with_reducible exact quietG (gWhole s _) hC)))
        (try simp only [Act.put, List.setIfInBounds_toArray, List.set_cons_zero, List.set_cons_succ])))
  refine WQ.nil ?_
  intro wz hX
  have B4 := Lib.hid (below_then B3.out hX)
  clear hX
  go_wp2
  go_returns
  exact ⟨rfl, B4.out⟩

theorem quietN {P : Program} {f : FuncId} {args : Array Value} {W0 w : World} {n : Int} (h : Calls P f args w (fun e w' => e = .returned (.int .i64 n) ∧ Below w.heap.size w w')) (hC : Below W0.heap.size W0 w) :
    Calls P f args w (fun e w'' => e = .returned (.int .i64 n) ∧ Below W0.heap.size W0 w'') := quietOf h hC
/-- A state into memory. -/
theorem list_store {ops : Array Oper} {rest : List Oper} {o : Oper} {a : Act} {w : World} {Q : Exit → Act → World → Prop} {s : Int} {old : Array Value} (hgd : o.guard = none) (x y : Operand) (ho : o.op = .store 106 x y)
    (b : Nat) (hx : a.eval x = .pointer (some ⟨b, 0, none⟩)) (hy : a.eval y = .agg (stC s)) (hs : old.size = 15) (h : Blk 106 w b old)
    (k : ∀ w', Blk 106 w' b (stC s) → (∀ B, B ≤ b → ∀ a0, Below B a0 w → Below B a0 w') → (∀ g, g ≠ b → w'.heap[g]? = w.heap[g]?) → w'.heap.size = w.heap.size → wpList Tryz.prog ops Q rest (a.put o.dst undef) w') : wpList Tryz.prog ops Q (o :: rest) a w := by
  refine wpList_store_row hgd _ x y ho b (stC s) hx hy _ _ h (by kernel_rfl) hs (by simp [stC, Value.oneCell']) (k _ ?_ ?_ ?_ ?_)
  · unfold Blk at h ⊢
    simp [World.setRow, Array.getElem?_modify, h]
  · intro B hB a0 h0
    refine ⟨h0.os, h0.tape, h0.output, ?_, fun g hg => ?_⟩
    · show _ ≤ (w.heap.modify b _).size
      rw [Array.size_modify]; exact h0.size
    · rw [← h0.block g hg]
      show (w.heap.modify b _)[g]? = _
      rw [Array.getElem?_modify, if_neg (by omega)]
  · intro g hg
    show (w.heap.modify b _)[g]? = _
    rw [Array.getElem?_modify, if_neg (Ne.symm hg)]
  · show (w.heap.modify b _).size = _
    rw [Array.size_modify]
theorem res_s {fn : Func} {p : Tmp} (h : fn.results = #[.cell p 106]) (tmps : Array Value) (w : World) (b : Nat) (s : Int) (hp : tmps.getD p undef = .pointer (some ⟨b, 0, none⟩)) (hm : Blk 106 w b (stC s)) :
    (results fn tmps).run Tryz.prog w = .ok (.agg (stC s)) w :=
  results_cell_row h tmps w b _ _ _ _ hp hm Tryz.underlying106 rfl (by kernel_rfl)
theorem res_st {fn : Func} {p u : Tmp} (h : fn.results = #[.cell p 106, .tmp u]) (tmps : Array Value) (w : World) (b : Nat) (s : Int) (hp : tmps.getD p undef = .pointer (some ⟨b, 0, none⟩)) (hm : Blk 106 w b (stC s)) :
    (results fn tmps).run Tryz.prog w = .ok (.tuple #[.agg (stC s), tmps.getD u undef]) w := by
  have hp' : tmps[p]?.getD undef = .pointer (some ⟨b, 0, none⟩) := by simpa using hp
  have e : (loadVar 106 ⟨b, 0, none⟩).run Tryz.prog w = .ok (.agg (stC s)) w := run_loadVar_row w b 106 _ (stC s) (0, 0) _ hm Tryz.underlying106 rfl (by kernel_rfl)
  simp [results, h, hp', asAddr, e]
theorem res_tst {fn : Func} {p u v : Tmp} (h : fn.results = #[.tmp v, .cell p 106, .tmp u]) (tmps : Array Value) (w : World) (b : Nat) (s : Int) (hp : tmps.getD p undef = .pointer (some ⟨b, 0, none⟩)) (hm : Blk 106 w b (stC s)) :
    (results fn tmps).run Tryz.prog w = .ok (.tuple #[tmps.getD v undef, .agg (stC s), tmps.getD u undef]) w := by
  have hp' : tmps[p]?.getD undef = .pointer (some ⟨b, 0, none⟩) := by simpa using hp
  have e : (loadVar 106 ⟨b, 0, none⟩).run Tryz.prog w = .ok (.agg (stC s)) w := run_loadVar_row w b 106 _ (stC s) (0, 0) _ hm Tryz.underlying106 rfl (by kernel_rfl)
  simp [results, h, hp', asAddr, e]
end Go.Proofs.YtkpignbmocpcaaaGreat
