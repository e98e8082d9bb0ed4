/-
  What the calls of package gen answer for a state of the kind Mix: partOf, whole, checked, and the parts' own methods.
-/
import Derived.Test.YtkpignbmocpcaaaGreatGnA
import Derived.Deep.MidRow
namespace Go.Proofs.YtkpignbmocpcaaaGreat
open Go.RowKit
set_option linter.unusedVariables false
set_option maxRecDepth 100000

/-- A state of the kind Mix, as its cells. -/
def stC (s : Int) : Array Value := #[.int .i64 1, .int .u64 s, .int .u64 0, .int .u64 0, .int .u64 0, .int .u64 0, .int .u64 0, .int .u64 0, .int .u64 0, .int .u64 0, .int .u64 0, .int .u64 0, .int .u32 0, .int .u32 0, .bool false]
/-- A block and its cells. -/
def Blk (t : TypeId) (w : World) (b : Nat) (cs : Array Value) : Prop := w.heap[b]? = some (.cells cs t (0, 0))
section
variable {t : TypeId} {w w' : World} {b : Nat} {cs : Array Value}
theorem Blk.lt (h : Blk t w b cs) : b < w.heap.size := (Array.getElem?_eq_some_iff.1 h).1
theorem Blk.below (h : Blk t w b cs) (hb : Below w.heap.size w w') : Blk t w' b cs := (hb.block b h.lt).trans h
theorem Blk.new (w : World) (cs : Array Value) (t : TypeId) : Blk t (w.alloc (.cells cs t)) w.heap.size cs := show (w.heap.push _)[w.heap.size]? = some _ by simp
theorem Blk.far (h : Blk t w b cs) {a : Addr} (hne : b ≠ a.block) (u : Value) : Blk t (w.setCell a u) b cs := (Below.heap_setCell w a u b hne).trans h
theorem Blk.cell (h : Blk t w b cs) (i : Nat) (v : Value) (hi : cs[i]? = some v) : w.cell? ⟨b, i, none⟩ = some v := by
  unfold Blk at h
  simp [World.cell?, h, hi]
theorem Blk.free (h : Blk t w b cs) (i : Nat) : w.frozen? ⟨b, i, none⟩ = false := by
  unfold Blk at h
  simp [World.frozen?, h]
theorem Blk.set (h : Blk t w b cs) (i : Nat) (v : Value) : Blk t (w.setCell ⟨b, i, none⟩ v) b (cs.setIfInBounds i v) := by
  unfold Blk at h ⊢
  simp [World.setCell, Array.getElem?_modify, h]
end
/-- A state out of memory. -/
theorem loadS {w : World} {b : Nat} {s : Int} (h : Blk 106 w b (stC s)) : (Instr.loadAt 106 (.pointer (some ⟨b, 0, none⟩))).run Tryz.prog w = .ok (.agg (stC s)) w := by
  have := run_loadAt_mid (P := Tryz.prog) w b 0 106 (stC s).toList _ (fun j v hv => by rw [Nat.zero_add]; exact h.cell j v (by simpa using hv)) Tryz.underlying106 rfl (by kernel_rfl)
  simpa using this
abbrev mp (s : Int) : Value := .iface 117 (.int .u64 s)
theorem gPartOf (s : Int) (w : World) : Calls Tryz.prog 45 #[.agg (stC s)] w (fun e w' => e = .returned (mp s) ∧ Below w.heap.size w w') := by
  unfold stC mp
  go_enter Tryz.func45, Tryz.ntmps45
  go_wp2
  go_ret
  exact ⟨rfl, below_allocs _ _⟩
theorem pRight (s : Int) (w : World) : Calls Tryz.prog 91 #[.int .u64 s] w (fun e w' => e = .returned (.bool true) ∧ Below w.heap.size w w') := by
  go_enter Tryz.func91, Tryz.ntmps91
  go_wp2
  go_ret
  exact ⟨rfl, Below.refl _ _⟩
theorem pLimit (s : Int) (w : World) : Calls Tryz.prog 89 #[.int .u64 s] w (AnsI 63 w) := by
  go_enter Tryz.func89, Tryz.ntmps89
  go_wp2
  go_ret
  exact ⟨rfl, Below.refl _ _⟩
theorem pStep (s : Nat) (w : World) : Calls Tryz.prog 92 #[.int .u64 s] w (fun e w' => e = .returned (mp ((stepN s : Nat) : Int)) ∧ Below w.heap.size w w') := by
  unfold mp
  go_enter Tryz.func92, Tryz.ntmps92
  go_wp2_with fail
  refine (cStep s _).mono ?_
  rintro e V ⟨rfl, rfl⟩
  go_wp2
  go_ret
  exact ⟨rfl, Below.refl _ _⟩
theorem pWord (s : Nat) (h : s < 18446744073709551616) (w : World) : Calls Tryz.prog 94 #[.int .u64 s] w (AnsN (mixN (stepN s)) w) := by
  go_enter Tryz.func94, Tryz.ntmps94
  go_wp2_with fail
  refine (cWord s h _).mono ?_
  rintro e V ⟨rfl, hb⟩
  have HB := Lib.hid hb
  clear hb
  go_wp2
  go_ret
  exact ⟨rfl, HB.out⟩
theorem pJump (s : Nat) (h : s < 18446744073709551616) (a : Int) (l : Nat) (w : World) : Calls Tryz.prog 88 #[.int .u64 s, .agg #[.int .u64 a, .int .u64 l]] w (fun e w' => e = .returned (mp ((jumpN s l : Nat) : Int)) ∧ Below w.heap.size w w') := by
  unfold mp
  go_enter Tryz.func88, Tryz.ntmps88
  go_wp2_with fail
  refine (cJump s h a l _).mono ?_
  rintro e V ⟨rfl, hb⟩
  have HB := Lib.hid (below_then (below_allocs _ _) hb)
  clear hb
  go_wp2
  go_ret
  exact ⟨rfl, HB.out⟩
theorem gWhole (s : Int) (w : World) : Calls Tryz.prog 57 #[mp s] w (fun e w' => e = .returned (.agg (stC s)) ∧ Below w.heap.size w w') := by
  have ha : ∀ w : World, (Instr.typeAssert (.iface 117 (.int .u64 s)) 97 117 true).run Tryz.prog w = .ok (.tuple #[.int .u64 s, .bool true]) w := fun _ => by kernel_rfl
  unfold mp stC
  go_enter Tryz.func57, Tryz.ntmps57
  go_wp2
  go_returns
  exact ⟨rfl, below_allocs _ _⟩
theorem sameX (w : World) : Sem.run Tryz.prog (Op.equalIn 9999 99 (.agg #[.int .u64 0, .int .u64 0, .int .u64 0, .int .u64 0]) (.agg #[.int .u64 0, .int .u64 0, .int .u64 0, .int .u64 0])) w = .ok true w := by kernel_rfl
theorem sameK (w : World) : Sem.run Tryz.prog (Op.equalIn 9998 102 (.agg #[.int .u32 0, .int .u32 0]) (.agg #[.int .u32 0, .int .u32 0])) w = .ok true w := by kernel_rfl
theorem sameI (s : Int) (w : World) : Sem.run Tryz.prog (Op.equalIn 10000 106 (.agg (stC s)) (.agg (stC s))) w = .ok true w := by
  unfold stC
  go_simp
  simp only [sameX, sameK, Result.andThen_ok]
  rfl
section
variable {ops : Array Oper} {rest : List Oper} {o : Oper} {a : Act} {w : World} {Q : Exit → Act → World → Prop} {b : Nat} {s : Int}
theorem list_load (hgd : o.guard = none) (x : Operand) (ho : o.op = .load 106 x) (hx : a.eval x = .pointer (some ⟨b, 0, none⟩)) (h : Blk 106 w b (stC s)) (k : wpList Tryz.prog ops Q rest (a.put o.dst (.agg (stC s))) w) : wpList Tryz.prog ops Q (o :: rest) a w :=
  wpList_load_row hgd _ x ho b hx _ _ _ _ h Tryz.underlying106 rfl (by kernel_rfl) k
theorem quiet_load {C : World → Prop} (x : Operand) (ho : o.op = .load 106 x) (hx : a.eval x = .pointer (some ⟨b, 0, none⟩)) (h : Blk 106 w b (stC s)) : o.quietAt Tryz.prog a C w (.agg (stC s)) := by
  have e := loadS h
  simp only [Instr.loadAt, Instr.sureAddr, Sem.run_bind, Sem.run_pure, Result.andThen_ok] at e
  unfold Oper.quietAt execOp
  simp only [ho, hx, Instr.loadAt, Instr.sureAddr, Sem.run_bind, Sem.run_pure, Result.andThen_ok, e]
  exact ⟨rfl, rfl⟩
end
end Go.Proofs.YtkpignbmocpcaaaGreat
