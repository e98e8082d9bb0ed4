/-
  What philox's Out, by, the function that by makes, and row answer.
-/
import Derived.Test.YtdmoedjjbhkdmaaPhXb
import Derived.Deep.OwnRows
namespace Go.Proofs.Ytdmoedjjbhkdmaa
open Go.RowKit
set_option linter.unusedVariables false
set_option maxRecDepth 100000

set_option maxHeartbeats 4000000 in
theorem xOut (x : Bk) (k : Ky) (hx : x.Ok) (hk : k.Ok) : TB 27 #[x.val, k.val] (mixB x k 10) := fun w => by
  have CM : Hid (TE 41 #[x.val, k.val, .int .i64 10] (mixB x k 10) 0) := Lib.hid (xMixY x k hx hk 10 (by decide))
  generalize mixB x k 10 = y at CM ⊢
  have U := B4.new 47 w x.a x.b x.c x.d
  have z1 : (w.alloc (.cells #[.int .u32 (x.a : Int), .int .u32 (x.b : Int), .int .u32 (x.c : Int), .int .u32 (x.d : Int)] 47)).heap.size = w.heap.size + 1 := Array.size_push _
  have L := below_allocs w (.cells #[.int .u32 (x.a : Int), .int .u32 (x.b : Int), .int .u32 (x.c : Int), .int .u32 (x.d : Int)] 47)
  have H1 := Lib.hid (And.intro U (And.intro z1 L))
  clear U z1 L
  go_enter Try.func27, Try.ntmps27
  go_upto_region 1 with fail
  generalize w.alloc _ = V1 at H1 ⊢
  have UX := B2.new 27 V1 k.k k.m
  have z2 : (V1.alloc (.cells #[.int .u32 (k.k : Int), .int .u32 (k.m : Int)] 27)).heap.size = w.heap.size + 1 + 1 := (Array.size_push _).trans (by rw [H1.out.2.1])
  rw [H1.out.2.1] at UX
  have LB := below_allocs V1 (.cells #[.int .u32 (k.k : Int), .int .u32 (k.m : Int)] 27)
  have H2 := Lib.hid (And.intro (H1.out.1.below LB) (And.intro UX (And.intro z2 (below_then H1.out.2.2 LB))))
  clear UX z2 LB H1
  generalize V1.alloc _ = V2 at H2 ⊢
  have UZ := B4.new 47 V2 0 0 0 0
  rw [H2.out.2.2.1] at UZ
  have LB := below_allocs V2 (.cells #[.int .u32 0, .int .u32 0, .int .u32 0, .int .u32 0] 47)
  have HK : Hid (MxSt w w.heap.size (w.heap.size + 1) (w.heap.size + 1 + 1) x k _) := Lib.hid ⟨H2.out.1.below LB, H2.out.2.1.below LB, UZ, below_then H2.out.2.2.2 LB⟩
  clear UZ LB H2
  generalize V2.alloc _ = V4 at HK ⊢
  have Hc : Hid (MxAt w w.heap.size (w.heap.size + 1) (w.heap.size + 1 + 1)) := Lib.hid ⟨by omega, by omega, by omega, by omega, by omega, by omega⟩
  generalize w.heap.size + 1 + 1 = cz at HK Hc ⊢
  generalize w.heap.size + 1 = cn at HK Hc ⊢
  obtain ⟨cb, hcb⟩ : ∃ c, c = w.heap.size := ⟨_, rfl⟩
  rw [← hcb] at HK Hc ⊢
  clear hcb
  obtain ⟨x1, x2, x3, x4⟩ := HK.out.1.cells
  obtain ⟨v1, v2⟩ := HK.out.2.1.cells
  go_wp2_with fail
  refine (CM.out _).mono ?_
  rintro e W1 ⟨rfl, hb⟩
  clear x1 x2 x3 x4 v1 v2
  have HK1 := Lib.hid (HK.out.below hb)
  clear hb HK
  go_upto_region 2 with fail
  have UO := B4.new 47 W1 y.a y.b y.c y.d
  have LB := below_allocs W1 (.cells #[.int .u32 (y.a : Int), .int .u32 (y.b : Int), .int .u32 (y.c : Int), .int .u32 (y.d : Int)] 47)
  have HK2 := Lib.hid (And.intro (HK1.out.below LB) UO)
  clear LB UO HK1
  generalize W1.alloc _ = W2 at HK2 ⊢
  generalize W1.heap.size = co at HK2 ⊢
  have HE := Lib.hid (fun W e => HK2.out.1.end Hc.out y.a y.b y.c y.d W e)
  obtain ⟨x1, x2, x3, x4⟩ := HK2.out.2.cells
  obtain ⟨g1, g2, g3, g4⟩ := HK2.out.1.2.2.1.cells
  obtain ⟨g5, g6, g7, g8⟩ := HK2.out.1.2.2.1.free
  clear HK2
  go_wp2_with fail
  replace HE := Lib.hid (HE.out _ rfl)
  generalize World.setCell (World.setCell (World.setCell (World.setCell W2 _ _) _ _) _ _) _ _ = V9 at HE ⊢
  obtain ⟨r1, r2, r3, r4⟩ := HE.out.1.cells
  try simp only [Exit.inBlock, Exit.then, Exit.noGoto]
  refine bodyPost_ret (by simp [results, Try.results27, go_sem, r1, r2, r3, r4]; try rfl) rfl ?_
  exact ⟨rfl, HE.out.2⟩

/-- A block of one cell. -/
def B1 (t : TypeId) (w : World) (b : Nat) (v : Value) : Prop := w.heap[b]? = some (.cells #[v] t (0, 0))
theorem B1.new (t : TypeId) (w : World) (v : Value) : B1 t (w.alloc (.cells #[v] t)) w.heap.size v := show (w.heap.push _)[w.heap.size]? = some _ by simp
theorem B1.cell {t : TypeId} {w : World} {b : Nat} {v : Value} (h : B1 t w b v) : w.cell? ⟨b, 0, none⟩ = some v ∧ w.frozen? ⟨b, 0, none⟩ = false := by
  unfold B1 at h
  refine ⟨?_, ?_⟩
  · simp [World.cell?, h]
  · simp [World.frozen?, h]
theorem B1.put {t : TypeId} {w : World} {b : Nat} {v : Value} (h : B1 t w b v) (u : Value) : B1 t (w.setCell ⟨b, 0, none⟩ u) b u := by
  unfold B1 at h ⊢
  simp [World.setCell, Array.getElem?_modify, h]
/-- A function that is stored. -/
theorem run_store_func (a : Addr) (fn : Fn) (first cap : Array Value) (m : Mode) (w : World) : (store a (.func fn first cap) m).run Try.prog w = stored Try.prog w a (.func fn first cap) m := run_store Try.prog w a _ m rfl
end Go.Proofs.Ytdmoedjjbhkdmaa
