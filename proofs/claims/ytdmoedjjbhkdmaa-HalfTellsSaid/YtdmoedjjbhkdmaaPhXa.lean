/-
  What philox's Round, Unround and Next answer.
-/
import Derived.Test.YtdmoedjjbhkdmaaPhR
namespace Go.Proofs.Ytdmoedjjbhkdmaa
open Go.RowKit
set_option linter.unusedVariables false
set_option maxRecDepth 100000

/-- A product in full: its high word, its low word. -/
abbrev T2h (f : FuncId) (args : Array Value) (h l : Int) : Prop := ∀ W : World, Calls Try.prog f args W (fun e w' => e = .returned (.tuple #[.int .u32 h, .int .u32 l]) ∧ W = w')
set_option maxHeartbeats 2000000 in
theorem mul32Main (a f P h l : Nat) (hP : Pr a f P h l) (wf : IntKind.u64.wrap (f : Int) = (f : Int)) : T2h 48 #[.int .u32 (a : Int), .int .u32 (f : Int)] (h : Int) (l : Int) := fun w => by
  obtain ⟨p1, p2, p3, p4, p5, p6, p7, p8, p9, pa, pb, pc⟩ := hP
  have s1 : IntKind.u32.wrap (h : Int) = (h : Int) := by rw [IntKind.wrap_u32]; omega
  have s2 : IntKind.u32.wrap (P : Int) = (l : Int) := by rw [IntKind.wrap_u32]; exact p4
  go_enter Try.func48, Try.ntmps48
  go_wp2
  go_ret2
  exact ⟨rfl, rfl⟩
theorem mul32 (a f : Nat) (ha : a < 4294967296) (hf : f < 4294967296) : T2h 48 #[.int .u32 (a : Int), .int .u32 (f : Int)] ((hiF a f : Nat) : Int) ((loF a f : Nat) : Int) :=
  mul32Main a f _ _ _ (pr_of ha hf) (by rw [IntKind.wrap_u64]; omega)
set_option maxHeartbeats 4000000 in
theorem xroundMain (a b c d k m hp lp hq lq y0 y1 y2 y3 : Nat) (w : World) (CP : Hid (T2h 48 #[.int .u32 (a : Int), .int .u32 3528531795] (hp : Int) (lp : Int))) (CQ : Hid (T2h 48 #[.int .u32 (c : Int), .int .u32 3449720151] (hq : Int) (lq : Int)))
    (e0 : bits .xor .u32 (hq : Int) (b : Int) = (y0 : Int)) (e1 : bits .xor .u32 (y0 : Int) (k : Int) = (y1 : Int)) (e2 : bits .xor .u32 (hp : Int) (d : Int) = (y2 : Int)) (e3 : bits .xor .u32 (y2 : Int) (m : Int) = (y3 : Int)) :
    Calls Try.prog 46 #[.agg #[.int .u32 (a : Int), .int .u32 (b : Int), .int .u32 (c : Int), .int .u32 (d : Int)], .agg #[.int .u32 (k : Int), .int .u32 (m : Int)]] w (fun e w' => e = .returned (.agg #[.int .u32 (y1 : Int), .int .u32 (lq : Int), .int .u32 (y3 : Int), .int .u32 (lp : Int)]) ∧ Below w.heap.size w w') := by
  have U := B4.new 47 w a b c d
  have z1 : (w.alloc (.cells #[.int .u32 (a : Int), .int .u32 (b : Int), .int .u32 (c : Int), .int .u32 (d : Int)] 47)).heap.size = w.heap.size + 1 := Array.size_push _
  have L := below_allocs w (.cells #[.int .u32 (a : Int), .int .u32 (b : Int), .int .u32 (c : Int), .int .u32 (d : Int)] 47)
  have H1 := Lib.hid (And.intro U (And.intro z1 L))
  clear U z1 L
  go_enter Try.func46, Try.ntmps46
  go_upto_region 1 with fail
  generalize w.alloc _ = V1 at H1 ⊢
  have UX := B2.new 27 V1 k m
  have z2 : (V1.alloc (.cells #[.int .u32 (k : Int), .int .u32 (m : Int)] 27)).heap.size = w.heap.size + 1 + 1 := (Array.size_push _).trans (by rw [H1.out.2.1])
  rw [H1.out.2.1] at UX
  have LB := below_allocs V1 (.cells #[.int .u32 (k : Int), .int .u32 (m : Int)] 27)
  have H2 := Lib.hid (And.intro (H1.out.1.below LB) (And.intro UX (And.intro z2 (below_then H1.out.2.2 LB))))
  clear UX z2 LB H1
  generalize V1.alloc _ = V2 at H2 ⊢
  have UZ := B4.new 47 V2 0 0 0 0
  rw [H2.out.2.2.1] at UZ
  have LB := below_allocs V2 (.cells #[.int .u32 0, .int .u32 0, .int .u32 0, .int .u32 0] 47)
  have HK := Lib.hid (And.intro (H2.out.1.below LB) (And.intro UZ (And.intro (H2.out.2.1.below LB) (below_then H2.out.2.2.2 LB))))
  clear UZ LB H2
  generalize V2.alloc _ = V4 at HK ⊢
  have hc : w.heap.size ≤ w.heap.size + 1 + 1 := Nat.le_trans (Nat.le_succ _) (Nat.le_succ _)
  generalize w.heap.size + 1 + 1 = cz at HK hc ⊢
  generalize w.heap.size + 1 = cn at HK ⊢
  have HR := Lib.hid (B4.put (p' := (y1 : Int)) (q' := (lq : Int)) (r' := (y3 : Int)) (s' := (lp : Int)) HK.out.2.1)
  have HB := Lib.hid (below_put4 HK.out.2.2.2 hc (.int .u32 (y1 : Int)) (.int .u32 (lq : Int)) (.int .u32 (y3 : Int)) (.int .u32 (lp : Int)))
  obtain ⟨x1, x2, x3, x4⟩ := HK.out.1.cells
  obtain ⟨v1, v2⟩ := HK.out.2.2.1.cells
  obtain ⟨g1, g2, g3, g4⟩ := HK.out.2.1.cells
  obtain ⟨g5, g6, g7, g8⟩ := HK.out.2.1.free
  clear HK
  go_wp2_with fail
  refine (CP.out _).mono ?_
  rintro e W1 ⟨rfl, rfl⟩
  go_wp2_with fail
  refine (CQ.out _).mono ?_
  rintro e W1 ⟨rfl, rfl⟩
  go_wp2_with fail
  generalize World.setCell (World.setCell (World.setCell (World.setCell V4 _ _) _ _) _ _) _ _ = V9 at HR HB ⊢
  obtain ⟨r1, r2, r3, r4⟩ := HR.out.cells
  try simp only [Exit.inBlock, Exit.then, Exit.noGoto]
  refine bodyPost_ret (by simp [results, Try.results46, go_sem, r1, r2, r3, r4]; try rfl) rfl ?_
  exact ⟨rfl, HB.out⟩
theorem xRound (x : Bk) (k : Ky) (hx : x.Ok) (hk : k.Ok) : TB 46 #[x.val, k.val] (roundB x k) := fun w => by
  have h1 := hiF_lt hx.c (show f2 < 4294967296 by decide)
  have h2 := hiF_lt hx.a (show f1 < 4294967296 by decide)
  exact xroundMain x.a x.b x.c x.d k.k k.m _ _ _ _ _ _ _ _ w (Lib.hid (mul32 x.a f1 hx.a (by decide))) (Lib.hid (mul32 x.c f2 hx.c (by decide))) (xr32 h1 hx.b) (xr32 (Nat.xor_lt_two_pow (n := 32) h1 hx.b) hk.k) (xr32 h2 hx.d) (xr32 (Nat.xor_lt_two_pow (n := 32) h2 hx.d) hk.m)
theorem w32 (x u : Nat) : IntKind.u32.wrap ((x : Int) * (u : Int)) = ((loF x u : Nat) : Int) := by
  rw [IntKind.wrap_u32, ← Int.natCast_mul]
  unfold loF
  rw [Int.natCast_emod]
  rfl
set_option maxHeartbeats 4000000 in
theorem xNext (k : Ky) (hk : k.Ok) : TK 47 #[k.val] (nextK k) := fun w => by
  obtain ⟨k, m⟩ := k
  have l1 : k < 4294967296 := hk.k
  have l2 : m < 4294967296 := hk.m
  obtain ⟨y0, h0⟩ : ∃ y, (k + 2654435769) % 4294967296 = y := ⟨_, rfl⟩
  obtain ⟨y1, h1⟩ : ∃ y, (m + 3144134277) % 4294967296 = y := ⟨_, rfl⟩
  have e0 : IntKind.u32.wrap ((k : Int) + 2654435769) = (y0 : Int) := by rw [IntKind.wrap_u32]; omega
  have e1 : IntKind.u32.wrap ((m : Int) + 3144134277) = (y1 : Int) := by rw [IntKind.wrap_u32]; omega
  have hy : nextK ⟨k, m⟩ = ⟨y0, y1⟩ := by unfold nextK; rw [h0, h1]
  rw [hy]
  clear hy h0 h1 l1 l2 hk
  show Calls _ _ #[.agg #[.int .u32 (k : Int), .int .u32 (m : Int)]] w (fun e w' => e = .returned (.agg #[.int .u32 (y0 : Int), .int .u32 (y1 : Int)]) ∧ Below w.heap.size w w')
  have U := B2.new 27 w k m
  have z1 : (w.alloc (.cells #[.int .u32 (k : Int), .int .u32 (m : Int)] 27)).heap.size = w.heap.size + 1 := Array.size_push _
  have L := below_allocs w (.cells #[.int .u32 (k : Int), .int .u32 (m : Int)] 27)
  have H1 := Lib.hid (And.intro U (And.intro z1 L))
  clear U z1 L
  go_enter Try.func47, Try.ntmps47
  go_upto_region 1 with fail
  generalize w.alloc _ = V1 at H1 ⊢
  have UZ := B2.new 27 V1 0 0
  rw [H1.out.2.1] at UZ
  have LB := below_allocs V1 (.cells #[.int .u32 0, .int .u32 0] 27)
  have HK := Lib.hid (And.intro (H1.out.1.below LB) (And.intro UZ (below_then H1.out.2.2 LB)))
  clear UZ LB H1
  generalize V1.alloc _ = V4 at HK ⊢
  have hc : w.heap.size ≤ w.heap.size + 1 := Nat.le_succ _
  generalize w.heap.size + 1 = cz at HK hc ⊢
  have HR := Lib.hid (B2.put (p' := (y0 : Int)) (q' := (y1 : Int)) HK.out.2.1)
  have HB := Lib.hid (below_put2 HK.out.2.2 hc (.int .u32 (y0 : Int)) (.int .u32 (y1 : Int)))
  obtain ⟨x1, x2⟩ := HK.out.1.cells
  obtain ⟨g1, g2⟩ := HK.out.2.1.cells
  obtain ⟨g5, g6⟩ := HK.out.2.1.free
  clear HK
  go_wp2_with fail
  generalize World.setCell (World.setCell V4 _ _) _ _ = V9 at HR HB ⊢
  obtain ⟨r1, r2⟩ := HR.out.cells
  try simp only [Exit.inBlock, Exit.then, Exit.noGoto]
  refine bodyPost_ret (by simp [results, Try.results47, go_sem, r1, r2]; try rfl) rfl ?_
  exact ⟨rfl, HB.out⟩
end Go.Proofs.Ytdmoedjjbhkdmaa
