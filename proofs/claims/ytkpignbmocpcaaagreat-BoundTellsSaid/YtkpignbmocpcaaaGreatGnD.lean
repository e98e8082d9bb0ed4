/-
  What the calls Jump, Step and Limit of package gen answer for a state of the kind Mix.
-/
import Derived.Test.YtkpignbmocpcaaaGreatGnC
namespace Go.Proofs.YtkpignbmocpcaaaGreat
open Go.RowKit
set_option linter.unusedVariables false
set_option maxRecDepth 100000

/-- A state whose words are all 0, as no kind's. -/
def stZ : Array Value := #[.int .i64 0, .int .u64 0, .int .u64 0, .int .u64 0, .int .u64 0, .int .u64 0, .int .u64 0, .int .u64 0, .int .u64 0, .int .u64 0, .int .u64 0, .int .u64 0, .int .u32 0, .int .u32 0, .bool false]
/-- A state beside an empty one. -/
structure Two (w : World) (s : Int) (W : World) : Prop where
  k : Blk 106 W w.heap.size (stC s)
  z : Blk 106 W (w.heap.size + 1) stZ
  b : Below w.heap.size w W
theorem Two.new (w : World) (s : Int) : Two w s ((w.alloc (.cells (stC s) 106)).alloc (.cells stZ 106)) := by
  have K0 := (Blk.new w (stC s) 106).below (below_allocs _ (.cells stZ 106))
  have K1 := Blk.new (w.alloc (.cells (stC s) 106)) stZ 106
  have B1 := below_allocs (w.alloc (.cells (stC s) 106)) (.cells stZ 106)
  simp only [World.size_alloc] at K0 K1 B1
  exact ⟨K0, K1, (below_allocs _ _).trans (B1.mono (Nat.le_succ _))⟩
theorem Two.below {w W W' : World} {s : Int} (h : Two w s W) (hb : Below W.heap.size W W') : Two w s W' := ⟨h.k.below hb, h.z.below hb, below_then h.b hb⟩
set_option maxHeartbeats 1000000 in
theorem gStep (s : Nat) (w : World) : Calls Tryz.prog 53 #[.agg (stC s)] w (fun e w' => e = .returned (.agg (stC ((stepN s : Nat) : Int))) ∧ Below w.heap.size w w') := by
  have hm : ∀ w : World, (method 145 117 (.int .u64 s) "knucklebone/gen.step").run Tryz.prog w = .ok (92, .int .u64 s) w := fun _ => by kernel_rfl
  have K := Two.new w s
  unfold stZ at K
  go_enter Tryz.func53, Tryz.ntmps53
  go_upto_region 1 with fail
  generalize (w.alloc (.cells (stC s) _)).alloc _ = W1 at K ⊢
  go_wp2_with (first | (refine list_load rfl _ rfl rfl K.k ?_) | fail)
  refine (gChecked s _).mono ?_
  rintro e V ⟨rfl, hb⟩
  have K2 := Lib.hid (K.below hb)
  clear K hb
  go_wp2_with fail
  refine (pStep s _).mono ?_
  rintro e V ⟨rfl, hb⟩
  have K3 := Lib.hid (K2.out.below hb)
  clear K2 hb
  go_wp2_with fail
  refine (gWhole ((stepN s : Nat) : Int) _).mono ?_
  rintro e V ⟨rfl, hb⟩
  have K4 := Lib.hid (K3.out.below hb)
  clear K3 hb
  go_wp2_with (first | (refine list_store rfl _ _ rfl (w.heap.size + 1) rfl rfl rfl K4.out.z ?_; intro w5 N0 NL NF NS; have B5 := NL _ (Nat.le_succ _) _ K4.out.b; clear K4 NL NF NS) | fail)
  exact bodyPost_ret (res_s Tryz.results53 _ _ (w.heap.size + 1) _ rfl N0) rfl ⟨rfl, B5⟩
/-- A state, a number and an empty state. -/
structure Three (w : World) (s a l : Int) (W : World) : Prop where
  k : Blk 106 W w.heap.size (stC s)
  u : Blk 31 W (w.heap.size + 1) #[.int .u64 a, .int .u64 l]
  z : Blk 106 W (w.heap.size + 2) stZ
  b : Below w.heap.size w W
theorem Three.new (w : World) (s a l : Int) : Three w s a l (((w.alloc (.cells (stC s) 106)).alloc (.cells #[.int .u64 a, .int .u64 l] 31)).alloc (.cells stZ 106)) := by
  have K0 := Blk.new w (stC s) 106
  have B0 := below_allocs w (.cells (stC s) 106)
  generalize hW : w.alloc (.cells (stC s) 106) = W0 at K0 B0 ⊢
  have e0 : W0.heap.size = w.heap.size + 1 := by rw [← hW]; exact Array.size_push _
  have K1 := Blk.new W0 #[.int .u64 a, .int .u64 l] 31
  have B1 := below_allocs W0 (.cells #[.int .u64 a, .int .u64 l] 31)
  generalize hV : W0.alloc (.cells #[.int .u64 a, .int .u64 l] 31) = W1 at K1 B1 ⊢
  have e1 : W1.heap.size = W0.heap.size + 1 := by rw [← hV]; exact Array.size_push _
  have K2 := Blk.new W1 stZ 106
  have B2 := below_allocs W1 (.cells stZ 106)
  rw [e1] at K2
  have k1 := K1.below B2
  have k0 := (K0.below B1).below B2
  rw [e0] at K2 k1
  exact ⟨k0, k1, K2, below_then (below_then B0 B1) B2⟩
theorem Three.below {w W W' : World} {s a l : Int} (h : Three w s a l W) (hb : Below W.heap.size W W') : Three w s a l W' := ⟨h.k.below hb, h.u.below hb, h.z.below hb, below_then h.b hb⟩
set_option maxHeartbeats 1000000 in
theorem gJump (s : Nat) (h : s < 18446744073709551616) (a : Int) (l : Nat) (w : World) : Calls Tryz.prog 48 #[.agg (stC s), .agg #[.int .u64 a, .int .u64 l]] w (fun e w' => e = .returned (.tuple #[.agg (stC ((jumpN s l : Nat) : Int)), .int .i64 0]) ∧ Below w.heap.size w w') := by
  have hm : ∀ w : World, (method 145 117 (.int .u64 s) "knucklebone/gen.jump").run Tryz.prog w = .ok (88, .int .u64 s) w := fun _ => by kernel_rfl
  have K := Three.new w s a l
  unfold stZ at K
  go_enter Tryz.func48, Tryz.ntmps48
  go_upto_region 1 with fail
  generalize ((w.alloc (.cells (stC s) _)).alloc _).alloc _ = W1 at K ⊢
  go_wp2_with (first | (refine list_load rfl _ rfl rfl K.k ?_) | fail)
  refine (gChecked s _).mono ?_
  rintro e V ⟨rfl, hb⟩
  have K2 := Lib.hid (K.below hb)
  clear K hb
  have x0 := K2.out.u.cell 0 _ rfl
  have x1 := K2.out.u.cell 1 _ rfl
  go_wp2_with fail
  refine (pJump s h a l _).mono ?_
  rintro e V ⟨rfl, hb⟩
  have K3 := Lib.hid (K2.out.below hb)
  clear K2 hb x0 x1
  go_wp2_with fail
  refine (gWhole ((jumpN s l : Nat) : Int) _).mono ?_
  rintro e V ⟨rfl, hb⟩
  have K4 := Lib.hid (K3.out.below hb)
  clear K3 hb
  go_wp2_with (first | (refine list_store rfl _ _ rfl (w.heap.size + 2) rfl rfl rfl K4.out.z ?_; intro w5 N0 NL NF NS; have B5 := NL _ (by omega) _ K4.out.b; clear K4 NL NF NS) | fail)
  exact bodyPost_ret (res_st Tryz.results48 _ _ (w.heap.size + 2) _ rfl N0) rfl ⟨rfl, B5⟩
theorem cOne (w : World) : Calls Tryz.prog 10 #[.int .u64 1] w (fun e w' => e = .returned (.agg #[.int .u64 0, .int .u64 1]) ∧ Below w.heap.size w w') := by
  have h := cOf 1 1 rfl (by decide) w
  unfold AnsW at h
  rwa [show ((hiW 1 : Nat) : Int) = 0 from rfl, show ((loW 1 : Nat) : Int) = 1 from rfl] at h
theorem cEight (w : World) : Calls Tryz.prog 10 #[.int .u64 8] w (fun e w' => e = .returned (.agg #[.int .u64 0, .int .u64 8]) ∧ Below w.heap.size w w') := by
  have h := cOf 8 8 rfl (by decide) w
  unfold AnsW at h
  rwa [show ((hiW 8 : Nat) : Int) = 0 from rfl, show ((loW 8 : Nat) : Int) = 8 from rfl] at h
theorem cLeft63 (w : World) : Calls Tryz.prog 46 #[.agg #[.int .u64 0, .int .u64 1], .int .i64 63] w (fun e w' => e = .returned (.agg #[.int .u64 0, .int .u64 9223372036854775808]) ∧ Below w.heap.size w w') := by
  refine (Wd.wLeft 0 1 63 (by decide) (by decide) (by decide) (by decide) _).mono ?_
  rintro e V ⟨p, q, ⟨h0, h1, h2, h3, h4⟩, rfl, hb⟩
  have e5 : ((0 : Int) * 18446744073709551616 + 1) * 2 ^ (63 : Int).toNat % 340282366920938463463374607431768211456 = 9223372036854775808 := by decide
  rw [e5] at h4
  obtain rfl : p = 0 := by omega
  obtain rfl : q = 9223372036854775808 := by omega
  exact ⟨rfl, hb⟩
/-- The limit of the kind Mix. -/
theorem gLimit (w : World) : Calls Tryz.prog 34 #[.int .i64 1] w (fun e w' => e = .returned (.agg #[.int .u64 0, .int .u64 9223372036854775808]) ∧ Below w.heap.size w w') := by
  have hm : ∀ w : World, (method 145 117 (.int .u64 0) "knucklebone/gen.limit").run Tryz.prog w = .ok (89, .int .u64 0) w := fun _ => by kernel_rfl
  have hn := nilI 0
  have C1 := gPartOf 0
  unfold stC at C1
  have K := Lib.hid (And.intro (UB.new w 0 0 31) (below_allocs w (.cells #[.int .u64 0, .int .u64 0] 31)))
  go_enter Tryz.func34, Tryz.ntmps34
  go_wp2_with fail
  refine (C1 _).mono ?_
  rintro e V ⟨rfl, hb⟩
  have K2 := Lib.hid (And.intro (K.out.1.below hb) (below_then K.out.2 hb))
  clear K hb C1
  go_wp2_with fail
  refine (cOne _).mono ?_
  rintro e V ⟨rfl, hb⟩
  have K3 := Lib.hid (And.intro (K2.out.1.below hb) (below_then K2.out.2 hb))
  clear K2 hb
  go_wp2_with fail
  refine (pLimit 0 _).mono ?_
  rintro e V ⟨rfl, hb⟩
  have K4 := Lib.hid (And.intro (K3.out.1.below hb) (below_then K3.out.2 hb))
  clear K3 hb
  go_wp2_with fail
  refine (cLeft63 _).mono ?_
  rintro e V ⟨rfl, hb⟩
  have K5 := K4.out.1.below hb
  have HR := Lib.hid (UB.put (p' := 0) (q' := 9223372036854775808) K5)
  have HB := Lib.hid (below_put2 (below_then K4.out.2 hb) (Nat.le_refl w.heap.size) (.int .u64 0) (.int .u64 9223372036854775808))
  obtain ⟨f1, f2⟩ := K5.free
  obtain ⟨z1, z2⟩ := K5.cells
  clear hb K4 K5
  go_wp2_with fail
  generalize World.setCell (World.setCell V _ _) _ _ = V5 at HR HB ⊢
  obtain ⟨r1, r2⟩ := HR.out.cells
  refine bodyPost_ret (by simp [results, Tryz.results34, go_sem, r1, r2]; try rfl) rfl ?_
  exact ⟨rfl, HB.out⟩
end Go.Proofs.YtkpignbmocpcaaaGreat
