/-
  What pcg's Right, Map, along, Step, Back and Jump answer. Made by wip/gen/pcgx.py.
-/
import Derived.Test.YthnmekieanndgaaAffX
import Derived.Test.YthnmekieanndgaaPcgTellsV
namespace Go.Proofs.Ythnmekieanndgaa
open Go.RowKit G
set_option linter.unusedVariables false
set_option maxRecDepth 100000

set_option maxHeartbeats 2000000 in
theorem prightMain (s0 s1 i0 : Int) (l o : Nat) (hl : l < 18446744073709551616) (ho : l ||| 1 = o) (b : Bool) (hd : decide (l = o) = b) (w : World) :
    Calls Try.prog 14 #[.agg #[.int .u64 s0, .int .u64 s1, .int .u64 i0, .int .u64 (l : Int)]] w (fun e w' => e = .returned (.bool b) ∧ Below w.heap.size w w') := by
  have e0 : bits .or .u64 (l : Int) 1 = (o : Int) := by rw [← ho]; exact u64_or_nat l 1 hl (by decide)
  clear ho
  have U := K4.new 26 w s0 s1 i0 l
  have L := below_allocs w (.cells #[.int .u64 s0, .int .u64 s1, .int .u64 i0, .int .u64 (l : Int)] 26)
  have HK := Lib.hid (And.intro U L)
  clear U L
  go_enter Try.func14, Try.ntmps14
  go_upto_region 1 with fail
  generalize w.alloc _ = V1 at HK ⊢
  obtain ⟨x1, x2, x3, x4⟩ := HK.out.1.cells
  go_upto_region 2 with fail
  have LB := below_allocs V1 (.cells #[.int .u64 s0, .int .u64 s1, .int .u64 i0, .int .u64 (l : Int)] 26)
  have UN := K4.new 26 V1 s0 s1 i0 l
  have HK2 := Lib.hid (And.intro (HK.out.1.below LB) (And.intro UN (And.intro (below_then HK.out.2 LB) (And.intro (Nat.ne_of_lt HK.out.1.lt) (below_then HK.out.2 (Below.refl _ _)).size))))
  clear LB UN HK x1 x2 x3 x4
  generalize V1.alloc _ = V2 at HK2 ⊢
  generalize V1.heap.size = cn at HK2 ⊢
  obtain ⟨y1, y2, y3, y4⟩ := HK2.out.2.1.cells
  obtain ⟨f1, f2, f3, f4⟩ := HK2.out.2.1.free
  go_upto_region 3 with fail
  have Z := HK2.out.2.1.set3 (o : Int)
  have S := HK2.out.1.far (a := ⟨cn, 3, none⟩) HK2.out.2.2.2.1 (.int .u64 (o : Int))
  have hB : Hid (Below w.heap.size w (V2.setCell ⟨cn, 3, none⟩ (.int .u64 (o : Int)))) := Lib.hid (HK2.out.2.2.1.setCell HK2.out.2.2.2.2 _)
  clear HK2 y1 y2 y3 y4 f1 f2 f3 f4
  generalize World.setCell V2 _ _ = V3 at Z S hB ⊢
  obtain ⟨y1, y2, y3, y4⟩ := Z.cells
  obtain ⟨x1, x2, x3, x4⟩ := S.cells
  clear Z S
  by_cases h : l = o
  · have h' : (l : Int) = (o : Int) := by omega
    obtain rfl : b = true := by rw [← hd]; exact decide_eq_true h
    go_wp2
    go_ret
    exact ⟨rfl, hB.out⟩
  · have h' : ¬ (l : Int) = (o : Int) := by omega
    obtain rfl : b = false := by rw [← hd]; exact decide_eq_false h
    go_wp2
    go_ret
    exact ⟨rfl, hB.out⟩
theorem xRightP (s : Ps) (W : World) (hs : s.Ok) : Calls Try.prog 14 #[s.val] W (fun e w' => e = .returned (.bool (decide (s.I % 2 = 1))) ∧ Below W.heap.size W w') := by
  have h := prightMain ((hiW s.S : Nat) : Int) ((loW s.S : Nat) : Int) ((hiW s.I : Nat) : Int) (loW s.I) _ (loW_lt _) rfl _ rfl W
  have e : decide (loW s.I = loW s.I ||| 1) = decide (s.I % 2 = 1) := by
    have o := or_one (loW s.I)
    have m : loW s.I % 2 = s.I % 2 := by unfold loW; omega
    rw [o]
    apply decide_eq_decide.2
    split <;> omega
  rwa [e] at h
set_option maxHeartbeats 4000000 in
theorem pmapMain (s0 s1 i0 i1 : Int) (O : Hid (TN 17 #[.int .u64 15750249268501108917] 0 15750249268501108917)) : TM 24 #[.agg #[.int .u64 s0, .int .u64 s1, .int .u64 i0, .int .u64 i1]] 0 15750249268501108917 i0 i1 := fun w => by
  have U := K4.new 26 w s0 s1 i0 i1
  have z1 : (w.alloc (.cells #[.int .u64 s0, .int .u64 s1, .int .u64 i0, .int .u64 i1] 26)).heap.size = w.heap.size + 1 := Array.size_push _
  have L := below_allocs w (.cells #[.int .u64 s0, .int .u64 s1, .int .u64 i0, .int .u64 i1] 26)
  have H1 := Lib.hid (And.intro U (And.intro z1 L))
  clear U z1 L
  go_enter Try.func24, Try.ntmps24
  go_upto_region 1 with fail
  generalize w.alloc _ = V1 at H1 ⊢
  have UZ := K4.new 55 V1 0 0 0 0
  rw [H1.out.2.1] at UZ
  have LB := below_allocs V1 (.cells #[.int .u64 0, .int .u64 0, .int .u64 0, .int .u64 0] 55)
  have HK := Lib.hid (And.intro (H1.out.1.below LB) UZ)
  have HW := Lib.hid (below_then H1.out.2.2 LB)
  clear UZ LB H1
  generalize V1.alloc _ = V4 at HK HW ⊢
  have hc : w.heap.size ≤ w.heap.size + 1 := Nat.le_succ _
  have n1 : w.heap.size ≠ w.heap.size + 1 := by omega
  generalize w.heap.size + 1 = cz at HK hc n1 ⊢
  have n3 := n1.symm
  obtain ⟨cs, hcs⟩ : ∃ cs, cs = w.heap.size := ⟨_, rfl⟩
  rw [← hcs] at HK n1 n3 ⊢
  clear hcs
  go_cut [] (fun wr => K4 55 wr cz 0 15750249268501108917 i0 i1 ∧ Below w.heap.size w wr)
  case first =>
    have hX : Below V4.heap.size V4 V4 := Below.refl _ _
    obtain ⟨f00, f01, f02, f03⟩ := (HK.out.1.below hX).cells; have l0 : cs < V4.heap.size := (HK.out.1.below hX).lt; obtain ⟨g0, g1, g2, g3⟩ := (HK.out.2.below hX).cells; obtain ⟨g4, g5, g6, g7⟩ := (HK.out.2.below hX).free; have lz : cz < V4.heap.size := (HK.out.2.below hX).lt
    go_region_held3 (fun w' => w'.cell? ⟨cs, 0, none⟩ = some (.int .u64 s0) ∧ w'.cell? ⟨cs, 1, none⟩ = some (.int .u64 s1) ∧ w'.cell? ⟨cs, 2, none⟩ = some (.int .u64 i0) ∧ w'.cell? ⟨cs, 3, none⟩ = some (.int .u64 i1)) (go_keep) (first
      | (go_at_call 17; (with_reducible refine (O.out _).mono ?_); rintro e x0 ⟨rfl, hb⟩; replace hX := below_then (show Below V4.heap.size V4 _ by first | exact hX | exact hX.drew) hb; clear hb; clear f00 f01 f02 f03 l0 g0 g1 g2 g3 g4 g5 g6 g7 lz; obtain ⟨f00, f01, f02, f03⟩ := (HK.out.1.below hX).cells; have l0 : cs < x0.heap.size := (HK.out.1.below hX).lt; obtain ⟨g0, g1, g2, g3⟩ := (HK.out.2.below hX).cells; obtain ⟨g4, g5, g6, g7⟩ := (HK.out.2.below hX).free; have lz : cz < x0.heap.size := (HK.out.2.below hX).lt))
    all_goals
      go_wp2_with fail
      go_meet
      exact ⟨K4.put (HK.out.2.below hX), below_putK4 (below_then HW.out hX) hc⟩
  obtain ⟨HR, HB⟩ := hcut
  obtain ⟨r1, r2, r3, r4⟩ := HR.cells
  go_wp2_with fail
  try simp only [Exit.inBlock, Exit.then, Exit.noGoto]
  refine bodyPost_ret (by simp [results, Try.results24, go_sem, r1, r2, r3, r4]; try rfl) rfl ?_
  exact ⟨rfl, HB⟩
theorem xMapP (s : Ps) (W : World) (hs : s.Ok) : Calls Try.prog 24 #[s.val] W (AnsM (mapP s) W) := by
  have h := pmapMain ((hiW s.S : Nat) : Int) ((loW s.S : Nat) : Int) ((hiW s.I : Nat) : Int) ((loW s.I : Nat) : Int) (Lib.hid fun V => cOf 15750249268501108917 15750249268501108917 rfl (by decide) V) W
  have e : (mapP s).val = .agg #[.int .u64 0, .int .u64 15750249268501108917, .int .u64 ((hiW s.I : Nat) : Int), .int .u64 ((loW s.I : Nat) : Int)] := by
    show Value.agg #[.int .u64 ((hiW fac : Nat) : Int), .int .u64 ((loW fac : Nat) : Int), .int .u64 ((hiW s.I : Nat) : Int), .int .u64 ((loW s.I : Nat) : Int)] = _
    rw [show hiW fac = 0 by decide, show loW fac = 15750249268501108917 by decide]
    rfl
  unfold AnsM
  rw [e]
  exact h
set_option maxHeartbeats 8000000 in
theorem palong (m0 m1 m2 m3 s0 s1 i0 i1 t0 t1 : Int) (C : Hid (TN 23 #[.agg #[.int .u64 m0, .int .u64 m1, .int .u64 m2, .int .u64 m3], .agg #[.int .u64 s0, .int .u64 s1]] t0 t1)) : TM 26 #[.agg #[.int .u64 m0, .int .u64 m1, .int .u64 m2, .int .u64 m3], .agg #[.int .u64 s0, .int .u64 s1, .int .u64 i0, .int .u64 i1]] t0 t1 i0 i1 := fun w => by
  have U := K4.new 55 w m0 m1 m2 m3
  have z1 : (w.alloc (.cells #[.int .u64 m0, .int .u64 m1, .int .u64 m2, .int .u64 m3] 55)).heap.size = w.heap.size + 1 := Array.size_push _
  have L := below_allocs w (.cells #[.int .u64 m0, .int .u64 m1, .int .u64 m2, .int .u64 m3] 55)
  have H1 := Lib.hid (And.intro U (And.intro z1 L))
  clear U z1 L
  go_enter Try.func26, Try.ntmps26
  go_upto_region 1 with fail
  generalize w.alloc _ = V1 at H1 ⊢
  have UX := K4.new 26 V1 s0 s1 i0 i1
  have z2 : (V1.alloc (.cells #[.int .u64 s0, .int .u64 s1, .int .u64 i0, .int .u64 i1] 26)).heap.size = w.heap.size + 1 + 1 := (Array.size_push _).trans (by rw [H1.out.2.1])
  rw [H1.out.2.1] at UX
  have LB := below_allocs V1 (.cells #[.int .u64 s0, .int .u64 s1, .int .u64 i0, .int .u64 i1] 26)
  have H2 := Lib.hid (And.intro (H1.out.1.below LB) (And.intro UX (And.intro z2 (below_then H1.out.2.2 LB))))
  clear UX z2 LB H1
  generalize V1.alloc _ = V2 at H2 ⊢
  have UZ := K4.new 26 V2 0 0 0 0
  rw [H2.out.2.2.1] at UZ
  have LB := below_allocs V2 (.cells #[.int .u64 0, .int .u64 0, .int .u64 0, .int .u64 0] 26)
  have HK := Lib.hid (And.intro (H2.out.1.below LB) (And.intro UZ (H2.out.2.1.below LB)))
  have HW := Lib.hid (below_then H2.out.2.2.2 LB)
  clear UZ LB H2
  generalize V2.alloc _ = V4 at HK HW ⊢
  have hc : w.heap.size ≤ w.heap.size + 1 + 1 := Nat.le_trans (Nat.le_succ _) (Nat.le_succ _)
  have n1 : w.heap.size ≠ w.heap.size + 1 + 1 := by omega
  have n2 : w.heap.size + 1 ≠ w.heap.size + 1 + 1 := by omega
  have n4 := n2.symm
  generalize w.heap.size + 1 + 1 = cz at HK hc n1 n2 n4 ⊢
  generalize w.heap.size + 1 = cn at HK n2 n4 ⊢
  have n3 := n1.symm
  obtain ⟨cs, hcs⟩ : ∃ cs, cs = w.heap.size := ⟨_, rfl⟩
  rw [← hcs] at HK n1 n3 ⊢
  clear hcs
  go_cut [] (fun wr => K4 26 wr cz t0 t1 i0 i1 ∧ Below w.heap.size w wr)
  case first =>
    have hX : Below V4.heap.size V4 V4 := Below.refl _ _
    obtain ⟨f00, f01, f02, f03⟩ := (HK.out.1.below hX).cells; have l0 : cs < V4.heap.size := (HK.out.1.below hX).lt; obtain ⟨f10, f11, f12, f13⟩ := (HK.out.2.2.below hX).cells; have l1 : cn < V4.heap.size := (HK.out.2.2.below hX).lt; obtain ⟨g0, g1, g2, g3⟩ := (HK.out.2.1.below hX).cells; obtain ⟨g4, g5, g6, g7⟩ := (HK.out.2.1.below hX).free; have lz : cz < V4.heap.size := (HK.out.2.1.below hX).lt
    go_region_held3 (fun w' => w'.cell? ⟨cs, 0, none⟩ = some (.int .u64 m0) ∧ w'.cell? ⟨cs, 1, none⟩ = some (.int .u64 m1) ∧ w'.cell? ⟨cs, 2, none⟩ = some (.int .u64 m2) ∧ w'.cell? ⟨cs, 3, none⟩ = some (.int .u64 m3) ∧ w'.cell? ⟨cn, 0, none⟩ = some (.int .u64 s0) ∧ w'.cell? ⟨cn, 1, none⟩ = some (.int .u64 s1) ∧ w'.cell? ⟨cn, 2, none⟩ = some (.int .u64 i0) ∧ w'.cell? ⟨cn, 3, none⟩ = some (.int .u64 i1)) (go_keep) (first
      | (go_at_call 23; (with_reducible refine (C.out _).mono ?_); rintro e x0 ⟨rfl, hb⟩; replace hX := below_then (show Below V4.heap.size V4 _ by first | exact hX | exact hX.drew) hb; clear hb; clear f00 f01 f02 f03 f10 f11 f12 f13 l0 l1 g0 g1 g2 g3 g4 g5 g6 g7 lz; obtain ⟨f00, f01, f02, f03⟩ := (HK.out.1.below hX).cells; have l0 : cs < x0.heap.size := (HK.out.1.below hX).lt; obtain ⟨f10, f11, f12, f13⟩ := (HK.out.2.2.below hX).cells; have l1 : cn < x0.heap.size := (HK.out.2.2.below hX).lt; obtain ⟨g0, g1, g2, g3⟩ := (HK.out.2.1.below hX).cells; obtain ⟨g4, g5, g6, g7⟩ := (HK.out.2.1.below hX).free; have lz : cz < x0.heap.size := (HK.out.2.1.below hX).lt))
    all_goals
      go_wp2_with fail
      go_meet
      exact ⟨K4.put (HK.out.2.1.below hX), below_putK4 (below_then HW.out hX) hc⟩
  obtain ⟨HR, HB⟩ := hcut
  obtain ⟨r1, r2, r3, r4⟩ := HR.cells
  go_wp2_with fail
  try simp only [Exit.inBlock, Exit.then, Exit.noGoto]
  refine bodyPost_ret (by simp [results, Try.results26, go_sem, r1, r2, r3, r4]; try rfl) rfl ?_
  exact ⟨rfl, HB⟩
set_option maxHeartbeats 8000000 in
theorem pstepMain (s0 s1 i0 i1 m0 m1 m2 m3 t0 t1 : Int) (M : Hid (TM 24 #[.agg #[.int .u64 s0, .int .u64 s1, .int .u64 i0, .int .u64 i1]] m0 m1 m2 m3)) (C : Hid (TM 26 #[.agg #[.int .u64 m0, .int .u64 m1, .int .u64 m2, .int .u64 m3], .agg #[.int .u64 s0, .int .u64 s1, .int .u64 i0, .int .u64 i1]] t0 t1 i0 i1)) : TM 12 #[.agg #[.int .u64 s0, .int .u64 s1, .int .u64 i0, .int .u64 i1]] t0 t1 i0 i1 := fun w => by
  have U := K4.new 26 w s0 s1 i0 i1
  have z1 : (w.alloc (.cells #[.int .u64 s0, .int .u64 s1, .int .u64 i0, .int .u64 i1] 26)).heap.size = w.heap.size + 1 := Array.size_push _
  have L := below_allocs w (.cells #[.int .u64 s0, .int .u64 s1, .int .u64 i0, .int .u64 i1] 26)
  have H1 := Lib.hid (And.intro U (And.intro z1 L))
  clear U z1 L
  go_enter Try.func12, Try.ntmps12
  go_upto_region 1 with fail
  generalize w.alloc _ = V1 at H1 ⊢
  have UZ := K4.new 26 V1 0 0 0 0
  rw [H1.out.2.1] at UZ
  have LB := below_allocs V1 (.cells #[.int .u64 0, .int .u64 0, .int .u64 0, .int .u64 0] 26)
  have HK := Lib.hid (And.intro (H1.out.1.below LB) UZ)
  have HW := Lib.hid (below_then H1.out.2.2 LB)
  clear UZ LB H1
  generalize V1.alloc _ = V4 at HK HW ⊢
  have hc : w.heap.size ≤ w.heap.size + 1 := Nat.le_succ _
  have n1 : w.heap.size ≠ w.heap.size + 1 := by omega
  generalize w.heap.size + 1 = cz at HK hc n1 ⊢
  have n3 := n1.symm
  obtain ⟨cs, hcs⟩ : ∃ cs, cs = w.heap.size := ⟨_, rfl⟩
  rw [← hcs] at HK n1 n3 ⊢
  clear hcs
  go_cut [] (fun wr => K4 26 wr cz t0 t1 i0 i1 ∧ Below w.heap.size w wr)
  case first =>
    have hX : Below V4.heap.size V4 V4 := Below.refl _ _
    obtain ⟨f00, f01, f02, f03⟩ := (HK.out.1.below hX).cells; have l0 : cs < V4.heap.size := (HK.out.1.below hX).lt; obtain ⟨g0, g1, g2, g3⟩ := (HK.out.2.below hX).cells; obtain ⟨g4, g5, g6, g7⟩ := (HK.out.2.below hX).free; have lz : cz < V4.heap.size := (HK.out.2.below hX).lt
    go_region_held3 (fun w' => w'.cell? ⟨cs, 0, none⟩ = some (.int .u64 s0) ∧ w'.cell? ⟨cs, 1, none⟩ = some (.int .u64 s1) ∧ w'.cell? ⟨cs, 2, none⟩ = some (.int .u64 i0) ∧ w'.cell? ⟨cs, 3, none⟩ = some (.int .u64 i1)) (go_keep) (first
      | (go_at_call 24; (with_reducible refine (M.out _).mono ?_); rintro e x0 ⟨rfl, hb⟩; replace hX := below_then (show Below V4.heap.size V4 _ by first | exact hX | exact hX.drew) hb; clear hb; clear f00 f01 f02 f03 l0 g0 g1 g2 g3 g4 g5 g6 g7 lz; obtain ⟨f00, f01, f02, f03⟩ := (HK.out.1.below hX).cells; have l0 : cs < x0.heap.size := (HK.out.1.below hX).lt; obtain ⟨g0, g1, g2, g3⟩ := (HK.out.2.below hX).cells; obtain ⟨g4, g5, g6, g7⟩ := (HK.out.2.below hX).free; have lz : cz < x0.heap.size := (HK.out.2.below hX).lt)
      | (go_at_call 26; (with_reducible refine (C.out _).mono ?_); rintro e x1 ⟨rfl, hb⟩; replace hX := below_then (show Below V4.heap.size V4 _ by first | exact hX | exact hX.drew) hb; clear hb; clear f00 f01 f02 f03 l0 g0 g1 g2 g3 g4 g5 g6 g7 lz; obtain ⟨f00, f01, f02, f03⟩ := (HK.out.1.below hX).cells; have l0 : cs < x1.heap.size := (HK.out.1.below hX).lt; obtain ⟨g0, g1, g2, g3⟩ := (HK.out.2.below hX).cells; obtain ⟨g4, g5, g6, g7⟩ := (HK.out.2.below hX).free; have lz : cz < x1.heap.size := (HK.out.2.below hX).lt))
    all_goals
      go_wp2_with fail
      go_meet
      exact ⟨K4.put (HK.out.2.below hX), below_putK4 (below_then HW.out hX) hc⟩
  obtain ⟨HR, HB⟩ := hcut
  obtain ⟨r1, r2, r3, r4⟩ := HR.cells
  go_wp2_with fail
  try simp only [Exit.inBlock, Exit.then, Exit.noGoto]
  refine bodyPost_ret (by simp [results, Try.results12, go_sem, r1, r2, r3, r4]; try rfl) rfl ?_
  exact ⟨rfl, HB⟩
theorem xStepP (s : Ps) (W : World) (hs : s.Ok) : Calls Try.prog 12 #[s.val] W (AnsP (stepP s) W) :=
  pstepMain _ _ _ _ _ _ _ _ _ _ (Lib.hid fun V => xMapP s V hs) (Lib.hid (palong _ _ _ _ _ _ _ _ _ _ (Lib.hid fun V => ax.at_ (mapP s) _ _ s.S V (mapP_ok hs) (wn_of hs.a)))) W
set_option maxHeartbeats 8000000 in
theorem pbackM (s0 s1 i0 i1 m0 m1 m2 m3 v0 v1 v2 v3 t0 t1 : Int) (M : Hid (TM 24 #[.agg #[.int .u64 s0, .int .u64 s1, .int .u64 i0, .int .u64 i1]] m0 m1 m2 m3)) (I : Hid (TP 33 #[.agg #[.int .u64 m0, .int .u64 m1, .int .u64 m2, .int .u64 m3]] v0 v1 v2 v3 0)) (C : Hid (TM 26 #[.agg #[.int .u64 v0, .int .u64 v1, .int .u64 v2, .int .u64 v3], .agg #[.int .u64 s0, .int .u64 s1, .int .u64 i0, .int .u64 i1]] t0 t1 i0 i1)) : TM 22 #[.agg #[.int .u64 s0, .int .u64 s1, .int .u64 i0, .int .u64 i1]] t0 t1 i0 i1 := fun w => by
  have U := K4.new 26 w s0 s1 i0 i1
  have z1 : (w.alloc (.cells #[.int .u64 s0, .int .u64 s1, .int .u64 i0, .int .u64 i1] 26)).heap.size = w.heap.size + 1 := Array.size_push _
  have L := below_allocs w (.cells #[.int .u64 s0, .int .u64 s1, .int .u64 i0, .int .u64 i1] 26)
  have H1 := Lib.hid (And.intro U (And.intro z1 L))
  clear U z1 L
  go_enter Try.func22, Try.ntmps22
  go_upto_region 1 with fail
  generalize w.alloc _ = V1 at H1 ⊢
  have UZ := K4.new 26 V1 0 0 0 0
  rw [H1.out.2.1] at UZ
  have LB := below_allocs V1 (.cells #[.int .u64 0, .int .u64 0, .int .u64 0, .int .u64 0] 26)
  have HK := Lib.hid (And.intro (H1.out.1.below LB) UZ)
  have HW := Lib.hid (below_then H1.out.2.2 LB)
  clear UZ LB H1
  generalize V1.alloc _ = V4 at HK HW ⊢
  have hc : w.heap.size ≤ w.heap.size + 1 := Nat.le_succ _
  have n1 : w.heap.size ≠ w.heap.size + 1 := by omega
  generalize w.heap.size + 1 = cz at HK hc n1 ⊢
  have n3 := n1.symm
  obtain ⟨cs, hcs⟩ : ∃ cs, cs = w.heap.size := ⟨_, rfl⟩
  rw [← hcs] at HK n1 n3 ⊢
  clear hcs
  obtain ⟨x1, x2, x3, x4⟩ := HK.out.1.cells
  go_wp2_with fail
  clear x1 x2 x3 x4
  refine (M.out _).mono ?_
  rintro e V5 ⟨rfl, hb⟩
  have HK2 := Lib.hid (And.intro (HK.out.1.below hb) (HK.out.2.below hb))
  have HW2 := Lib.hid (below_then HW.out hb)
  clear HK HW hb M
  go_wp2_with fail
  refine (I.out _).mono ?_
  rintro e V6 ⟨rfl, hb⟩
  have UM := K4.new 55 V6 v0 v1 v2 v3
  have LB := below_then hb (below_allocs V6 (.cells #[.int .u64 v0, .int .u64 v1, .int .u64 v2, .int .u64 v3] 55))
  have HK := Lib.hid (And.intro (HK2.out.1.below LB) (And.intro (HK2.out.2.below LB) UM))
  have HW := Lib.hid (below_then HW2.out LB)
  have n5 : V6.heap.size ≠ cz := Nat.ne_of_gt (HK2.out.2.below hb).lt
  have n6 := n5.symm
  clear HK2 HW2 hb LB UM I
  go_upto_region 2 with fail
  generalize V6.alloc _ = V7 at HK HW ⊢
  generalize V6.heap.size = cm at HK n5 n6 ⊢
  obtain ⟨x1, x2, x3, x4⟩ := HK.out.1.cells
  obtain ⟨y1, y2, y3, y4⟩ := HK.out.2.2.cells
  go_wp2_with fail
  clear x1 x2 x3 x4 y1 y2 y3 y4
  refine (C.out _).mono ?_
  rintro e V8 ⟨rfl, hb⟩
  have Z := HK.out.2.1.below hb
  have HR := Lib.hid (K4.put (p' := t0) (q' := t1) (r' := i0) (s' := i1) Z)
  have HB : Hid (Below w.heap.size w ((((V8.setCell ⟨cz, 0, none⟩ (.int .u64 t0)).setCell ⟨cz, 1, none⟩ (.int .u64 t1)).setCell ⟨cz, 2, none⟩ (.int .u64 i0)).setCell ⟨cz, 3, none⟩ (.int .u64 i1))) := Lib.hid (below_putK4 (below_then HW.out hb) hc)
  obtain ⟨y1, y2, y3, y4⟩ := Z.cells
  obtain ⟨f1, f2, f3, f4⟩ := Z.free
  clear HK HW hb C Z
  go_wp2_with fail
  generalize World.setCell (World.setCell (World.setCell (World.setCell V8 _ _) _ _) _ _) _ _ = V9 at HR HB ⊢
  replace HR := HR.out
  replace HB := HB.out
  obtain ⟨r1, r2, r3, r4⟩ := HR.cells
  go_wp2_with fail
  try simp only [Exit.inBlock, Exit.then, Exit.noGoto]
  refine bodyPost_ret (by simp [results, Try.results22, go_sem, r1, r2, r3, r4]; try rfl) rfl ?_
  exact ⟨rfl, HB⟩
theorem xBackP (s : Ps) (W : World) (hs : s.Ok) : Calls Try.prog 22 #[s.val] W (AnsP (backP s) W) :=
  pbackM _ _ _ _ _ _ _ _ _ _ _ _ _ _ (Lib.hid fun V => xMapP s V hs) (Lib.hid fun V => ax.invY (mapP s) V (mapP_ok hs) (mapP_odd s)) (Lib.hid (palong _ _ _ _ _ _ _ _ _ _ (Lib.hid fun V => ax.at_ (invM (mapP s)) _ _ s.S V (invM_ok (mapP_odd s)) (wn_of hs.a)))) W
set_option maxHeartbeats 8000000 in
theorem pjumpNo (s0 s1 i0 i1 h l : Int) (R : Hid (TB 14 #[.agg #[.int .u64 s0, .int .u64 s1, .int .u64 i0, .int .u64 i1]] false)) : TP 16 #[.agg #[.int .u64 s0, .int .u64 s1, .int .u64 i0, .int .u64 i1], .agg #[.int .u64 h, .int .u64 l]] 0 0 0 0 3 := fun w => by
  have U := K4.new 26 w s0 s1 i0 i1
  have z1 : (w.alloc (.cells #[.int .u64 s0, .int .u64 s1, .int .u64 i0, .int .u64 i1] 26)).heap.size = w.heap.size + 1 := Array.size_push _
  have L := below_allocs w (.cells #[.int .u64 s0, .int .u64 s1, .int .u64 i0, .int .u64 i1] 26)
  have H1 := Lib.hid (And.intro U (And.intro z1 L))
  clear U z1 L
  go_enter Try.func16, Try.ntmps16
  go_upto_region 1 with fail
  generalize w.alloc _ = V1 at H1 ⊢
  have UX := U2.new V1 h l
  have z2 : (V1.alloc (.cells #[.int .u64 h, .int .u64 l] 24)).heap.size = w.heap.size + 1 + 1 := (Array.size_push _).trans (by rw [H1.out.2.1])
  rw [H1.out.2.1] at UX
  have LB := below_allocs V1 (.cells #[.int .u64 h, .int .u64 l] 24)
  have H2 := Lib.hid (And.intro (H1.out.1.below LB) (And.intro UX (And.intro z2 (below_then H1.out.2.2 LB))))
  clear UX z2 LB H1
  generalize V1.alloc _ = V2 at H2 ⊢
  have UZ := K4.new 26 V2 0 0 0 0
  rw [H2.out.2.2.1] at UZ
  have LB := below_allocs V2 (.cells #[.int .u64 0, .int .u64 0, .int .u64 0, .int .u64 0] 26)
  have HK := Lib.hid (And.intro (H2.out.1.below LB) (And.intro UZ (H2.out.2.1.below LB)))
  have HW := Lib.hid (below_then H2.out.2.2.2 LB)
  clear UZ LB H2
  generalize V2.alloc _ = V4 at HK HW ⊢
  have hc : w.heap.size ≤ w.heap.size + 1 + 1 := Nat.le_trans (Nat.le_succ _) (Nat.le_succ _)
  have n1 : w.heap.size ≠ w.heap.size + 1 + 1 := by omega
  have n2 : w.heap.size + 1 ≠ w.heap.size + 1 + 1 := by omega
  have n4 := n2.symm
  generalize w.heap.size + 1 + 1 = cz at HK hc n1 n2 n4 ⊢
  generalize w.heap.size + 1 = cn at HK n2 n4 ⊢
  have n3 := n1.symm
  obtain ⟨cs, hcs⟩ : ∃ cs, cs = w.heap.size := ⟨_, rfl⟩
  rw [← hcs] at HK n1 n3 ⊢
  clear hcs
  obtain ⟨x1, x2, x3, x4⟩ := HK.out.1.cells
  go_wp2_with fail
  clear x1 x2 x3 x4
  refine (R.out _).mono ?_
  rintro e V5 ⟨rfl, hb⟩
  have Z := HK.out.2.1.below hb
  have HR := Lib.hid (K4.put (p' := 0) (q' := 0) (r' := 0) (s' := 0) Z)
  have HB : Hid (Below w.heap.size w ((((V5.setCell ⟨cz, 0, none⟩ (.int .u64 0)).setCell ⟨cz, 1, none⟩ (.int .u64 0)).setCell ⟨cz, 2, none⟩ (.int .u64 0)).setCell ⟨cz, 3, none⟩ (.int .u64 0))) := Lib.hid (below_putK4 (below_then HW.out hb) hc)
  obtain ⟨y1, y2, y3, y4⟩ := Z.cells
  obtain ⟨f1, f2, f3, f4⟩ := Z.free
  clear HK HW hb R Z
  go_wp2_with fail
  generalize World.setCell (World.setCell (World.setCell (World.setCell V5 _ _) _ _) _ _) _ _ = V9 at HR HB ⊢
  replace HR := HR.out
  replace HB := HB.out
  obtain ⟨r1, r2, r3, r4⟩ := HR.cells
  go_wp2_with fail
  try simp only [Exit.inBlock, Exit.then, Exit.noGoto]
  refine bodyPost_ret (by simp [results, Try.results16, go_sem, r1, r2, r3, r4]; try rfl) rfl ?_
  exact ⟨rfl, HB⟩
set_option maxHeartbeats 8000000 in
theorem pjumpYes (s0 s1 i0 i1 h l m0 m1 m2 m3 v0 v1 v2 v3 t0 t1 : Int) (R : Hid (TB 14 #[.agg #[.int .u64 s0, .int .u64 s1, .int .u64 i0, .int .u64 i1]] true)) (M : Hid (TM 24 #[.agg #[.int .u64 s0, .int .u64 s1, .int .u64 i0, .int .u64 i1]] m0 m1 m2 m3)) (I : Hid (TM 29 #[.agg #[.int .u64 m0, .int .u64 m1, .int .u64 m2, .int .u64 m3], .agg #[.int .u64 h, .int .u64 l]] v0 v1 v2 v3)) (C : Hid (TM 26 #[.agg #[.int .u64 v0, .int .u64 v1, .int .u64 v2, .int .u64 v3], .agg #[.int .u64 s0, .int .u64 s1, .int .u64 i0, .int .u64 i1]] t0 t1 i0 i1)) :
    TP 16 #[.agg #[.int .u64 s0, .int .u64 s1, .int .u64 i0, .int .u64 i1], .agg #[.int .u64 h, .int .u64 l]] t0 t1 i0 i1 0 := fun w => by
  have U := K4.new 26 w s0 s1 i0 i1
  have z1 : (w.alloc (.cells #[.int .u64 s0, .int .u64 s1, .int .u64 i0, .int .u64 i1] 26)).heap.size = w.heap.size + 1 := Array.size_push _
  have L := below_allocs w (.cells #[.int .u64 s0, .int .u64 s1, .int .u64 i0, .int .u64 i1] 26)
  have H1 := Lib.hid (And.intro U (And.intro z1 L))
  clear U z1 L
  go_enter Try.func16, Try.ntmps16
  go_upto_region 1 with fail
  generalize w.alloc _ = V1 at H1 ⊢
  have UX := U2.new V1 h l
  have z2 : (V1.alloc (.cells #[.int .u64 h, .int .u64 l] 24)).heap.size = w.heap.size + 1 + 1 := (Array.size_push _).trans (by rw [H1.out.2.1])
  rw [H1.out.2.1] at UX
  have LB := below_allocs V1 (.cells #[.int .u64 h, .int .u64 l] 24)
  have H2 := Lib.hid (And.intro (H1.out.1.below LB) (And.intro UX (And.intro z2 (below_then H1.out.2.2 LB))))
  clear UX z2 LB H1
  generalize V1.alloc _ = V2 at H2 ⊢
  have UZ := K4.new 26 V2 0 0 0 0
  rw [H2.out.2.2.1] at UZ
  have LB := below_allocs V2 (.cells #[.int .u64 0, .int .u64 0, .int .u64 0, .int .u64 0] 26)
  have HK := Lib.hid (And.intro (H2.out.1.below LB) (And.intro UZ (H2.out.2.1.below LB)))
  have HW := Lib.hid (below_then H2.out.2.2.2 LB)
  clear UZ LB H2
  generalize V2.alloc _ = V4 at HK HW ⊢
  have hc : w.heap.size ≤ w.heap.size + 1 + 1 := Nat.le_trans (Nat.le_succ _) (Nat.le_succ _)
  have n1 : w.heap.size ≠ w.heap.size + 1 + 1 := by omega
  have n2 : w.heap.size + 1 ≠ w.heap.size + 1 + 1 := by omega
  have n4 := n2.symm
  generalize w.heap.size + 1 + 1 = cz at HK hc n1 n2 n4 ⊢
  generalize w.heap.size + 1 = cn at HK n2 n4 ⊢
  have n3 := n1.symm
  obtain ⟨cs, hcs⟩ : ∃ cs, cs = w.heap.size := ⟨_, rfl⟩
  rw [← hcs] at HK n1 n3 ⊢
  clear hcs
  obtain ⟨x1, x2, x3, x4⟩ := HK.out.1.cells
  go_wp2_with fail
  clear x1 x2 x3 x4
  refine (R.out _).mono ?_
  rintro e V5 ⟨rfl, hb⟩
  have HK2 := Lib.hid (And.intro (HK.out.1.below hb) (And.intro (HK.out.2.1.below hb) (HK.out.2.2.below hb)))
  have HW2 := Lib.hid (below_then HW.out hb)
  clear HK HW hb R
  have HK := HK2
  have HW := HW2
  clear HK2 HW2
  go_wp2_with fail
  obtain ⟨V7, h7⟩ : ∃ x : World, x = V5 := ⟨_, rfl⟩
  subst h7
  go_cut [5] (fun v wr => v = .int .i64 0 ∧ K4 26 wr cz t0 t1 i0 i1 ∧ Below w.heap.size w wr)
  case first =>
    have hX : Below V7.heap.size V7 V7 := Below.refl _ _
    obtain ⟨f00, f01, f02, f03⟩ := (HK.out.1.below hX).cells; have l0 : cs < V7.heap.size := (HK.out.1.below hX).lt; obtain ⟨f10, f11⟩ := (HK.out.2.2.below hX).cells; have l1 : cn < V7.heap.size := (HK.out.2.2.below hX).lt; obtain ⟨g0, g1, g2, g3⟩ := (HK.out.2.1.below hX).cells; obtain ⟨g4, g5, g6, g7⟩ := (HK.out.2.1.below hX).free; have lz : cz < V7.heap.size := (HK.out.2.1.below hX).lt
    go_region_held3 (fun w' => w'.cell? ⟨cs, 0, none⟩ = some (.int .u64 s0) ∧ w'.cell? ⟨cs, 1, none⟩ = some (.int .u64 s1) ∧ w'.cell? ⟨cs, 2, none⟩ = some (.int .u64 i0) ∧ w'.cell? ⟨cs, 3, none⟩ = some (.int .u64 i1) ∧ w'.cell? ⟨cn, 0, none⟩ = some (.int .u64 h) ∧ w'.cell? ⟨cn, 1, none⟩ = some (.int .u64 l)) (go_keep) (first
      | (go_at_call 24; (with_reducible refine (M.out _).mono ?_); rintro e x0 ⟨rfl, hb⟩; replace hX := below_then (show Below V7.heap.size V7 _ by first | exact hX | exact hX.drew) hb; clear hb; clear f00 f01 f02 f03 f10 f11 l0 l1 g0 g1 g2 g3 g4 g5 g6 g7 lz; obtain ⟨f00, f01, f02, f03⟩ := (HK.out.1.below hX).cells; have l0 : cs < x0.heap.size := (HK.out.1.below hX).lt; obtain ⟨f10, f11⟩ := (HK.out.2.2.below hX).cells; have l1 : cn < x0.heap.size := (HK.out.2.2.below hX).lt; obtain ⟨g0, g1, g2, g3⟩ := (HK.out.2.1.below hX).cells; obtain ⟨g4, g5, g6, g7⟩ := (HK.out.2.1.below hX).free; have lz : cz < x0.heap.size := (HK.out.2.1.below hX).lt)
      | (go_at_call 29; (with_reducible refine (I.out _).mono ?_); rintro e x1 ⟨rfl, hb⟩; replace hX := below_then (show Below V7.heap.size V7 _ by first | exact hX | exact hX.drew) hb; clear hb; clear f00 f01 f02 f03 f10 f11 l0 l1 g0 g1 g2 g3 g4 g5 g6 g7 lz; obtain ⟨f00, f01, f02, f03⟩ := (HK.out.1.below hX).cells; have l0 : cs < x1.heap.size := (HK.out.1.below hX).lt; obtain ⟨f10, f11⟩ := (HK.out.2.2.below hX).cells; have l1 : cn < x1.heap.size := (HK.out.2.2.below hX).lt; obtain ⟨g0, g1, g2, g3⟩ := (HK.out.2.1.below hX).cells; obtain ⟨g4, g5, g6, g7⟩ := (HK.out.2.1.below hX).free; have lz : cz < x1.heap.size := (HK.out.2.1.below hX).lt)
      | (go_at_call 26; (with_reducible refine (C.out _).mono ?_); rintro e x2 ⟨rfl, hb⟩; replace hX := below_then (show Below V7.heap.size V7 _ by first | exact hX | exact hX.drew) hb; clear hb; clear f00 f01 f02 f03 f10 f11 l0 l1 g0 g1 g2 g3 g4 g5 g6 g7 lz; obtain ⟨f00, f01, f02, f03⟩ := (HK.out.1.below hX).cells; have l0 : cs < x2.heap.size := (HK.out.1.below hX).lt; obtain ⟨f10, f11⟩ := (HK.out.2.2.below hX).cells; have l1 : cn < x2.heap.size := (HK.out.2.2.below hX).lt; obtain ⟨g0, g1, g2, g3⟩ := (HK.out.2.1.below hX).cells; obtain ⟨g4, g5, g6, g7⟩ := (HK.out.2.1.below hX).free; have lz : cz < x2.heap.size := (HK.out.2.1.below hX).lt))
    all_goals
      go_wp2_with fail
      go_meet
      exact ⟨rfl, K4.put (HK.out.2.1.below hX), below_putK4 (below_then HW.out hX) hc⟩
  obtain ⟨rfl, HR, HB⟩ := hcut
  obtain ⟨r1, r2, r3, r4⟩ := HR.cells
  go_wp2_with fail
  try simp only [Exit.inBlock, Exit.then, Exit.noGoto]
  refine bodyPost_ret (by simp [results, Try.results16, go_sem, r1, r2, r3, r4]; try rfl) rfl ?_
  exact ⟨rfl, HB⟩
theorem xJumpN (s : Ps) (h l : Int) (W : World) (hs : s.Ok) (o : s.I % 2 = 0) : Calls Try.prog 16 #[s.val, .agg #[.int .u64 h, .int .u64 l]] W (AnsPE Ps.zero 3 W) :=
  pjumpNo _ _ _ _ h l (Lib.hid fun V => by
    have := xRightP s V hs
    rwa [decide_eq_false (by omega)] at this) W
theorem xJumpY (s : Ps) (h l : Int) (n : Nat) (W : World) (hs : s.Ok) (o : s.I % 2 = 1) (i : Wn h l n) : Calls Try.prog 16 #[s.val, .agg #[.int .u64 h, .int .u64 l]] W (AnsPE (jumpP s n) 0 W) :=
  pjumpYes _ _ _ _ h l _ _ _ _ _ _ _ _ _ _ (Lib.hid fun V => by
    have := xRightP s V hs
    rwa [decide_eq_true o] at this) (Lib.hid fun V => xMapP s V hs) (Lib.hid fun V => ax.pow (mapP s) h l n V (mapP_ok hs) i) (Lib.hid (palong _ _ _ _ _ _ _ _ _ _ (Lib.hid fun V => ax.at_ (powM (mapP s) n) _ _ s.S V (powM_ok _ _) (wn_of hs.a)))) W
end Go.Proofs.Ythnmekieanndgaa
