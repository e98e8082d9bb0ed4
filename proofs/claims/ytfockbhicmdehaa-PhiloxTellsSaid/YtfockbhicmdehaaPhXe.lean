/-
  What philox's Unmix answers.
-/
import Derived.Test.YtfockbhicmdehaaPhXd
namespace Go.Proofs.Ytfockbhicmdehaa
open Go.RowKit
set_option linter.unusedVariables false
set_option maxRecDepth 100000

/-- Two boxes, a place for what is told, and the row. -/
def UxSt (w0 : World) (cb cn cz g : Nat) (k : Ky) (n : Nat) (y : Bk) (l : Ky) (w : World) : Prop := MxSt w0 cb cn cz y l w ∧ RowU g k n n w
theorem UxSt.below {w0 w w' : World} {cb cn cz g n : Nat} {k l : Ky} {y : Bk} (h : UxSt w0 cb cn cz g k n y l w) (hb : Below w.heap.size w w') : UxSt w0 cb cn cz g k n y l w' := ⟨h.1.below hb, h.2.below hb⟩
theorem UxSt.put4 {w0 w : World} {cb cn cz g n : Nat} {k l : Ky} {y y' : Bk} (h : UxSt w0 cb cn cz g k n y l w) (a : MxAt w0 cb cn cz) (hg : cb < g) :
    UxSt w0 cb cn cz g k n y' l ((((w.setCell ⟨cb, 0, none⟩ (.int .u32 (y'.a : Int))).setCell ⟨cb, 1, none⟩ (.int .u32 (y'.b : Int))).setCell ⟨cb, 2, none⟩ (.int .u32 (y'.c : Int))).setCell ⟨cb, 3, none⟩ (.int .u32 (y'.d : Int))) :=
  ⟨h.1.put4 a, (((h.2.far ⟨cb, 0, none⟩ hg _).far ⟨cb, 1, none⟩ hg _).far ⟨cb, 2, none⟩ hg _).far ⟨cb, 3, none⟩ hg _⟩
set_option maxHeartbeats 4000000 in
theorem xUnmixN (x : Bk) (k : Ky) (n : Int) (hn : n < 0 ∨ 100 < n) : T4E 15 #[x.val, k.val, .int .i64 n] 0 0 0 0 1 := fun w => by
  have CM := Lib.hid (xMayN n hn)
  have U := B4.new 24 w x.a x.b x.c x.d
  have z1 : (w.alloc (.cells #[.int .u32 (x.a : Int), .int .u32 (x.b : Int), .int .u32 (x.c : Int), .int .u32 (x.d : Int)] 24)).heap.size = w.heap.size + 1 := Array.size_push _
  have L := below_allocs w (.cells #[.int .u32 (x.a : Int), .int .u32 (x.b : Int), .int .u32 (x.c : Int), .int .u32 (x.d : Int)] 24)
  have H1 := Lib.hid (And.intro U (And.intro z1 L))
  clear U z1 L
  go_enter Try.func15, Try.ntmps15
  go_upto_region 1 with fail
  generalize w.alloc _ = V1 at H1 ⊢
  have UX := B2.new 26 V1 k.k k.m
  have z2 : (V1.alloc (.cells #[.int .u32 (k.k : Int), .int .u32 (k.m : Int)] 26)).heap.size = w.heap.size + 1 + 1 := (Array.size_push _).trans (by rw [H1.out.2.1])
  rw [H1.out.2.1] at UX
  have LB := below_allocs V1 (.cells #[.int .u32 (k.k : Int), .int .u32 (k.m : Int)] 26)
  have H2 := Lib.hid (And.intro (H1.out.1.below LB) (And.intro UX (And.intro z2 (below_then H1.out.2.2 LB))))
  clear UX z2 LB H1
  generalize V1.alloc _ = V2 at H2 ⊢
  have UZ := B4.new 24 V2 0 0 0 0
  rw [H2.out.2.2.1] at UZ
  have LB := below_allocs V2 (.cells #[.int .u32 0, .int .u32 0, .int .u32 0, .int .u32 0] 24)
  have HK : Hid (MxSt w w.heap.size (w.heap.size + 1) (w.heap.size + 1 + 1) x k _) := Lib.hid ⟨H2.out.1.below LB, H2.out.2.1.below LB, UZ, below_then H2.out.2.2.2 LB⟩
  clear UZ LB H2
  generalize V2.alloc _ = V4 at HK ⊢
  have Hc : Hid (MxAt w w.heap.size (w.heap.size + 1) (w.heap.size + 1 + 1)) := Lib.hid ⟨by omega, by omega, by omega, by omega, by omega, by omega⟩
  generalize w.heap.size + 1 + 1 = cz at HK Hc ⊢
  generalize w.heap.size + 1 = cn at HK Hc ⊢
  obtain ⟨cb, hcb⟩ : ∃ c, c = w.heap.size := ⟨_, rfl⟩
  rw [← hcb] at HK Hc ⊢
  clear hcb
  go_wp2_with fail
  refine (CM.out _).mono ?_
  rintro e W1 ⟨rfl, rfl⟩
  obtain ⟨g1, g2, g3, g4⟩ := HK.out.2.2.1.cells
  obtain ⟨g5, g6, g7, g8⟩ := HK.out.2.2.1.free
  have HE := Lib.hid (fun W e => HK.out.end Hc.out 0 0 0 0 W e)
  clear HK
  go_wp2_with fail
  replace HE := Lib.hid (HE.out _ rfl)
  generalize World.setCell (World.setCell (World.setCell (World.setCell V4 _ _) _ _) _ _) _ _ = V9 at HE ⊢
  obtain ⟨r1, r2, r3, r4⟩ := HE.out.1.cells
  try simp only [Exit.inBlock, Exit.then, Exit.noGoto]
  refine bodyPost_ret (by simp [results, Try.results15, go_sem, r1, r2, r3, r4]; try rfl) rfl ?_
  exact ⟨rfl, HE.out.2⟩
set_option maxHeartbeats 8000000 in
theorem xUnmixY (x : Bk) (k : Ky) (hx : x.Ok) (hk : k.Ok) (n : Nat) (hn : n ≤ 100) : TE 15 #[x.val, k.val, .int .i64 (n : Int)] (unmixB x k n) 0 := fun w => by
  have CM := Lib.hid (xMayY (n : Int) (by omega) (by omega))
  have U := B4.new 24 w x.a x.b x.c x.d
  have z1 : (w.alloc (.cells #[.int .u32 (x.a : Int), .int .u32 (x.b : Int), .int .u32 (x.c : Int), .int .u32 (x.d : Int)] 24)).heap.size = w.heap.size + 1 := Array.size_push _
  have L := below_allocs w (.cells #[.int .u32 (x.a : Int), .int .u32 (x.b : Int), .int .u32 (x.c : Int), .int .u32 (x.d : Int)] 24)
  have H1 := Lib.hid (And.intro U (And.intro z1 L))
  clear U z1 L
  go_enter Try.func15, Try.ntmps15
  go_upto_region 1 with fail
  generalize w.alloc _ = V1 at H1 ⊢
  have UX := B2.new 26 V1 k.k k.m
  have z2 : (V1.alloc (.cells #[.int .u32 (k.k : Int), .int .u32 (k.m : Int)] 26)).heap.size = w.heap.size + 1 + 1 := (Array.size_push _).trans (by rw [H1.out.2.1])
  rw [H1.out.2.1] at UX
  have LB := below_allocs V1 (.cells #[.int .u32 (k.k : Int), .int .u32 (k.m : Int)] 26)
  have H2 := Lib.hid (And.intro (H1.out.1.below LB) (And.intro UX (And.intro z2 (below_then H1.out.2.2 LB))))
  clear UX z2 LB H1
  generalize V1.alloc _ = V2 at H2 ⊢
  have UZ := B4.new 24 V2 0 0 0 0
  rw [H2.out.2.2.1] at UZ
  have LB := below_allocs V2 (.cells #[.int .u32 0, .int .u32 0, .int .u32 0, .int .u32 0] 24)
  have HK : Hid (MxSt w w.heap.size (w.heap.size + 1) (w.heap.size + 1 + 1) x k _) := Lib.hid ⟨H2.out.1.below LB, H2.out.2.1.below LB, UZ, below_then H2.out.2.2.2 LB⟩
  clear UZ LB H2
  generalize V2.alloc _ = V4 at HK ⊢
  have Hc : Hid (MxAt w w.heap.size (w.heap.size + 1) (w.heap.size + 1 + 1)) := Lib.hid ⟨by omega, by omega, by omega, by omega, by omega, by omega⟩
  generalize w.heap.size + 1 + 1 = cz at HK Hc ⊢
  generalize w.heap.size + 1 = cn at HK Hc ⊢
  obtain ⟨cb, hcb⟩ : ∃ c, c = w.heap.size := ⟨_, rfl⟩
  rw [← hcb] at HK Hc ⊢
  clear hcb
  go_wp2_with fail
  refine (CM.out _).mono ?_
  rintro e W1 ⟨rfl, rfl⟩
  clear CM
  have CW := Lib.hid (xRow k hk n hn)
  obtain ⟨v1, v2⟩ := HK.out.2.1.cells
  go_wp2_with fail
  refine (CW.out _).mono ?_
  rintro e W1 ⟨g, rfl, hR, hg, hb⟩
  have F0 : Hid (UxSt w cb cn cz g k n x k W1) := Lib.hid ⟨HK.out.below hb, hR⟩
  have lg : cb < g := Nat.lt_of_lt_of_le HK.out.1.lt hg
  clear HK hR hg hb v1 v2 CW
  have w0 : IntKind.i64.wrap ((n : Int) - 1) = (n : Int) - 1 := by rw [IntKind.wrap_i64]; omega
  go_wp2_with fail
  go_loopg [9] n (fun gh z wr => ∃ (t : Int) (y : Bk), t + 1 = (gh : Int) ∧ gh ≤ n ∧ z = .int .i64 t ∧ Hid (unmixB y k gh = unmixB x k n ∧ y.Ok) ∧ Hid (UxSt w cb cn cz g k n y k wr))
  case atStart => exact ⟨(n : Int) - 1, x, by omega, by omega, by first | rfl | go_num, Lib.hid ⟨rfl, hx⟩, F0⟩
  case round =>
    obtain ⟨t, y, ht, hle, rfl, hs, F⟩ := hrel
    clear F0
    by_cases hlt : 0 ≤ t
    · obtain ⟨i, rfl⟩ := Int.eq_ofNat_of_zero_le hlt
      obtain rfl : gk = i + 1 := by omega
      have hi : i < n := by omega
      have pl : (i : Int) < (n : Int) := by omega
      have pg : (i : Int) ≥ 0 := hlt
      have w1 : IntKind.i64.wrap ((i : Int) - 1) = (i : Int) - 1 := by rw [IntKind.wrap_i64]; omega
      obtain ⟨o, hc1, hKo⟩ := F.out.2.over i hi hi
      have CU := Lib.hid (xUndo y (iterK k i) hs.out.2 (iterK_ok hk i) o wr.drew (Lib.hid hKo))
      have E : Hid (unmixB (unroundB y (iterK k i)) k i = unmixB x k n ∧ (unroundB y (iterK k i)).Ok) := Lib.hid ⟨hs.out.1, unroundB_ok hs.out.2 (iterK_ok hk i)⟩
      generalize unroundB y (iterK k i) = y' at CU E
      clear hKo hs
      go_upto_region 7 with fail
      have hX : Below wr.heap.size wr wr := Below.refl _ _
      obtain ⟨x1, x2, x3, x4⟩ := F.out.1.1.cells
      go_region_with (first
        | (go_at_call 21; (with_reducible refine (CU.out).mono ?_); rintro e W2 ⟨rfl, hb⟩; replace hX := below_then (show Below wr.heap.size wr wr.drew from hX.drew) hb; clear hb x1 x2 x3 x4; obtain ⟨x1, x2, x3, x4⟩ := (F.out.1.1.below hX).cells; obtain ⟨g1, g2, g3, g4⟩ := (F.out.1.1.below hX).free))
      all_goals
        go_wp2_with fail
        go_roundg i
        case measure => omega
        case rel => exact ⟨(i : Int) - 1, y', by omega, by omega, by first | rfl | go_num, E, Lib.hid ((F.out.below hX).put4 Hc.out lg)⟩
    · obtain rfl : gk = 0 := by omega
      have pl : ¬ (t ≥ 0) := by omega
      have E := Lib.hid hs.out.1
      have HE := Lib.hid (fun W e => F.out.1.end Hc.out y.a y.b y.c y.d W e)
      obtain ⟨x1, x2, x3, x4⟩ := F.out.1.1.cells
      obtain ⟨g1, g2, g3, g4⟩ := F.out.1.2.2.1.cells
      obtain ⟨g5, g6, g7, g8⟩ := F.out.1.2.2.1.free
      clear F hs
      go_wp2_with fail
      replace HE := Lib.hid (HE.out _ rfl)
      generalize World.setCell (World.setCell (World.setCell (World.setCell wr _ _) _ _) _ _) _ _ = V9 at HE ⊢
      obtain ⟨r1, r2, r3, r4⟩ := HE.out.1.cells
      try simp only [Exit.inBlock, Exit.then, Exit.noGoto]
      refine bodyPost_ret (by simp [results, Try.results15, go_sem, r1, r2, r3, r4]; try rfl) rfl ?_
      exact ⟨by rw [← E.out]; rfl, HE.out.2⟩
end Go.Proofs.Ytfockbhicmdehaa
