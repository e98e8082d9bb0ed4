/-
  What philox's may, Mix and Out answer.
-/
import Derived.Test.YtdmoedjjbhkdmaaPhXa
namespace Go.Proofs.Ytdmoedjjbhkdmaa
open Go.RowKit
set_option linter.unusedVariables false
set_option maxRecDepth 100000

theorem xMayY (n : Int) (h0 : 0 ≤ n) (h1 : n ≤ 100) (w : World) : Calls Try.prog 45 #[.int .i64 n] w (fun e w' => e = .returned (.bool true) ∧ w = w') := by
  have g0 : n ≥ 0 := h0
  go_enter Try.func45, Try.ntmps45
  go_wp2
  go_ret
  exact ⟨rfl, rfl⟩
theorem xMayN (n : Int) (h : n < 0 ∨ 100 < n) (w : World) : Calls Try.prog 45 #[.int .i64 n] w (fun e w' => e = .returned (.bool false) ∧ w = w') := by
  by_cases h0 : n < 0
  · have g0 : ¬ n ≥ 0 := by omega
    go_enter Try.func45, Try.ntmps45
    go_wp2
    go_ret
    exact ⟨rfl, rfl⟩
  · have g0 : n ≥ 0 := by omega
    have g1 : ¬ n ≤ 100 := by omega
    go_enter Try.func45, Try.ntmps45
    go_wp2
    go_ret
    exact ⟨rfl, rfl⟩
/-- Two boxes, of a block and of a key, and a place for what is told. -/
def MxSt (w0 : World) (cb cn cz : Nat) (y : Bk) (l : Ky) (wr : World) : Prop :=
  B4 47 wr cb y.a y.b y.c y.d ∧ B2 27 wr cn l.k l.m ∧ B4 47 wr cz 0 0 0 0 ∧ Below w0.heap.size w0 wr
/-- They lie apart, above what was there. -/
structure MxAt (w0 : World) (cb cn cz : Nat) : Prop where
  b : w0.heap.size ≤ cb
  n : w0.heap.size ≤ cn
  z : w0.heap.size ≤ cz
  nb : cn ≠ cb
  zb : cz ≠ cb
  zn : cz ≠ cn
theorem MxSt.below {w0 w w' : World} {cb cn cz : Nat} {y : Bk} {l : Ky} (h : MxSt w0 cb cn cz y l w) (hb : Below w.heap.size w w') : MxSt w0 cb cn cz y l w' :=
  ⟨h.1.below hb, h.2.1.below hb, h.2.2.1.below hb, below_then h.2.2.2 hb⟩
theorem MxSt.put4 {w0 w : World} {cb cn cz : Nat} {y y' : Bk} {l : Ky} (h : MxSt w0 cb cn cz y l w) (a : MxAt w0 cb cn cz) :
    MxSt w0 cb cn cz y' l ((((w.setCell ⟨cb, 0, none⟩ (.int .u32 (y'.a : Int))).setCell ⟨cb, 1, none⟩ (.int .u32 (y'.b : Int))).setCell ⟨cb, 2, none⟩ (.int .u32 (y'.c : Int))).setCell ⟨cb, 3, none⟩ (.int .u32 (y'.d : Int))) :=
  ⟨B4.put h.1, h.2.1.far4 a.nb _ _ _ _, h.2.2.1.far4 a.zb _ _ _ _, below_put4 h.2.2.2 a.b _ _ _ _⟩
theorem MxSt.put2 {w0 w : World} {cb cn cz : Nat} {y : Bk} {l l' : Ky} (h : MxSt w0 cb cn cz y l w) (a : MxAt w0 cb cn cz) :
    MxSt w0 cb cn cz y l' ((w.setCell ⟨cn, 0, none⟩ (.int .u32 (l'.k : Int))).setCell ⟨cn, 1, none⟩ (.int .u32 (l'.m : Int))) :=
  ⟨h.1.far2 a.nb.symm _ _, B2.put h.2.1, h.2.2.1.far2 a.zn _ _, below_put2 h.2.2.2 a.n _ _⟩
theorem MxSt.end {w0 w : World} {cb cn cz : Nat} {y : Bk} {l : Ky} (h : MxSt w0 cb cn cz y l w) (a : MxAt w0 cb cn cz) (p q r s : Nat) (W : World) (hW : W = ((((w.setCell ⟨cz, 0, none⟩ (.int .u32 (p : Int))).setCell ⟨cz, 1, none⟩ (.int .u32 (q : Int))).setCell ⟨cz, 2, none⟩ (.int .u32 (r : Int))).setCell ⟨cz, 3, none⟩ (.int .u32 (s : Int)))) :
    B4 47 W cz p q r s ∧ Below w0.heap.size w0 W := by
  subst hW
  exact ⟨B4.put h.2.2.1, below_put4 h.2.2.2 a.z _ _ _ _⟩
set_option maxHeartbeats 4000000 in
theorem xMixN (x : Bk) (k : Ky) (n : Int) (hn : n < 0 ∨ 100 < n) : T4E 41 #[x.val, k.val, .int .i64 n] 0 0 0 0 1 := fun w => by
  have CM := Lib.hid (xMayN n hn)
  have U := B4.new 47 w x.a x.b x.c x.d
  have z1 : (w.alloc (.cells #[.int .u32 (x.a : Int), .int .u32 (x.b : Int), .int .u32 (x.c : Int), .int .u32 (x.d : Int)] 47)).heap.size = w.heap.size + 1 := Array.size_push _
  have L := below_allocs w (.cells #[.int .u32 (x.a : Int), .int .u32 (x.b : Int), .int .u32 (x.c : Int), .int .u32 (x.d : Int)] 47)
  have H1 := Lib.hid (And.intro U (And.intro z1 L))
  clear U z1 L
  go_enter Try.func41, Try.ntmps41
  go_upto_region 1 with fail
  generalize w.alloc _ = V1 at H1 ⊢
  have UX := B2.new 27 V1 k.k k.m
  have z2 : (V1.alloc (.cells #[.int .u32 (k.k : Int), .int .u32 (k.m : Int)] 27)).heap.size = w.heap.size + 1 + 1 := (Array.size_push _).trans (by rw [H1.out.2.1])
  rw [H1.out.2.1] at UX
  have LB := below_allocs V1 (.cells #[.int .u32 (k.k : Int), .int .u32 (k.m : Int)] 27)
  have H2 := Lib.hid (And.intro (H1.out.1.below LB) (And.intro UX (And.intro z2 (below_then H1.out.2.2 LB))))
  clear UX z2 LB H1
  generalize V1.alloc _ = V2 at H2 ⊢
  have UZ := B4.new 47 V2 0 0 0 0
  rw [H2.out.2.2.1] at UZ
  have LB := below_allocs V2 (.cells #[.int .u32 0, .int .u32 0, .int .u32 0, .int .u32 0] 47)
  have HK : Hid (MxSt w w.heap.size (w.heap.size + 1) (w.heap.size + 1 + 1) x k _) := Lib.hid ⟨H2.out.1.below LB, H2.out.2.1.below LB, UZ, below_then H2.out.2.2.2 LB⟩
  clear UZ LB H2
  generalize V2.alloc _ = V4 at HK ⊢
  have Hc : Hid (MxAt w w.heap.size (w.heap.size + 1) (w.heap.size + 1 + 1)) := Lib.hid ⟨by omega, by omega, by omega, by omega, by omega, by omega⟩
  generalize w.heap.size + 1 + 1 = cz at HK Hc ⊢
  generalize w.heap.size + 1 = cn at HK Hc ⊢
  obtain ⟨cb, hcb⟩ : ∃ c, c = w.heap.size := ⟨_, rfl⟩
  rw [← hcb] at HK Hc ⊢
  clear hcb
  go_wp2_with fail
  refine (CM.out _).mono ?_
  rintro e W1 ⟨rfl, rfl⟩
  obtain ⟨g1, g2, g3, g4⟩ := HK.out.2.2.1.cells
  obtain ⟨g5, g6, g7, g8⟩ := HK.out.2.2.1.free
  have HE := Lib.hid (fun W e => HK.out.end Hc.out 0 0 0 0 W e)
  clear HK
  go_wp2_with fail
  replace HE := Lib.hid (HE.out _ rfl)
  generalize World.setCell (World.setCell (World.setCell (World.setCell V4 _ _) _ _) _ _) _ _ = V9 at HE ⊢
  obtain ⟨r1, r2, r3, r4⟩ := HE.out.1.cells
  try simp only [Exit.inBlock, Exit.then, Exit.noGoto]
  refine bodyPost_ret (by simp [results, Try.results41, go_sem, r1, r2, r3, r4]; try rfl) rfl ?_
  exact ⟨rfl, HE.out.2⟩
set_option maxHeartbeats 8000000 in
theorem xMixY (x : Bk) (k : Ky) (hx : x.Ok) (hk : k.Ok) (n : Nat) (hn : n ≤ 100) : TE 41 #[x.val, k.val, .int .i64 (n : Int)] (mixB x k n) 0 := fun w => by
  have CM := Lib.hid (xMayY (n : Int) (by omega) (by omega))
  have U := B4.new 47 w x.a x.b x.c x.d
  have z1 : (w.alloc (.cells #[.int .u32 (x.a : Int), .int .u32 (x.b : Int), .int .u32 (x.c : Int), .int .u32 (x.d : Int)] 47)).heap.size = w.heap.size + 1 := Array.size_push _
  have L := below_allocs w (.cells #[.int .u32 (x.a : Int), .int .u32 (x.b : Int), .int .u32 (x.c : Int), .int .u32 (x.d : Int)] 47)
  have H1 := Lib.hid (And.intro U (And.intro z1 L))
  clear U z1 L
  go_enter Try.func41, Try.ntmps41
  go_upto_region 1 with fail
  generalize w.alloc _ = V1 at H1 ⊢
  have UX := B2.new 27 V1 k.k k.m
  have z2 : (V1.alloc (.cells #[.int .u32 (k.k : Int), .int .u32 (k.m : Int)] 27)).heap.size = w.heap.size + 1 + 1 := (Array.size_push _).trans (by rw [H1.out.2.1])
  rw [H1.out.2.1] at UX
  have LB := below_allocs V1 (.cells #[.int .u32 (k.k : Int), .int .u32 (k.m : Int)] 27)
  have H2 := Lib.hid (And.intro (H1.out.1.below LB) (And.intro UX (And.intro z2 (below_then H1.out.2.2 LB))))
  clear UX z2 LB H1
  generalize V1.alloc _ = V2 at H2 ⊢
  have UZ := B4.new 47 V2 0 0 0 0
  rw [H2.out.2.2.1] at UZ
  have LB := below_allocs V2 (.cells #[.int .u32 0, .int .u32 0, .int .u32 0, .int .u32 0] 47)
  have HK : Hid (MxSt w w.heap.size (w.heap.size + 1) (w.heap.size + 1 + 1) x k _) := Lib.hid ⟨H2.out.1.below LB, H2.out.2.1.below LB, UZ, below_then H2.out.2.2.2 LB⟩
  clear UZ LB H2
  generalize V2.alloc _ = V4 at HK ⊢
  have Hc : Hid (MxAt w w.heap.size (w.heap.size + 1) (w.heap.size + 1 + 1)) := Lib.hid ⟨by omega, by omega, by omega, by omega, by omega, by omega⟩
  generalize w.heap.size + 1 + 1 = cz at HK Hc ⊢
  generalize w.heap.size + 1 = cn at HK Hc ⊢
  obtain ⟨cb, hcb⟩ : ∃ c, c = w.heap.size := ⟨_, rfl⟩
  rw [← hcb] at HK Hc ⊢
  clear hcb
  go_wp2_with fail
  refine (CM.out _).mono ?_
  rintro e W1 ⟨rfl, rfl⟩
  clear CM
  go_wp2_with fail
  go_loopg [13] n (fun gh z wr => ∃ (j : Nat) (y : Bk) (l : Ky), j + gh = n ∧ z = .int .i64 (j : Int) ∧ Hid (y = mixB x k j ∧ l = iterK k j) ∧ Hid (MxSt w cb cn cz y l wr))
  case atStart => exact ⟨0, x, k, by omega, rfl, Lib.hid ⟨rfl, rfl⟩, HK⟩
  case round =>
    obtain ⟨j, y, l, hg, rfl, hs, F⟩ := hrel
    clear HK
    by_cases hlt : j < n
    · have pl : (j : Int) < (n : Int) := by omega
      have CR := Lib.hid (xRound y l (by rw [hs.out.1]; exact mixB_ok hx hk j) (by rw [hs.out.2]; exact iterK_ok hk j))
      have CN := Lib.hid (xNext l (by rw [hs.out.2]; exact iterK_ok hk j))
      have E : Hid (roundB y l = mixB x k (j + 1) ∧ nextK l = iterK k (j + 1)) := Lib.hid (by rw [hs.out.1, hs.out.2]; exact ⟨rfl, rfl⟩)
      generalize roundB y l = y' at CR E
      generalize nextK l = l' at CN E
      have w1 : IntKind.i64.wrap ((j : Int) + 1) = ((j + 1 : Nat) : Int) := by rw [IntKind.wrap_i64]; omega
      clear hs
      go_wp2_with fail
      have hX : Below wr.heap.size wr wr := Below.refl _ _
      have n1 := Hc.out.nb
      have n2 := Hc.out.nb.symm
      obtain ⟨x1, x2, x3, x4⟩ := F.out.1.cells
      obtain ⟨v1, v2⟩ := F.out.2.1.cells
      go_region_with (first
        | (go_at_call 46; (with_reducible refine (CR.out _).mono ?_); rintro e W1 ⟨rfl, hb⟩; replace hX := below_then (show Below wr.heap.size wr _ by first | exact hX | exact hX.drew) hb; clear hb; clear x1 x2 x3 x4 v1 v2; obtain ⟨v1, v2⟩ := (F.out.2.1.below hX).cells)
        | (go_at_call 47; (with_reducible refine (CN.out _).mono ?_); rintro e W2 ⟨rfl, hb⟩; replace hX := below_then (show Below wr.heap.size wr _ by first | exact hX | exact hX.drew) hb; clear hb; obtain ⟨x1, x2, x3, x4⟩ := (F.out.1.below hX).cells; obtain ⟨u1, u2⟩ := (F.out.2.1.below hX).cells; obtain ⟨g1, g2, g3, g4⟩ := (F.out.1.below hX).free; obtain ⟨g5, g6⟩ := (F.out.2.1.below hX).free))
      all_goals
        go_wp2_with fail
        go_roundg (gk - 1)
        case measure => omega
        case rel => exact ⟨j + 1, y', l', by omega, by first | rfl | go_num, E, Lib.hid (((F.out.below hX).put4 Hc.out).put2 Hc.out)⟩
    · obtain rfl : j = n := by omega
      have pl : ¬ ((j : Int) < (j : Int)) := by omega
      have E := Lib.hid hs.out.1
      have HE := Lib.hid (fun W e => F.out.end Hc.out y.a y.b y.c y.d W e)
      obtain ⟨x1, x2, x3, x4⟩ := F.out.1.cells
      obtain ⟨g1, g2, g3, g4⟩ := F.out.2.2.1.cells
      obtain ⟨g5, g6, g7, g8⟩ := F.out.2.2.1.free
      clear F hs
      go_wp2_with fail
      replace HE := Lib.hid (HE.out _ rfl)
      generalize World.setCell (World.setCell (World.setCell (World.setCell wr _ _) _ _) _ _) _ _ = V9 at HE ⊢
      obtain ⟨r1, r2, r3, r4⟩ := HE.out.1.cells
      try simp only [Exit.inBlock, Exit.then, Exit.noGoto]
      refine bodyPost_ret (by simp [results, Try.results41, go_sem, r1, r2, r3, r4]; try rfl) rfl ?_
      exact ⟨by rw [← E.out], HE.out.2⟩
end Go.Proofs.Ytdmoedjjbhkdmaa
