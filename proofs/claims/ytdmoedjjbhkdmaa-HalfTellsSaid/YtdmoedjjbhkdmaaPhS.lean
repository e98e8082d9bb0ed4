/-
  What the reference of layer 11 answers: so many rounds.
-/
import Derived.Test.YtdmoedjjbhkdmaaPhR
namespace Go.Proofs.Ytdmoedjjbhkdmaa
open Go.RowKit
set_option linter.unusedVariables false
set_option maxRecDepth 100000

set_option maxHeartbeats 8000000 in
theorem rMix (x : Bk) (k : Ky) (hx : x.Ok) (hk : k.Ok) (n : Nat) (hn : n ≤ 1000) : TB 25 #[x.val, k.val, .int .i64 (n : Int)] (mixB x k n) := fun w => by
  have U := B4.new 46 w x.a x.b x.c x.d
  have z1 : (w.alloc (.cells #[.int .u32 (x.a : Int), .int .u32 (x.b : Int), .int .u32 (x.c : Int), .int .u32 (x.d : Int)] 46)).heap.size = w.heap.size + 1 := Array.size_push _
  have L := below_allocs w (.cells #[.int .u32 (x.a : Int), .int .u32 (x.b : Int), .int .u32 (x.c : Int), .int .u32 (x.d : Int)] 46)
  have H1 := Lib.hid (And.intro U (And.intro z1 L))
  clear U z1 L
  go_enter Try.func25, Try.ntmps25
  go_upto_region 1 with fail
  generalize w.alloc _ = V1 at H1 ⊢
  have UX := B2.new 26 V1 k.k k.m
  have z2 : (V1.alloc (.cells #[.int .u32 (k.k : Int), .int .u32 (k.m : Int)] 26)).heap.size = w.heap.size + 1 + 1 := (Array.size_push _).trans (by rw [H1.out.2.1])
  rw [H1.out.2.1] at UX
  have LB := below_allocs V1 (.cells #[.int .u32 (k.k : Int), .int .u32 (k.m : Int)] 26)
  have H2 := Lib.hid (And.intro (H1.out.1.below LB) (And.intro UX (And.intro z2 (below_then H1.out.2.2 LB))))
  clear UX z2 LB H1
  generalize V1.alloc _ = V2 at H2 ⊢
  have UZ := B4.new 46 V2 0 0 0 0
  rw [H2.out.2.2.1] at UZ
  have LB := below_allocs V2 (.cells #[.int .u32 0, .int .u32 0, .int .u32 0, .int .u32 0] 46)
  have HK := Lib.hid (And.intro (H2.out.1.below LB) (And.intro UZ (And.intro (H2.out.2.1.below LB) (below_then H2.out.2.2.2 LB))))
  clear UZ LB H2
  generalize V2.alloc _ = V4 at HK ⊢
  have hc : w.heap.size ≤ w.heap.size + 1 + 1 := Nat.le_trans (Nat.le_succ _) (Nat.le_succ _)
  have hn1 : w.heap.size ≤ w.heap.size + 1 := Nat.le_succ _
  have n1 : w.heap.size + 1 ≠ w.heap.size := by omega
  have n2 : w.heap.size + 1 + 1 ≠ w.heap.size := by omega
  have n3 : w.heap.size + 1 + 1 ≠ w.heap.size + 1 := by omega
  have Hc := Lib.hid (And.intro hc (And.intro hn1 (And.intro n1 (And.intro n2 n3))))
  clear hc hn1 n1 n2 n3
  generalize w.heap.size + 1 + 1 = cz at HK Hc ⊢
  generalize w.heap.size + 1 = cn at HK Hc ⊢
  have F0 : Hid (B4 46 V4 w.heap.size x.a x.b x.c x.d ∧ B2 26 V4 cn k.k k.m ∧ B4 46 V4 cz 0 0 0 0 ∧ Below w.heap.size w V4) := Lib.hid ⟨HK.out.1, HK.out.2.2.1, HK.out.2.1, HK.out.2.2.2⟩
  clear HK
  go_wp2_with fail
  go_loopg [7] n (fun gh z wr => ∃ (j : Nat) (y : Bk) (l : Ky), j + gh = n ∧ z = .int .i64 (j : Int) ∧ Hid (y = mixB x k j ∧ l = iterK k j) ∧ Hid (B4 46 wr w.heap.size y.a y.b y.c y.d ∧ B2 26 wr cn l.k l.m ∧ B4 46 wr cz 0 0 0 0 ∧ Below w.heap.size w wr))
  case atStart => exact ⟨0, x, k, by omega, rfl, Lib.hid ⟨rfl, rfl⟩, F0⟩
  case round =>
    obtain ⟨j, y, l, hg, rfl, hs, F⟩ := hrel
    clear F0
    by_cases hlt : j < n
    · have pl : (j : Int) < (n : Int) := by omega
      have CR := Lib.hid (rRound y l (by rw [hs.out.1]; exact mixB_ok hx hk j) (by rw [hs.out.2]; exact iterK_ok hk j))
      have CN := Lib.hid (rNext l (by rw [hs.out.2]; exact iterK_ok hk j))
      have E : Hid (roundB y l = mixB x k (j + 1) ∧ nextK l = iterK k (j + 1)) := Lib.hid (by rw [hs.out.1, hs.out.2]; exact ⟨rfl, rfl⟩)
      generalize roundB y l = y' at CR E
      generalize nextK l = l' at CN E
      have w1 : IntKind.i64.wrap ((j : Int) + 1) = ((j + 1 : Nat) : Int) := by rw [IntKind.wrap_i64]; omega
      obtain ⟨x1, x2, x3, x4⟩ := F.out.1.cells
      obtain ⟨v1, v2⟩ := F.out.2.1.cells
      clear hs
      go_wp2_with fail
      refine (CR.out _).mono ?_
      rintro e W1 ⟨rfl, hb⟩
      clear x1 x2 x3 x4 v1 v2 CR
      have B1 := F.out.1.below hb
      have F1 := Lib.hid (And.intro (B4.put (p' := (y'.a : Int)) (q' := (y'.b : Int)) (r' := (y'.c : Int)) (s' := (y'.d : Int)) B1) (And.intro ((F.out.2.1.below hb).far4 Hc.out.2.2.1 (.int .u32 (y'.a : Int)) (.int .u32 (y'.b : Int)) (.int .u32 (y'.c : Int)) (.int .u32 (y'.d : Int))) (And.intro ((F.out.2.2.1.below hb).far4 Hc.out.2.2.2.1 (.int .u32 (y'.a : Int)) (.int .u32 (y'.b : Int)) (.int .u32 (y'.c : Int)) (.int .u32 (y'.d : Int))) (below_put4 (below_then F.out.2.2.2 hb) (Nat.le_refl _) (.int .u32 (y'.a : Int)) (.int .u32 (y'.b : Int)) (.int .u32 (y'.c : Int)) (.int .u32 (y'.d : Int))))))
      obtain ⟨x1, x2, x3, x4⟩ := B1.cells
      obtain ⟨g1, g2, g3, g4⟩ := B1.free
      clear B1 hb F
      go_upto_region 5 with fail
      clear x1 x2 x3 x4 g1 g2 g3 g4
      generalize World.setCell (World.setCell (World.setCell (World.setCell W1 _ _) _ _) _ _) _ _ = V5 at F1 ⊢
      obtain ⟨v1, v2⟩ := F1.out.2.1.cells
      go_wp2_with fail
      refine (CN.out _).mono ?_
      rintro e W2 ⟨rfl, hb⟩
      clear v1 v2 CN
      have B1 := F1.out.2.1.below hb
      have F2 := Lib.hid (And.intro ((F1.out.1.below hb).far2 Hc.out.2.2.1.symm (.int .u32 (l'.k : Int)) (.int .u32 (l'.m : Int))) (And.intro (B2.put (p' := (l'.k : Int)) (q' := (l'.m : Int)) B1) (And.intro ((F1.out.2.2.1.below hb).far2 Hc.out.2.2.2.2 (.int .u32 (l'.k : Int)) (.int .u32 (l'.m : Int))) (below_put2 (below_then F1.out.2.2.2 hb) Hc.out.2.1 (.int .u32 (l'.k : Int)) (.int .u32 (l'.m : Int))))))
      obtain ⟨v1, v2⟩ := B1.cells
      obtain ⟨g1, g2⟩ := B1.free
      clear B1 hb F1
      go_wp2_with fail
      go_roundg (gk - 1)
      case measure => omega
      case rel => exact ⟨j + 1, y', l', by omega, by first | rfl | go_num, E, F2⟩
    · obtain rfl : j = n := by omega
      have pl : ¬ ((j : Int) < (j : Int)) := by omega
      have E := Lib.hid hs.out.1
      have HR := Lib.hid (B4.put (p' := (y.a : Int)) (q' := (y.b : Int)) (r' := (y.c : Int)) (s' := (y.d : Int)) F.out.2.2.1)
      have HB := Lib.hid (below_put4 F.out.2.2.2 Hc.out.1 (.int .u32 (y.a : Int)) (.int .u32 (y.b : Int)) (.int .u32 (y.c : Int)) (.int .u32 (y.d : Int)))
      obtain ⟨x1, x2, x3, x4⟩ := F.out.1.cells
      obtain ⟨g1, g2, g3, g4⟩ := F.out.2.2.1.cells
      obtain ⟨g5, g6, g7, g8⟩ := F.out.2.2.1.free
      clear F hs
      go_wp2_with fail
      generalize World.setCell (World.setCell (World.setCell (World.setCell wr _ _) _ _) _ _) _ _ = V9 at HR HB ⊢
      obtain ⟨r1, r2, r3, r4⟩ := HR.out.cells
      try simp only [Exit.inBlock, Exit.then, Exit.noGoto]
      refine bodyPost_ret (by simp [results, Try.results25, go_sem, r1, r2, r3, r4]; try rfl) rfl ?_
      exact ⟨by rw [← E.out], HB.out⟩
end Go.Proofs.Ytdmoedjjbhkdmaa
