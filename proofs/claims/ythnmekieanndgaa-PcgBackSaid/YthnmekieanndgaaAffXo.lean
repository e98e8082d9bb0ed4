/-
  What Odd of package affine answers.
-/
import Derived.Test.YthnmekieanndgaaAffXc
import Derived.Deep.LoopGhost
import Derived.Deep.RegionWith
namespace Go.Proofs.Ythnmekieanndgaa
open Go.RowKit G
set_option linter.unusedVariables false
set_option maxRecDepth 100000

set_option maxHeartbeats 4000000 in
theorem xOddN (h l : Int) (n : Nat) (w : World) (i : Wn h l n) (hn : n % 2 = 0) : Calls Try.prog 42 #[.agg #[.int .u64 h, .int .u64 l]] w (AnsWE 0 1 w) := by
  have B : Hid (∀ W, Calls Try.prog 46 #[.agg #[.int .u64 h, .int .u64 l], .int .i64 0] W (AnsI 0 W)) := Lib.hid fun W => cBit0 i 0 (by omega) W
  have U := U2.new w h l
  have z1 : (w.alloc (.cells #[.int .u64 h, .int .u64 l] 24)).heap.size = w.heap.size + 1 := Array.size_push _
  have L := below_allocs w (.cells #[.int .u64 h, .int .u64 l] 24)
  have H1 := Lib.hid (And.intro U (And.intro z1 L))
  clear U z1 L
  go_enter Try.func42, Try.ntmps42
  go_upto_region 1 with fail
  generalize w.alloc _ = V1 at H1 ⊢
  have UX := U2.new V1 0 0
  rw [H1.out.2.1] at UX
  have LB := below_allocs V1 (.cells #[.int .u64 0, .int .u64 0] 24)
  have H2 := Lib.hid (And.intro (H1.out.1.below LB) (And.intro UX (below_then H1.out.2.2 LB)))
  clear UX LB H1
  generalize V1.alloc _ = V2 at H2 ⊢
  have hc : w.heap.size ≤ w.heap.size + 1 := Nat.le_succ _
  generalize w.heap.size + 1 = cz at H2 hc ⊢
  obtain ⟨x1, x2⟩ := H2.out.1.cells
  go_wp2_with fail
  clear x1 x2
  refine (B.out _).mono ?_
  rintro e V3 ⟨rfl, hb⟩
  have Z := H2.out.2.1.below hb
  have HR := Lib.hid (U2.put (p' := 0) (q' := 0) Z)
  have HB : Hid (Below w.heap.size w ((V3.setCell ⟨cz, 0, none⟩ (.int .u64 0)).setCell ⟨cz, 1, none⟩ (.int .u64 0))) := Lib.hid (below_putU2 (below_then H2.out.2.2 hb) hc _ _)
  obtain ⟨x1, x2⟩ := Z.cells
  obtain ⟨f1, f2⟩ := Z.free
  clear H2 Z hb B
  go_wp2_with fail
  generalize World.setCell (World.setCell V3 _ _) _ _ = V9 at HR HB ⊢
  obtain ⟨r1, r2⟩ := HR.out.cells
  try simp only [Exit.inBlock, Exit.then, Exit.noGoto]
  refine bodyPost_ret (by simp [results, Try.results42, go_sem, r1, r2]; try rfl) rfl ?_
  exact ⟨rfl, HB.out⟩
/-- How many bits are right behind so many rounds. -/
def rgt (g : Nat) : Nat := 3 * 2 ^ (6 - g)
theorem rgt_facts : ∀ j, j < 6 → rgt (j + 1) < 128 ∧ 2 * rgt (j + 1) = rgt j := by decide
set_option maxHeartbeats 8000000 in
theorem xoddMain (h l : Int) (n : Nat) (w : World)
    (B : Hid (∀ W, Calls Try.prog 46 #[.agg #[.int .u64 h, .int .u64 l], .int .i64 0] W (AnsI 1 W)))
    (O : Hid (TN 17 #[.int .u64 2] 0 2))
    (S : Hid (∀ (r b : Nat) (p q : Int), Wn p q b → OddIs n r b → ∀ r', r' ≤ 2 * r → r' ≤ 128 → ∃ (o0 o1 s0 s1 q0 q1 : Int) (u : Bool) (b' : Nat), Wn q0 q1 b' ∧ OddIs n r' b' ∧ TN 34 #[.agg #[.int .u64 h, .int .u64 l], .agg #[.int .u64 p, .int .u64 q]] o0 o1 ∧ TNB 43 #[.agg #[.int .u64 0, .int .u64 2], .agg #[.int .u64 o0, .int .u64 o1]] s0 s1 u ∧ TN 34 #[.agg #[.int .u64 p, .int .u64 q], .agg #[.int .u64 s0, .int .u64 s1]] q0 q1))
    (I : Hid (Wn h l n ∧ OddIs n 3 n)) :
    Calls Try.prog 42 #[.agg #[.int .u64 h, .int .u64 l]] w (fun e w' => ∃ (p q : Int) (b : Nat), Wn p q b ∧ OddIs n 128 b ∧ e = .returned (.tuple #[.agg #[.int .u64 p, .int .u64 q], .int .i64 0]) ∧ Below w.heap.size w w') := by
  have U := U2.new w h l
  have z1 : (w.alloc (.cells #[.int .u64 h, .int .u64 l] 24)).heap.size = w.heap.size + 1 := Array.size_push _
  have L := below_allocs w (.cells #[.int .u64 h, .int .u64 l] 24)
  have H1 := Lib.hid (And.intro U (And.intro z1 L))
  clear U z1 L
  go_enter Try.func42, Try.ntmps42
  go_upto_region 1 with fail
  generalize w.alloc _ = V1 at H1 ⊢
  have UX := U2.new V1 0 0
  have z2 : (V1.alloc (.cells #[.int .u64 0, .int .u64 0] 24)).heap.size = w.heap.size + 1 + 1 := (Array.size_push _).trans (by rw [H1.out.2.1])
  rw [H1.out.2.1] at UX
  have LB := below_allocs V1 (.cells #[.int .u64 0, .int .u64 0] 24)
  have H2 := Lib.hid (And.intro (H1.out.1.below LB) (And.intro UX (below_then H1.out.2.2 LB)))
  clear UX LB H1 z2
  generalize V1.alloc _ = V2 at H2 ⊢
  have hc : w.heap.size ≤ w.heap.size + 1 := Nat.le_succ _
  have hz : w.heap.size + 1 ≠ w.heap.size := Nat.succ_ne_self _
  generalize w.heap.size + 1 = cz at H2 hc hz ⊢
  obtain ⟨x1, x2⟩ := H2.out.1.cells
  go_wp2_with fail
  clear x1 x2
  refine (B.out _).mono ?_
  rintro e V3 ⟨rfl, hb⟩
  have H3 := Lib.hid (And.intro (H2.out.1.below hb) (And.intro (H2.out.2.1.below hb) (below_then H2.out.2.2 hb)))
  clear H2 hb B
  obtain ⟨x1, x2⟩ := H3.out.1.cells
  go_upto_region 4 with fail
  clear x1 x2
  have UB := U2.new V3 h l
  have LB := below_allocs V3 (.cells #[.int .u64 h, .int .u64 l] 24)
  have H4 := Lib.hid (And.intro (H3.out.1.below LB) (And.intro (H3.out.2.1.below LB) (And.intro UB (below_then H3.out.2.2 LB))))
  have nn : w.heap.size ≠ V3.heap.size := Nat.ne_of_lt H3.out.1.lt
  have nz : cz ≠ V3.heap.size := Nat.ne_of_lt H3.out.2.1.lt
  have hb' : w.heap.size ≤ V3.heap.size := H3.out.2.2.size
  clear UB LB H3
  generalize V3.alloc _ = V4 at H4 ⊢
  generalize V3.heap.size = cb at H4 nn nz hb' ⊢
  go_wp2_with fail
  have F0 : Hid (U2 V4 w.heap.size h l ∧ U2 V4 cz 0 0 ∧ (∃ (p q : Int) (b : Nat), Wn p q b ∧ OddIs n (min (rgt 6) 128) b ∧ U2 V4 cb p q) ∧ Below w.heap.size w V4) := Lib.hid ⟨H4.out.1, H4.out.2.1, ⟨h, l, n, I.out.1, I.out.2, H4.out.2.2.1⟩, H4.out.2.2.2⟩
  have Hc := Lib.hid (And.intro hc (And.intro hb' (And.intro nn (And.intro nz hz))))
  clear H4 hc hb' nn nz hz I
  go_loopg [5] 6 (fun gh z wr => ∃ v : Int, z = .int .i64 v ∧ v = (rgt gh : Int) ∧ gh ≤ 6 ∧ Hid (U2 wr w.heap.size h l ∧ U2 wr cz 0 0 ∧ (∃ (p q : Int) (b : Nat), Wn p q b ∧ OddIs n (min (rgt gh) 128) b ∧ U2 wr cb p q) ∧ Below w.heap.size w wr))
  case atStart => exact ⟨_, rfl, rfl, Nat.le_refl _, F0⟩
  case round =>
    obtain ⟨v, rfl, hv, hle, F⟩ := hrel
    clear F0
    rcases gk with _ | j
    · obtain rfl : v = 192 := hv
      clear hle S O
      obtain ⟨FN, FZ, ⟨p, q, b, hw, ho, FB⟩, FL⟩ := F.out
      have HQ := Lib.hid (And.intro hw ho)
      have HR := Lib.hid (U2.put (p' := p) (q' := q) FZ)
      have HB : Hid (Below w.heap.size w ((wr.setCell ⟨cz, 0, none⟩ (.int .u64 p)).setCell ⟨cz, 1, none⟩ (.int .u64 q))) := Lib.hid (below_putU2 FL Hc.out.1 _ _)
      obtain ⟨x1, x2⟩ := FB.cells
      obtain ⟨y1, y2⟩ := FZ.cells
      obtain ⟨f1, f2⟩ := FZ.free
      clear F FN FZ FB FL hw ho
      go_wp2_with fail
      generalize World.setCell (World.setCell wr _ _) _ _ = V9 at HR HB ⊢
      obtain ⟨r1, r2⟩ := HR.out.cells
      try simp only [Exit.inBlock, Exit.then, Exit.noGoto]
      refine bodyPost_ret (by simp [results, Try.results42, go_sem, r1, r2]; try rfl) rfl ?_
      exact ⟨p, q, b, HQ.out.1, HQ.out.2, rfl, HB.out⟩
    · have hj : j < 6 := by omega
      obtain ⟨r1, r2⟩ := rgt_facts j hj
      have k1 : v < 128 := by omega
      have w1 : IntKind.i64.wrap (v * 2) = v * 2 := by rw [IntKind.wrap_i64]; omega
      have hv2 := Lib.hid (show v * 2 = (rgt j : Int) by omega)
      obtain ⟨FN, FZ, ⟨p, q, b, hw, ho, FB⟩, FL⟩ := F.out
      obtain ⟨o0, o1, s0, s1, q0, q1, u, b', hw', ho', M, D, M2⟩ := S.out _ b p q hw ho (min (rgt j) 128) (by omega) (by omega)
      have HJ := Lib.hid (And.intro hj (And.intro hw' ho'))
      have M := Lib.hid M
      have D := Lib.hid D
      have M2 := Lib.hid M2
      have HK := Lib.hid (And.intro FN (And.intro FZ FB))
      have HL := Lib.hid FL
      clear F FN FZ FB FL hw ho hw' ho' hv hj r1 r2 S
      go_upto_region 7 with fail
      obtain ⟨W5, h5⟩ : ∃ x : World, x = wr := ⟨_, rfl⟩
      subst h5
      go_cut [6] (CutU W5 s0 s1)
      case first =>
        have hX : Below W5.heap.size W5 W5 := Below.refl _ _
        obtain ⟨f1, f2⟩ := HK.out.1.cells
        obtain ⟨f3, f4⟩ := HK.out.2.2.cells
        have l0 : w.heap.size < W5.heap.size := HK.out.1.lt
        have l1 : cb < W5.heap.size := HK.out.2.2.lt
        go_region_held3 (fun w' => w'.cell? ⟨w.heap.size, 0, none⟩ = some (.int .u64 h) ∧ w'.cell? ⟨w.heap.size, 1, none⟩ = some (.int .u64 l) ∧ w'.cell? ⟨cb, 0, none⟩ = some (.int .u64 p) ∧ w'.cell? ⟨cb, 1, none⟩ = some (.int .u64 q)) (go_keep) (first
      | (go_at_call 17; (with_reducible refine (O.out _).mono ?_); rintro e xo ⟨rfl, hb⟩; (first | (have z_W5 : U2 xo W5.heap.size 0 0 := u2_early (w := World.drew W5) hb; obtain ⟨aoW50, aoW51⟩ := U2.cells z_W5; obtain ⟨aoW52, aoW53⟩ := U2.free z_W5; have aoW54 := U2.lt z_W5) | (have z_xm : U2 xo xm.heap.size 0 0 := u2_early (w := xm) hb; obtain ⟨aoxm0, aoxm1⟩ := U2.cells z_xm; obtain ⟨aoxm2, aoxm3⟩ := U2.free z_xm; have aoxm4 := U2.lt z_xm) | skip); (first | (replace z_W5 := U2.below z_W5 hb; obtain ⟨boW50, boW51⟩ := U2.cells z_W5; obtain ⟨boW52, boW53⟩ := U2.free z_W5; have boW54 := U2.lt z_W5) | skip); (first | (replace z_xm := U2.below z_xm hb; obtain ⟨boxm0, boxm1⟩ := U2.cells z_xm; obtain ⟨boxm2, boxm3⟩ := U2.free z_xm; have boxm4 := U2.lt z_xm) | skip); replace hX := below_then (show Below W5.heap.size W5 _ by first | exact hX | exact hX.drew | exact hX.alloc hX.size _ | exact hX.drew.alloc hX.drew.size _) hb; clear hb; have s_xo : W5.heap.size ≤ xo.heap.size := hX.size; have do0 := Nat.ne_of_lt l0; have do0s := Nat.ne_of_gt l0; clear l0; have do1 := Nat.ne_of_lt l1; have do1s := Nat.ne_of_gt l1; clear l1; clear f1 f2 f3 f4; obtain ⟨f1, f2⟩ := (HK.out.1.below hX).cells; obtain ⟨f3, f4⟩ := (HK.out.2.2.below hX).cells; have l0 := (HK.out.1.below hX).lt; have l1 := (HK.out.2.2.below hX).lt; have eo0 := Nat.ne_of_lt l0; have eo0s := Nat.ne_of_gt l0; have eo1 := Nat.ne_of_lt l1; have eo1s := Nat.ne_of_gt l1)
      | (go_at_call 34; (with_reducible refine (M.out _).mono ?_); rintro e xm ⟨rfl, hb⟩; (first | (have z_W5 : U2 xm W5.heap.size 0 0 := u2_early (w := World.drew W5) hb; obtain ⟨amW50, amW51⟩ := U2.cells z_W5; obtain ⟨amW52, amW53⟩ := U2.free z_W5; have amW54 := U2.lt z_W5) | (have z_xo : U2 xm xo.heap.size 0 0 := u2_early (w := xo) hb; obtain ⟨amxo0, amxo1⟩ := U2.cells z_xo; obtain ⟨amxo2, amxo3⟩ := U2.free z_xo; have amxo4 := U2.lt z_xo) | skip); (first | (replace z_W5 := U2.below z_W5 hb; obtain ⟨bmW50, bmW51⟩ := U2.cells z_W5; obtain ⟨bmW52, bmW53⟩ := U2.free z_W5; have bmW54 := U2.lt z_W5) | skip); (first | (replace z_xo := U2.below z_xo hb; obtain ⟨bmxo0, bmxo1⟩ := U2.cells z_xo; obtain ⟨bmxo2, bmxo3⟩ := U2.free z_xo; have bmxo4 := U2.lt z_xo) | skip); replace hX := below_then (show Below W5.heap.size W5 _ by first | exact hX | exact hX.drew | exact hX.alloc hX.size _ | exact hX.drew.alloc hX.drew.size _) hb; clear hb; have s_xm : W5.heap.size ≤ xm.heap.size := hX.size; have dm0 := Nat.ne_of_lt l0; have dm0s := Nat.ne_of_gt l0; clear l0; have dm1 := Nat.ne_of_lt l1; have dm1s := Nat.ne_of_gt l1; clear l1; clear f1 f2 f3 f4; obtain ⟨f1, f2⟩ := (HK.out.1.below hX).cells; obtain ⟨f3, f4⟩ := (HK.out.2.2.below hX).cells; have l0 := (HK.out.1.below hX).lt; have l1 := (HK.out.2.2.below hX).lt; have em0 := Nat.ne_of_lt l0; have em0s := Nat.ne_of_gt l0; have em1 := Nat.ne_of_lt l1; have em1s := Nat.ne_of_gt l1)
      | (go_at_call 43; (with_reducible refine (D.out _).mono ?_); rintro e xs ⟨rfl, hb⟩; (first | (have z_W5 : U2 xs W5.heap.size 0 0 := u2_early (w := World.drew W5) hb; obtain ⟨asW50, asW51⟩ := U2.cells z_W5; obtain ⟨asW52, asW53⟩ := U2.free z_W5; have asW54 := U2.lt z_W5) | (have z_xo : U2 xs xo.heap.size 0 0 := u2_early (w := xo) hb; obtain ⟨asxo0, asxo1⟩ := U2.cells z_xo; obtain ⟨asxo2, asxo3⟩ := U2.free z_xo; have asxo4 := U2.lt z_xo) | (have z_xm : U2 xs xm.heap.size 0 0 := u2_early (w := xm) hb; obtain ⟨asxm0, asxm1⟩ := U2.cells z_xm; obtain ⟨asxm2, asxm3⟩ := U2.free z_xm; have asxm4 := U2.lt z_xm) | skip); (first | (replace z_W5 := U2.below z_W5 hb; obtain ⟨bsW50, bsW51⟩ := U2.cells z_W5; obtain ⟨bsW52, bsW53⟩ := U2.free z_W5; have bsW54 := U2.lt z_W5) | skip); (first | (replace z_xo := U2.below z_xo hb; obtain ⟨bsxo0, bsxo1⟩ := U2.cells z_xo; obtain ⟨bsxo2, bsxo3⟩ := U2.free z_xo; have bsxo4 := U2.lt z_xo) | skip); (first | (replace z_xm := U2.below z_xm hb; obtain ⟨bsxm0, bsxm1⟩ := U2.cells z_xm; obtain ⟨bsxm2, bsxm3⟩ := U2.free z_xm; have bsxm4 := U2.lt z_xm) | skip); replace hX := below_then (show Below W5.heap.size W5 _ by first | exact hX | exact hX.drew | exact hX.alloc hX.size _ | exact hX.drew.alloc hX.drew.size _) hb; clear hb; have s_xs : W5.heap.size ≤ xs.heap.size := hX.size; have ds0 := Nat.ne_of_lt l0; have ds0s := Nat.ne_of_gt l0; clear l0; have ds1 := Nat.ne_of_lt l1; have ds1s := Nat.ne_of_gt l1; clear l1; clear f1 f2 f3 f4; obtain ⟨f1, f2⟩ := (HK.out.1.below hX).cells; obtain ⟨f3, f4⟩ := (HK.out.2.2.below hX).cells; have l0 := (HK.out.1.below hX).lt; have l1 := (HK.out.2.2.below hX).lt; have es0 := Nat.ne_of_lt l0; have es0s := Nat.ne_of_gt l0; have es1 := Nat.ne_of_lt l1; have es1s := Nat.ne_of_gt l1))
        all_goals
          go_wp2_with fail
          go_meet
          first
            | with_reducible exact CutU.of hX
            | with_reducible exact CutU.early hX (Nat.le_refl _) z_W5
            | with_reducible exact CutU.early hX s_xo z_xo
            | with_reducible exact CutU.early hX s_xm z_xm
            | with_reducible exact CutU.early hX s_xs z_xs
      obtain ⟨bf, rfl, UF, hX⟩ := hcut
      have K2 := Lib.hid (And.intro (HK.out.1.below hX) (And.intro (HK.out.2.1.below hX) (And.intro (HK.out.2.2.below hX) (And.intro UF (below_then HL.out hX)))))
      clear HK UF HL hX M D O
      obtain ⟨x1, x2⟩ := K2.out.2.2.1.cells
      obtain ⟨y1, y2⟩ := K2.out.2.2.2.1.cells
      go_wp2_with fail
      refine (M2.out _).mono ?_
      rintro e W6 ⟨rfl, hb⟩
      clear x1 x2 y1 y2 M2
      have B6 := K2.out.2.2.1.below hb
      have K3 := Lib.hid (And.intro (K2.out.1.below hb) (And.intro (K2.out.2.1.below hb) (And.intro B6 (below_then K2.out.2.2.2.2 hb))))
      obtain ⟨x1, x2⟩ := B6.cells
      obtain ⟨f1, f2⟩ := B6.free
      clear K2 hb B6
      go_wp2_with fail
      go_roundg j
      case measure => omega
      case rel => exact ⟨_, rfl, hv2.out, by omega, Lib.hid ⟨K3.out.1.far2 Hc.out.2.2.1 _ _, K3.out.2.1.far2 Hc.out.2.2.2.1 _ _, ⟨q0, q1, b', HJ.out.2.1, HJ.out.2.2, U2.put K3.out.2.2.1⟩, below_putU2 K3.out.2.2.2 Hc.out.2.1 _ _⟩⟩
theorem xOddY (h l : Int) (n : Nat) (W : World) (i : Wn h l n) (hn : n % 2 = 1) : Calls Try.prog 42 #[.agg #[.int .u64 h, .int .u64 l]] W (AnsWE (invQ n) 0 W) := by
  refine (xoddMain h l n W (Lib.hid fun V => cBit0 i 1 (by omega) V) (Lib.hid fun V => cOf 2 2 rfl (by decide) V) (Lib.hid ?_) (Lib.hid ⟨i, odd_start hn i.lt⟩)).mono ?_
  · intro r b p q hw ho r' h1 h2
    have j2 : Wn 0 2 2 := ⟨by decide, by decide, by decide, by decide, rfl⟩
    have l1 : n * b % Q < Q := Nat.mod_lt _ (by decide)
    have l2 : (2 + (Q - n * b % Q)) % Q < Q := Nat.mod_lt _ (by decide)
    have l3 : nextOdd n b < Q := Nat.mod_lt _ (by decide)
    exact ⟨_, _, _, _, _, _, _, _, wn_of l3, odd_next ho h1 h2, fun V => cMul128 i hw V, fun V => cSub128 j2 (wn_of l1) V, fun V => cMul128 hw (wn_of l2) V⟩
  · rintro e w' ⟨p, q, b, hw, ho, rfl, hb⟩
    obtain ⟨rfl, rfl⟩ := hw.of
    rw [odd_end hn ho]
    exact ⟨rfl, hb⟩
end Go.Proofs.Ythnmekieanndgaa
