/-
  WideTells of layer 1 answers true: the walk. Made by wip/gen/widetells.py.
-/
import Derived.Test.YtjgpmbgfcdckhaaWideTw
import Derived.BigRegion
import Derived.Deep.RegionHeld3
namespace Go.Proofs.Ytjgpmbgfcdckhaa
open Go.RowKit
set_option linter.unusedVariables false

set_option maxRecDepth 100000 in
set_option maxHeartbeats 8000000 in
theorem tellsWalk (A B n : Int) (pa : Option Addr) (pl pc : Nat) (S T M Q F L R l b c : Int) (c1 c2 : Bool) (Qd : Int) (str : ByteArray) (w : World) (C : Hid (Tl A B n w (.slice pa pl pc) S T M Q F L R l b c c1 c2 Qd str)) (hp : ¬ ((100 : Int) < (pl : Int))) :
    Calls Try.prog 3 #[.agg #[.int .u64 (hi A), .int .u64 (lo A)], .agg #[.int .u64 (hi B), .int .u64 (lo B)], .int .i64 n, .slice pa pl pc] w (fun e w' => e = .returned (.bool true) ∧ Below w.heap.size w w') := by
  go_enter Try.func3, Try.ntmps3
  go_wp2_with fail
  have K : Keeps [] w := trivial
  have hB : Below w.heap.size w w := Below.refl _ _
  replace K := K.new (A) 24
  replace hB := below_alloc hB (.cells #[.int .u64 (hi (A)), .int .u64 (lo (A))] 24)
  replace K := K.new (B) 24
  replace hB := below_alloc hB (.cells #[.int .u64 (hi (B)), .int .u64 (lo (B))] 24)
  try simp only [World.size_alloc] at K
  refine (awake _).mono ?_
  rintro e w1 ⟨rfl, hb⟩
  replace K := K.below hb
  replace hB := below_then hB hb
  clear hb
  go_upto_region 5 with fail
  go_cut [9, 10] (CutXY w [(w.heap.size + 1, B), (w.heap.size, A)] A B)
  case first =>
    obtain ⟨⟨sb, cb0, cb1⟩, ⟨sa, ca0, ca1⟩, -⟩ := id K
    go_region
    all_goals
      go_wp2_with fail
      go_meet
      first | exact cutXY_ab K hB | exact cutXY_ba K hB
  clear K hB
  obtain ⟨bx, by_, rfl, rfl, Hx, Hy, K, hB⟩ := hcut
  replace K : Keeps [(bx, A), (by_, B), (w.heap.size + 1, B), (w.heap.size, A)] wc := ⟨Hx, Hy, K⟩
  clear Hx Hy
  obtain ⟨⟨sx, cx0, cx1⟩, ⟨sy, cy0, cy1⟩, ⟨sb, cb0, cb1⟩, ⟨sa, ca0, ca1⟩, -⟩ := id K
  go_wp2_with fail
  clear sx cx0 cx1 sy cy0 cy1 sb cb0 cb1 sa ca0 ca1
  refine (C.out.add _).mono ?_
  rintro e w2 ⟨rfl, hb⟩
  replace K := K.below hb
  replace hB := below_then hB hb
  clear hb
  obtain ⟨⟨sx, cx0, cx1⟩, ⟨sy, cy0, cy1⟩, ⟨sb, cb0, cb1⟩, ⟨sa, ca0, ca1⟩, -⟩ := id K
  go_wp2_with fail
  clear sx cx0 cx1 sy cy0 cy1 sb cb0 cb1 sa ca0 ca1
  replace K := K.new (S) 24
  replace hB := below_alloc hB (.cells #[.int .u64 (hi (S)), .int .u64 (lo (S))] 24)
  refine (C.out.radd _).mono ?_
  rintro e w3 ⟨rfl, hb⟩
  replace K := K.below hb
  replace hB := below_then hB hb
  clear hb
  obtain ⟨⟨ss, cs0, cs1⟩, ⟨sx, cx0, cx1⟩, ⟨sy, cy0, cy1⟩, ⟨sb, cb0, cb1⟩, ⟨sa, ca0, ca1⟩, -⟩ := id K
  go_wp2_with fail
  clear ss cs0 cs1 sx cx0 cx1 sy cy0 cy1 sb cb0 cb1 sa ca0 ca1
  replace K := K.new (S) 27
  replace hB := below_alloc hB (.cells #[.int .u64 (hi (S)), .int .u64 (lo (S))] 27)
  refine (C.out.sub _).mono ?_
  rintro e w4 ⟨rfl, hb⟩
  replace K := K.below hb
  replace hB := below_then hB hb
  clear hb
  obtain ⟨⟨st, ct0, ct1⟩, ⟨ss, cs0, cs1⟩, ⟨sx, cx0, cx1⟩, ⟨sy, cy0, cy1⟩, ⟨sb, cb0, cb1⟩, ⟨sa, ca0, ca1⟩, -⟩ := id K
  go_wp2_with fail
  clear st ct0 ct1 ss cs0 cs1 sx cx0 cx1 sy cy0 cy1 sb cb0 cb1 sa ca0 ca1
  replace K := K.new (T) 24
  replace hB := below_alloc hB (.cells #[.int .u64 (hi (T)), .int .u64 (lo (T))] 24)
  refine (C.out.rsub _).mono ?_
  rintro e w5 ⟨rfl, hb⟩
  replace K := K.below hb
  replace hB := below_then hB hb
  clear hb
  obtain ⟨⟨sm, cm0, cm1⟩, ⟨st, ct0, ct1⟩, ⟨ss, cs0, cs1⟩, ⟨sx, cx0, cx1⟩, ⟨sy, cy0, cy1⟩, ⟨sb, cb0, cb1⟩, ⟨sa, ca0, ca1⟩, -⟩ := id K
  go_wp2_with fail
  clear sm cm0 cm1 st ct0 ct1 ss cs0 cs1 sx cx0 cx1 sy cy0 cy1 sb cb0 cb1 sa ca0 ca1
  replace K := K.new (T) 27
  replace hB := below_alloc hB (.cells #[.int .u64 (hi (T)), .int .u64 (lo (T))] 27)
  refine (C.out.take _ hB).mono ?_
  rintro e w6 ⟨rfl, hb⟩
  replace K := K.below hb
  replace hB := below_then hB hb
  clear hb
  obtain ⟨⟨sk, ck0, ck1⟩, ⟨sm, cm0, cm1⟩, ⟨st, ct0, ct1⟩, ⟨ss, cs0, cs1⟩, ⟨sx, cx0, cx1⟩, ⟨sy, cy0, cy1⟩, ⟨sb, cb0, cb1⟩, ⟨sa, ca0, ca1⟩, -⟩ := id K
  go_wp2_with fail
  clear sk ck0 ck1 sm cm0 cm1 st ct0 ct1 ss cs0 cs1 sx cx0 cx1 sy cy0 cy1 sb cb0 cb1 sa ca0 ca1
  replace K := K.new (Q) 24
  replace hB := below_alloc hB (.cells #[.int .u64 (hi (Q)), .int .u64 (lo (Q))] 24)
  refine (C.out.rtake _ hB).mono ?_
  rintro e w7 ⟨rfl, hb⟩
  replace K := K.below hb
  replace hB := below_then hB hb
  clear hb
  obtain ⟨⟨sq, cq0, cq1⟩, ⟨sk, ck0, ck1⟩, ⟨sm, cm0, cm1⟩, ⟨st, ct0, ct1⟩, ⟨ss, cs0, cs1⟩, ⟨sx, cx0, cx1⟩, ⟨sy, cy0, cy1⟩, ⟨sb, cb0, cb1⟩, ⟨sa, ca0, ca1⟩, -⟩ := id K
  go_upto_region 12 with fail
  clear sq cq0 cq1 sk ck0 ck1 sm cm0 cm1 st ct0 ct1 ss cs0 cs1 sx cx0 cx1 sy cy0 cy1 sb cb0 cb1 sa ca0 ca1
  replace K := K.new (Q) 27
  replace hB := below_alloc hB (.cells #[.int .u64 (hi (Q)), .int .u64 (lo (Q))] 27)
  generalize hW0 : World.alloc _ _ = W0 at K hB ⊢
  clear hW0
  have hX : Below W0.heap.size W0 W0 := Below.refl _ _
  obtain ⟨⟨sr, cr0, cr1⟩, ⟨sq, cq0, cq1⟩, ⟨sk, ck0, ck1⟩, ⟨sm, cm0, cm1⟩, ⟨st, ct0, ct1⟩, ⟨ss, cs0, cs1⟩, ⟨sx, cx0, cx1⟩, ⟨sy, cy0, cy1⟩, ⟨sb, cb0, cb1⟩, ⟨sa, ca0, ca1⟩, -⟩ := id K
  go_region_held3 (fun w' => w'.cell? ⟨w7.heap.size, 0, none⟩ = some (.int .u64 (hi (Q))) ∧ w'.cell? ⟨w7.heap.size, 1, none⟩ = some (.int .u64 (lo (Q))) ∧ w'.cell? ⟨w6.heap.size, 0, none⟩ = some (.int .u64 (hi (Q))) ∧ w'.cell? ⟨w6.heap.size, 1, none⟩ = some (.int .u64 (lo (Q))) ∧ w'.cell? ⟨w5.heap.size, 0, none⟩ = some (.int .u64 (hi (T))) ∧ w'.cell? ⟨w5.heap.size, 1, none⟩ = some (.int .u64 (lo (T))) ∧ w'.cell? ⟨w4.heap.size, 0, none⟩ = some (.int .u64 (hi (T))) ∧ w'.cell? ⟨w4.heap.size, 1, none⟩ = some (.int .u64 (lo (T))) ∧ w'.cell? ⟨w3.heap.size, 0, none⟩ = some (.int .u64 (hi (S))) ∧ w'.cell? ⟨w3.heap.size, 1, none⟩ = some (.int .u64 (lo (S))) ∧ w'.cell? ⟨w2.heap.size, 0, none⟩ = some (.int .u64 (hi (S))) ∧ w'.cell? ⟨w2.heap.size, 1, none⟩ = some (.int .u64 (lo (S))) ∧ w'.cell? ⟨bx, 0, none⟩ = some (.int .u64 (hi (A))) ∧ w'.cell? ⟨bx, 1, none⟩ = some (.int .u64 (lo (A))) ∧ w'.cell? ⟨by_, 0, none⟩ = some (.int .u64 (hi (B))) ∧ w'.cell? ⟨by_, 1, none⟩ = some (.int .u64 (lo (B))) ∧ w'.cell? ⟨w.heap.size + 1, 0, none⟩ = some (.int .u64 (hi (B))) ∧ w'.cell? ⟨w.heap.size + 1, 1, none⟩ = some (.int .u64 (lo (B))) ∧ w'.cell? ⟨w.heap.size, 0, none⟩ = some (.int .u64 (hi (A))) ∧ w'.cell? ⟨w.heap.size, 1, none⟩ = some (.int .u64 (lo (A)))) (go_keep) (first | (go_at_call 11; ((with_reducible refine (C.out.cmp _ ).mono ?_); rintro e x ⟨rfl, hb⟩; (try clear sr cr0 cr1 sq cq0 cq1 sk ck0 ck1 sm cm0 cm1 st ct0 ct1 ss cs0 cs1 sx cx0 cx1 sy cy0 cy1 sb cb0 cb1 sa ca0 ca1); replace hX := below_then (by first | exact hX | exact hX.drew) hb; clear hb; (try clear KX); have KX := K.below hX; obtain ⟨⟨sr, cr0, cr1⟩, ⟨sq, cq0, cq1⟩, ⟨sk, ck0, ck1⟩, ⟨sm, cm0, cm1⟩, ⟨st, ct0, ct1⟩, ⟨ss, cs0, cs1⟩, ⟨sx, cx0, cx1⟩, ⟨sy, cy0, cy1⟩, ⟨sb, cb0, cb1⟩, ⟨sa, ca0, ca1⟩, -⟩ := id KX; have sx := hX.size)) | (go_at_call 12; ((with_reducible refine (C.out.rcmp _ ).mono ?_); rintro e x ⟨rfl, hb⟩; (try clear sr cr0 cr1 sq cq0 cq1 sk ck0 ck1 sm cm0 cm1 st ct0 ct1 ss cs0 cs1 sx cx0 cx1 sy cy0 cy1 sb cb0 cb1 sa ca0 ca1); replace hX := below_then (by first | exact hX | exact hX.drew) hb; clear hb; (try clear KX); have KX := K.below hX; obtain ⟨⟨sr, cr0, cr1⟩, ⟨sq, cq0, cq1⟩, ⟨sk, ck0, ck1⟩, ⟨sm, cm0, cm1⟩, ⟨st, ct0, ct1⟩, ⟨ss, cs0, cs1⟩, ⟨sx, cx0, cx1⟩, ⟨sy, cy0, cy1⟩, ⟨sb, cb0, cb1⟩, ⟨sa, ca0, ca1⟩, -⟩ := id KX; have sx := hX.size)) | (go_at_call 13; ((with_reducible refine (C.out.of_ _ ).mono ?_); rintro e x ⟨rfl, hb⟩; (try clear sr cr0 cr1 sq cq0 cq1 sk ck0 ck1 sm cm0 cm1 st ct0 ct1 ss cs0 cs1 sx cx0 cx1 sy cy0 cy1 sb cb0 cb1 sa ca0 ca1); replace hX := below_then (by first | exact hX | exact hX.drew) hb; clear hb; (try clear KX); have KX := K.below hX; obtain ⟨⟨sr, cr0, cr1⟩, ⟨sq, cq0, cq1⟩, ⟨sk, ck0, ck1⟩, ⟨sm, cm0, cm1⟩, ⟨st, ct0, ct1⟩, ⟨ss, cs0, cs1⟩, ⟨sx, cx0, cx1⟩, ⟨sy, cy0, cy1⟩, ⟨sb, cb0, cb1⟩, ⟨sa, ca0, ca1⟩, -⟩ := id KX; have sx := hX.size)))
  go_upto_region 14 with fail
  replace K := K.below hX
  replace hB := below_then hB hX
  clear hX
  (try clear KX sr cr0 cr1 sq cq0 cq1 sk ck0 ck1 sm cm0 cm1 st ct0 ct1 ss cs0 cs1 sx cx0 cx1 sy cy0 cy1 sb cb0 cb1 sa ca0 ca1)
  dsimp only [List.append]
  have hX : Below x.heap.size x x := Below.refl _ _
  obtain ⟨-, -, -, -, -, -, ⟨sx, cx0, cx1⟩, ⟨sy, cy0, cy1⟩, ⟨sb, cb0, cb1⟩, ⟨sa, ca0, ca1⟩, -⟩ := id K
  go_region_held3 (fun w' => w'.cell? ⟨bx, 0, none⟩ = some (.int .u64 (hi (A))) ∧ w'.cell? ⟨bx, 1, none⟩ = some (.int .u64 (lo (A))) ∧ w'.cell? ⟨by_, 0, none⟩ = some (.int .u64 (hi (B))) ∧ w'.cell? ⟨by_, 1, none⟩ = some (.int .u64 (lo (B))) ∧ w'.cell? ⟨w.heap.size + 1, 0, none⟩ = some (.int .u64 (hi (B))) ∧ w'.cell? ⟨w.heap.size + 1, 1, none⟩ = some (.int .u64 (lo (B))) ∧ w'.cell? ⟨w.heap.size, 0, none⟩ = some (.int .u64 (hi (A))) ∧ w'.cell? ⟨w.heap.size, 1, none⟩ = some (.int .u64 (lo (A)))) (go_keep) (first | (go_at_call 14; ((with_reducible refine (C.out.mul _).mono ?_); rintro e z ⟨rfl, hb⟩; (try clear sx cx0 cx1 sy cy0 cy1 sb cb0 cb1 sa ca0 ca1); replace hX := below_then (by first | exact hX | exact hX.drew) hb; clear hb; (try clear KX); have KX := K.below hX; obtain ⟨-, -, -, -, -, -, ⟨sx, cx0, cx1⟩, ⟨sy, cy0, cy1⟩, ⟨sb, cb0, cb1⟩, ⟨sa, ca0, ca1⟩, -⟩ := id KX; have sx := hX.size)) | (go_at_call 15; ((with_reducible refine (C.out.rmul _).mono ?_); rintro e z ⟨rfl, hb⟩; (try clear sx cx0 cx1 sy cy0 cy1 sb cb0 cb1 sa ca0 ca1); replace hX := below_then (by first | exact hX | exact hX.drew) hb; clear hb; (try clear KX); have KX := K.below hX; obtain ⟨-, -, -, -, -, -, ⟨sx, cx0, cx1⟩, ⟨sy, cy0, cy1⟩, ⟨sb, cb0, cb1⟩, ⟨sa, ca0, ca1⟩, -⟩ := id KX; have sx := hX.size)) | (go_at_call 16; ((with_reducible refine (C.out.full _).mono ?_); rintro e z ⟨rfl, hb⟩; (try clear sx cx0 cx1 sy cy0 cy1 sb cb0 cb1 sa ca0 ca1); replace hX := below_then (by first | exact hX | exact hX.drew) hb; clear hb; (try clear KX); have KX := K.below hX; obtain ⟨-, -, -, -, -, -, ⟨sx, cx0, cx1⟩, ⟨sy, cy0, cy1⟩, ⟨sb, cb0, cb1⟩, ⟨sa, ca0, ca1⟩, -⟩ := id KX; have sx := hX.size)) | (go_at_call 15; ((with_reducible refine (C.out.rfull _).mono ?_); rintro e z ⟨rfl, hb⟩; (try clear sx cx0 cx1 sy cy0 cy1 sb cb0 cb1 sa ca0 ca1); replace hX := below_then (by first | exact hX | exact hX.drew) hb; clear hb; (try clear KX); have KX := K.below hX; obtain ⟨-, -, -, -, -, -, ⟨sx, cx0, cx1⟩, ⟨sy, cy0, cy1⟩, ⟨sb, cb0, cb1⟩, ⟨sa, ca0, ca1⟩, -⟩ := id KX; have sx := hX.size)) | (go_at_call 17; ((with_reducible refine (C.out.left _).mono ?_); rintro e z ⟨rfl, hb⟩; (try clear sx cx0 cx1 sy cy0 cy1 sb cb0 cb1 sa ca0 ca1); replace hX := below_then (by first | exact hX | exact hX.drew) hb; clear hb; (try clear KX); have KX := K.below hX; obtain ⟨-, -, -, -, -, -, ⟨sx, cx0, cx1⟩, ⟨sy, cy0, cy1⟩, ⟨sb, cb0, cb1⟩, ⟨sa, ca0, ca1⟩, -⟩ := id KX; have sx := hX.size)) | (go_at_call 18; ((with_reducible refine (C.out.rleft _).mono ?_); rintro e z ⟨rfl, hb⟩; (try clear sx cx0 cx1 sy cy0 cy1 sb cb0 cb1 sa ca0 ca1); replace hX := below_then (by first | exact hX | exact hX.drew) hb; clear hb; (try clear KX); have KX := K.below hX; obtain ⟨-, -, -, -, -, -, ⟨sx, cx0, cx1⟩, ⟨sy, cy0, cy1⟩, ⟨sb, cb0, cb1⟩, ⟨sa, ca0, ca1⟩, -⟩ := id KX; have sx := hX.size)) | (go_at_call 19; ((with_reducible refine (C.out.right _).mono ?_); rintro e z ⟨rfl, hb⟩; (try clear sx cx0 cx1 sy cy0 cy1 sb cb0 cb1 sa ca0 ca1); replace hX := below_then (by first | exact hX | exact hX.drew) hb; clear hb; (try clear KX); have KX := K.below hX; obtain ⟨-, -, -, -, -, -, ⟨sx, cx0, cx1⟩, ⟨sy, cy0, cy1⟩, ⟨sb, cb0, cb1⟩, ⟨sa, ca0, ca1⟩, -⟩ := id KX; have sx := hX.size)) | (go_at_call 20; ((with_reducible refine (C.out.rright _).mono ?_); rintro e z ⟨rfl, hb⟩; (try clear sx cx0 cx1 sy cy0 cy1 sb cb0 cb1 sa ca0 ca1); replace hX := below_then (by first | exact hX | exact hX.drew) hb; clear hb; (try clear KX); have KX := K.below hX; obtain ⟨-, -, -, -, -, -, ⟨sx, cx0, cx1⟩, ⟨sy, cy0, cy1⟩, ⟨sb, cb0, cb1⟩, ⟨sa, ca0, ca1⟩, -⟩ := id KX; have sx := hX.size)) | (go_at_call 21; ((with_reducible refine (C.out.len _).mono ?_); rintro e z ⟨rfl, hb⟩; (try clear sx cx0 cx1 sy cy0 cy1 sb cb0 cb1 sa ca0 ca1); replace hX := below_then (by first | exact hX | exact hX.drew) hb; clear hb; (try clear KX); have KX := K.below hX; obtain ⟨-, -, -, -, -, -, ⟨sx, cx0, cx1⟩, ⟨sy, cy0, cy1⟩, ⟨sb, cb0, cb1⟩, ⟨sa, ca0, ca1⟩, -⟩ := id KX; have sx := hX.size)) | (go_at_call 22; ((with_reducible refine (C.out.rlen _).mono ?_); rintro e z ⟨rfl, hb⟩; (try clear sx cx0 cx1 sy cy0 cy1 sb cb0 cb1 sa ca0 ca1); replace hX := below_then (by first | exact hX | exact hX.drew) hb; clear hb; (try clear KX); have KX := K.below hX; obtain ⟨-, -, -, -, -, -, ⟨sx, cx0, cx1⟩, ⟨sy, cy0, cy1⟩, ⟨sb, cb0, cb1⟩, ⟨sa, ca0, ca1⟩, -⟩ := id KX; have sx := hX.size)) | (go_at_call 23; ((with_reducible refine (C.out.bit _).mono ?_); rintro e z ⟨rfl, hb⟩; (try clear sx cx0 cx1 sy cy0 cy1 sb cb0 cb1 sa ca0 ca1); replace hX := below_then (by first | exact hX | exact hX.drew) hb; clear hb; (try clear KX); have KX := K.below hX; obtain ⟨-, -, -, -, -, -, ⟨sx, cx0, cx1⟩, ⟨sy, cy0, cy1⟩, ⟨sb, cb0, cb1⟩, ⟨sa, ca0, ca1⟩, -⟩ := id KX; have sx := hX.size)) | (go_at_call 24; ((with_reducible refine (C.out.rbit _).mono ?_); rintro e z ⟨rfl, hb⟩; (try clear sx cx0 cx1 sy cy0 cy1 sb cb0 cb1 sa ca0 ca1); replace hX := below_then (by first | exact hX | exact hX.drew) hb; clear hb; (try clear KX); have KX := K.below hX; obtain ⟨-, -, -, -, -, -, ⟨sx, cx0, cx1⟩, ⟨sy, cy0, cy1⟩, ⟨sb, cb0, cb1⟩, ⟨sa, ca0, ca1⟩, -⟩ := id KX; have sx := hX.size)) | (go_at_call 26; ((with_reducible refine (C.out.put _).mono ?_); rintro e z ⟨g1, rfl, gl1, gl2, gby, hb⟩; (try clear sx cx0 cx1 sy cy0 cy1 sb cb0 cb1 sa ca0 ca1); have BY1 := Lib.hid (And.intro gl2 gby); clear gl1 gl2 gby; replace hX := below_then (by first | exact hX | exact hX.drew) hb; clear hb; (try clear KX); have KX := K.below hX; obtain ⟨-, -, -, -, -, -, ⟨sx, cx0, cx1⟩, ⟨sy, cy0, cy1⟩, ⟨sb, cb0, cb1⟩, ⟨sa, ca0, ca1⟩, -⟩ := id KX; have sx := hX.size)) | (go_at_call 27; ((with_reducible refine (C.out.rput _).mono ?_); rintro e z ⟨g2, cg2, rfl, gby, gl2, gc, hb⟩; (try clear sx cx0 cx1 sy cy0 cy1 sb cb0 cb1 sa ca0 ca1); replace BY1 := Lib.hid (by_keep BY1.out hb); have BY2 := Lib.hid gby; clear gl2 gby; replace hX := below_then (by first | exact hX | exact hX.drew) hb; clear hb; (try clear KX); have KX := K.below hX; obtain ⟨-, -, -, -, -, -, ⟨sx, cx0, cx1⟩, ⟨sy, cy0, cy1⟩, ⟨sb, cb0, cb1⟩, ⟨sa, ca0, ca1⟩, -⟩ := id KX; have sx := hX.size)) | (go_at_call 25; ((with_reducible refine (rSame16 _ _ _ _ A _ BY1.out.2 BY2.out).mono ?_); rintro e z ⟨rfl, hb⟩; (try clear sx cx0 cx1 sy cy0 cy1 sb cb0 cb1 sa ca0 ca1); clear BY1 BY2; replace hX := below_then (by first | exact hX | exact hX.drew) hb; clear hb; (try clear KX); have KX := K.below hX; obtain ⟨-, -, -, -, -, -, ⟨sx, cx0, cx1⟩, ⟨sy, cy0, cy1⟩, ⟨sb, cb0, cb1⟩, ⟨sa, ca0, ca1⟩, -⟩ := id KX; have sx := hX.size)) | (go_at_call 28; ((with_reducible refine (C.out.print _).mono ?_); rintro e z ⟨rfl, hb⟩; (try clear sx cx0 cx1 sy cy0 cy1 sb cb0 cb1 sa ca0 ca1); replace hX := below_then (by first | exact hX | exact hX.drew) hb; clear hb; (try clear KX); have KX := K.below hX; obtain ⟨-, -, -, -, -, -, ⟨sx, cx0, cx1⟩, ⟨sy, cy0, cy1⟩, ⟨sb, cb0, cb1⟩, ⟨sa, ca0, ca1⟩, -⟩ := id KX; have sx := hX.size)) | (go_at_call 29; ((with_reducible refine (C.out.rprint _).mono ?_); rintro e z ⟨rfl, hb⟩; (try clear sx cx0 cx1 sy cy0 cy1 sb cb0 cb1 sa ca0 ca1); replace hX := below_then (by first | exact hX | exact hX.drew) hb; clear hb; (try clear KX); have KX := K.below hX; obtain ⟨-, -, -, -, -, -, ⟨sx, cx0, cx1⟩, ⟨sy, cy0, cy1⟩, ⟨sb, cb0, cb1⟩, ⟨sa, ca0, ca1⟩, -⟩ := id KX; have sx := hX.size)))
  go_wp2
  go_ret
  exact ⟨rfl, below_then hB hX⟩
end Go.Proofs.Ytjgpmbgfcdckhaa
