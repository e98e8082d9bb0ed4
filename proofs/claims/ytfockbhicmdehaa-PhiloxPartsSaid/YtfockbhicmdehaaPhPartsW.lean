/-
  The walk of PhiloxParts, from what philox's calls answer. Made by wip/gen/phtells.py.
-/
import Derived.Test.YtfockbhicmdehaaPhTellsW
namespace Go.Proofs.Ytfockbhicmdehaa
open Go.RowKit
set_option linter.unusedVariables false
set_option maxRecDepth 100000

inductive PartsWay (b : Bk) (k : Ky) (n m : Nat) : Prop where
  | no (h : 50 < n ∨ 50 < m)
  | yes (hn : n ≤ 50) (hm : m ≤ 50) (a z : Bk) (ky : Nat → Ky) (CA : Hid (TE 14 #[.agg #[.int .u32 (b.a : Int), .int .u32 (b.b : Int), .int .u32 (b.c : Int), .int .u32 (b.d : Int)], .agg #[.int .u32 (k.k : Int), .int .u32 (k.m : Int)], .int .i64 (n : Int)] a 0)) (CZ : Hid (TE 14 #[.agg #[.int .u32 (b.a : Int), .int .u32 (b.b : Int), .int .u32 (b.c : Int), .int .u32 (b.d : Int)], .agg #[.int .u32 (k.k : Int), .int .u32 (k.m : Int)], .int .i64 ((n + m : Nat) : Int)] z 0))
      (N0 : Hid (ky 0 = k)) (CN : Hid (∀ j, TK 10 #[(ky j).val] (ky (j + 1)))) (CC : Hid (TE 14 #[.agg #[.int .u32 (a.a : Int), .int .u32 (a.b : Int), .int .u32 (a.c : Int), .int .u32 (a.d : Int)], (ky n).val, .int .i64 (m : Int)] z 0))
set_option maxHeartbeats 8000000 in
theorem ppartsMain (aw : Hid (∀ W, Calls Try.prog 7 #[] W (Bl true W))) (b : Bk) (k : Ky) (n m : Nat) (hn : n < 256) (hm : m < 256) (w : World) (way : Hid (PartsWay b k n m)) :
    Calls Try.prog 6 #[.agg #[.int .u32 (b.a : Int), .int .u32 (b.b : Int), .int .u32 (b.c : Int), .int .u32 (b.d : Int)], .agg #[.int .u32 (k.k : Int), .int .u32 (k.m : Int)], .int .u8 (n : Int), .int .u8 (m : Int)] w (Bl true w) := by
  have hB : Below w.heap.size w w := Below.refl _ _
  go_enter Try.func6, Try.ntmps6
  go_wp2_with fail
  have Ub := B4.new 24 w (b.a : Int) (b.b : Int) (b.c : Int) (b.d : Int)
  have LB := below_allocs w (.cells #[.int .u32 (b.a : Int), .int .u32 (b.b : Int), .int .u32 (b.c : Int), .int .u32 (b.d : Int)] 24)
  replace hB := below_then hB LB
  clear LB
  have z1 : (w.alloc (.cells #[.int .u32 (b.a : Int), .int .u32 (b.b : Int), .int .u32 (b.c : Int), .int .u32 (b.d : Int)] 24)).heap.size = w.heap.size + 1 := Array.size_push _
  generalize w.alloc _ = V1 at Ub hB z1 ⊢
  have Uk := B2.new 26 V1 (k.k : Int) (k.m : Int)
  have LB := below_allocs V1 (.cells #[.int .u32 (k.k : Int), .int .u32 (k.m : Int)] 26)
  replace Ub := Ub.below LB
  replace hB := below_then hB LB
  clear LB
  have z2 : (V1.alloc (.cells #[.int .u32 (k.k : Int), .int .u32 (k.m : Int)] 26)).heap.size = w.heap.size + 2 := (Array.size_push _).trans (by rw [z1])
  rw [z1] at Uk
  generalize V1.alloc _ = V2 at Ub Uk hB z2 ⊢
  clear z1 z2
  have lek : w.heap.size ≤ w.heap.size + 1 := Nat.le_succ _
  generalize w.heap.size + 1 = ck at Uk lek ⊢
  obtain ⟨cb, hcb⟩ : ∃ c, c = w.heap.size := ⟨_, rfl⟩
  rw [← hcb] at Ub ⊢
  clear hcb
  refine (aw.out _).mono ?_
  rintro e W0 ⟨rfl, hb⟩
  replace Ub := Ub.below hb
  replace Uk := Uk.below hb
  replace hB := below_then hB hb
  clear hb
  clear aw
  have wn : IntKind.i64.wrap (n : Int) = (n : Int) := by rw [IntKind.wrap_i64]; omega
  have wm : IntKind.i64.wrap (m : Int) = (m : Int) := by rw [IntKind.wrap_i64]; omega
  have ws : IntKind.i64.wrap ((n : Int) + (m : Int)) = ((n + m : Nat) : Int) := by rw [IntKind.wrap_i64]; omega
  rcases way.out with ⟨hn⟩ | ⟨hn, hm, a, z, ky, CA, CZ, N0, CN, CC⟩
  · clear way
    by_cases h : 50 < n
    · have h1 : (n : Int) > 50 := by omega
      go_wp2
      go_ret
      exact ⟨rfl, hB⟩
    · have h1 : ¬ ((n : Int) > 50) := by omega
      have h2 : (m : Int) > 50 := by omega
      go_wp2
      go_ret
      exact ⟨rfl, hB⟩
  · clear way
    have h1 : ¬ ((n : Int) > 50) := by omega
    have h2 : ¬ ((m : Int) > 50) := by omega
    obtain ⟨x0, x1, x2, x3⟩ := Ub.cells
    obtain ⟨v0, v1⟩ := Uk.cells
    go_wp2_with fail
    clear x0 x1 x2 x3 v0 v1
    refine (CA.out _).mono ?_
    rintro e e1 ⟨rfl, hb⟩
    replace Ub := Ub.below hb
    replace Uk := Uk.below hb
    replace hB := below_then hB hb
    clear hb
    go_upto_region 6 with fail
    have n1 := Nat.ne_of_gt Uk.lt
    have Ua := B4.new 24 e1 (a.a : Int) (a.b : Int) (a.c : Int) (a.d : Int)
    have LB := below_allocs e1 (.cells #[.int .u32 (a.a : Int), .int .u32 (a.b : Int), .int .u32 (a.c : Int), .int .u32 (a.d : Int)] 24)
    replace Ub := Ub.below LB
    replace Uk := Uk.below LB
    replace hB := below_then hB LB
    clear LB
    generalize e1.alloc _ = Y1 at Ub Uk Ua hB ⊢
    generalize e1.heap.size = ca at Ua n1 ⊢
    obtain ⟨x0, x1, x2, x3⟩ := Ub.cells
    obtain ⟨v0, v1⟩ := Uk.cells
    go_wp2_with fail
    clear x0 x1 x2 x3 v0 v1
    refine (CZ.out _).mono ?_
    rintro e e2 ⟨rfl, hb⟩
    replace Ub := Ub.below hb
    replace Uk := Uk.below hb
    replace Ua := Ua.below hb
    replace hB := below_then hB hb
    clear hb
    go_upto_region 7 with fail
    have n2 := Nat.ne_of_gt Uk.lt
    have Uz := B4.new 24 e2 (z.a : Int) (z.b : Int) (z.c : Int) (z.d : Int)
    have LB := below_allocs e2 (.cells #[.int .u32 (z.a : Int), .int .u32 (z.b : Int), .int .u32 (z.c : Int), .int .u32 (z.d : Int)] 24)
    replace Ub := Ub.below LB
    replace Uk := Uk.below LB
    replace Ua := Ua.below LB
    replace hB := below_then hB LB
    clear LB
    generalize e2.alloc _ = Y2 at Ub Uk Ua Uz hB ⊢
    generalize e2.heap.size = cz at Uz n2 ⊢
    have F0 : Hid (B2 26 Y2 ck k.k k.m ∧ B4 24 Y2 ca a.a a.b a.c a.d ∧ B4 24 Y2 cz z.a z.b z.c z.d ∧ Below w.heap.size w Y2) := Lib.hid ⟨Uk, Ua, Uz, hB⟩
    have Hc := Lib.hid (And.intro lek (And.intro n1 n2))
    clear Ub Uk Ua Uz hB lek n1 n2
    go_wp2_with fail
    go_loopg [43] n (fun gh v wr => ∃ (j : Nat) (l : Ky), j + gh = n ∧ v = .int .u8 (j : Int) ∧ Hid (l = ky j) ∧ Hid (B2 26 wr ck l.k l.m ∧ B4 24 wr ca a.a a.b a.c a.d ∧ B4 24 wr cz z.a z.b z.c z.d ∧ Below w.heap.size w wr))
    case atStart => exact ⟨0, k, by omega, rfl, Lib.hid N0.out.symm, F0⟩
    case round =>
      obtain ⟨j, l, hg, rfl, hs, F⟩ := hrel
      clear F0
      by_cases hlt : j < n
      · have pl : (j : Int) < (n : Int) := by omega
        have C := Lib.hid (CN.out j)
        rw [← hs.out] at C
        generalize hl : ky (j + 1) = l' at C
        have HL := Lib.hid hl.symm
        clear hl hs
        have w1 : IntKind.u8.wrap ((j : Int) + 1) = ((j + 1 : Nat) : Int) := by rw [IntKind.wrap_u8]; omega
        obtain ⟨v0, v1⟩ := F.out.1.cells
        go_wp2_with fail
        clear v0 v1
        refine (C.out _).mono ?_
        rintro e W1 ⟨rfl, hb⟩
        have B1 := F.out.1.below hb
        have F1 := Lib.hid (And.intro (B2.put (p' := (l'.k : Int)) (q' := (l'.m : Int)) B1) (And.intro ((F.out.2.1.below hb).far2 Hc.out.2.1 (.int .u32 (l'.k : Int)) (.int .u32 (l'.m : Int))) (And.intro ((F.out.2.2.1.below hb).far2 Hc.out.2.2 (.int .u32 (l'.k : Int)) (.int .u32 (l'.m : Int))) (below_put2 (below_then F.out.2.2.2 hb) Hc.out.1 (.int .u32 (l'.k : Int)) (.int .u32 (l'.m : Int))))))
        obtain ⟨v0, v1⟩ := B1.cells
        obtain ⟨g0, g1⟩ := B1.free
        clear B1 hb F C
        go_wp2_with fail
        go_roundg (gk - 1)
        case measure => omega
        case rel => exact ⟨j + 1, l', by omega, by first | rfl | go_num, HL, F1⟩
      · obtain rfl : j = n := by omega
        have pl : ¬ ((j : Int) < (j : Int)) := by omega
        rw [← hs.out] at CC
        obtain ⟨v0, v1⟩ := F.out.1.cells
        obtain ⟨x0, x1, x2, x3⟩ := F.out.2.1.cells
        go_wp2_with fail
        clear v0 v1 x0 x1 x2 x3
        refine (CC.out _).mono ?_
        rintro e W1 ⟨rfl, hb⟩
        have Uz := F.out.2.2.1.below hb
        have hB := below_then F.out.2.2.2 hb
        clear hb F hs CC
        go_upto_region 12 with fail
        have Uc := B4.new 24 W1 z.a z.b z.c z.d
        have LB := below_allocs W1 (.cells #[.int .u32 (z.a : Int), .int .u32 (z.b : Int), .int .u32 (z.c : Int), .int .u32 (z.d : Int)] 24)
        replace Uz := Uz.below LB
        replace hB := below_then hB LB
        clear LB
        generalize W1.alloc _ = Y9 at Uz Uc hB ⊢
        generalize W1.heap.size = cc at Uc ⊢
        obtain ⟨x0, x1, x2, x3⟩ := Uz.cells
        obtain ⟨u0, u1, u2, u3⟩ := Uc.cells
        have q3 := eqB
        go_wp2
        go_ret
        exact ⟨rfl, hB⟩
theorem philoxParts (X : HX) (aw : Hid (∀ W, Calls Try.prog 7 #[] W (Bl true W))) (b : Bk) (k : Ky) (hb : b.Ok) (hk : k.Ok) (n m : Nat) (hn : n < 256) (hm : m < 256) (w : World) : Calls Try.prog 6 #[b.val, k.val, .int .u8 (n : Int), .int .u8 (m : Int)] w (Bl true w) := by
  refine ppartsMain aw b k n m hn hm w (Lib.hid ?_)
  by_cases h : 50 < n ∨ 50 < m
  · exact .no h
  · have CC := X.mixY (mixB b k n) (iterK k n) m (mixB_ok hb hk n) (iterK_ok hk n) (by omega)
    rw [mix_add] at CC
    exact .yes (by omega) (by omega) _ _ (iterK k) (Lib.hid (X.mixY b k n hb hk (by omega))) (Lib.hid (X.mixY b k (n + m) hb hk (by omega))) (Lib.hid rfl) (Lib.hid fun j => X.next (iterK k j) (iterK_ok hk j)) (Lib.hid CC)
end Go.Proofs.Ytfockbhicmdehaa
