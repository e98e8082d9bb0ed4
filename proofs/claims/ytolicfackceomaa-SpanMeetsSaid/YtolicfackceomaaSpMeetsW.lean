/-
  The walk of SpanMeets.
-/
import Derived.Test.YtolicfackceomaaSpI
import Derived.LoopTactic
namespace Go.Proofs.Ytolicfackceomaa
open Go.RowKit
set_option linter.unusedVariables false
set_option maxRecDepth 100000

set_option maxHeartbeats 8000000 in
theorem meetsMain (s0 s1 s2 s3 t0 t1 t2 t3 n0 n1 : Int) (m hs ht a b c d : Bool) (w : World)
    (AW : Hid (∀ w, Calls Try.prog 7 #[] w (fun e w' => e = .returned (.bool true) ∧ Below w.heap.size w w')))
    (M1 : Hid (TB 19 #[.agg #[.int .u64 s0, .int .u64 s1, .int .u64 s2, .int .u64 s3], .agg #[.int .u64 t0, .int .u64 t1, .int .u64 t2, .int .u64 t3]] m)) (M2 : Hid (TB 19 #[.agg #[.int .u64 t0, .int .u64 t1, .int .u64 t2, .int .u64 t3], .agg #[.int .u64 s0, .int .u64 s1, .int .u64 s2, .int .u64 s3]] m)) (N1 : Hid (TB 17 #[.agg #[.int .u64 s0, .int .u64 s1, .int .u64 s2, .int .u64 s3], .agg #[.int .u64 n0, .int .u64 n1]] hs)) (N2 : Hid (TB 17 #[.agg #[.int .u64 t0, .int .u64 t1, .int .u64 t2, .int .u64 t3], .agg #[.int .u64 n0, .int .u64 n1]] ht))
    (HA : Hid (TB 17 #[.agg #[.int .u64 s0, .int .u64 s1, .int .u64 s2, .int .u64 s3], .agg #[.int .u64 t0, .int .u64 t1]] a)) (HB : Hid (TB 17 #[.agg #[.int .u64 t0, .int .u64 t1, .int .u64 t2, .int .u64 t3], .agg #[.int .u64 t0, .int .u64 t1]] b)) (HC : Hid (TB 17 #[.agg #[.int .u64 t0, .int .u64 t1, .int .u64 t2, .int .u64 t3], .agg #[.int .u64 s0, .int .u64 s1]] c)) (HD : Hid (TB 17 #[.agg #[.int .u64 s0, .int .u64 s1, .int .u64 s2, .int .u64 s3], .agg #[.int .u64 s0, .int .u64 s1]] d))
    (IN : Hid (hs = true → ht = true → m = true)) (IM : Hid ((m = true → a = true → b = true) ∧ (m = true → a = false → c = true ∧ d = true))) :
    Calls Try.prog 6 #[.agg #[.int .u64 s0, .int .u64 s1, .int .u64 s2, .int .u64 s3], .agg #[.int .u64 t0, .int .u64 t1, .int .u64 t2, .int .u64 t3], .agg #[.int .u64 n0, .int .u64 n1]] w (fun e w' => e = .returned (.bool true) ∧ Below w.heap.size w w') := by
  have K0 := SB.new w s0 s1 s2 s3 26
  have B0 := below_allocs w (.cells #[.int .u64 s0, .int .u64 s1, .int .u64 s2, .int .u64 s3] 26)
  have K1 := SB.new (w.alloc (.cells #[.int .u64 s0, .int .u64 s1, .int .u64 s2, .int .u64 s3] 26)) t0 t1 t2 t3 26
  have B1 := below_allocs (w.alloc (.cells #[.int .u64 s0, .int .u64 s1, .int .u64 s2, .int .u64 s3] 26)) (.cells #[.int .u64 t0, .int .u64 t1, .int .u64 t2, .int .u64 t3] 26)
  have K2 := UB.new ((w.alloc (.cells #[.int .u64 s0, .int .u64 s1, .int .u64 s2, .int .u64 s3] 26)).alloc (.cells #[.int .u64 t0, .int .u64 t1, .int .u64 t2, .int .u64 t3] 26)) n0 n1 24
  have B2 := below_allocs ((w.alloc (.cells #[.int .u64 s0, .int .u64 s1, .int .u64 s2, .int .u64 s3] 26)).alloc (.cells #[.int .u64 t0, .int .u64 t1, .int .u64 t2, .int .u64 t3] 26)) (.cells #[.int .u64 n0, .int .u64 n1] 24)
  have K := Lib.hid (And.intro (((K0).below B1).below B2) (And.intro ((K1).below B2) (And.intro (K2) (below_then (below_then B0 B1) B2))))
  simp only [World.size_alloc] at K
  clear K0 B0 K1 B1 K2 B2
  obtain ⟨x0, x1, x2, x3⟩ := (K.out.1).cells
  obtain ⟨y0, y1, y2, y3⟩ := (K.out.2.1).cells
  obtain ⟨z0, z1⟩ := (K.out.2.2.1).cells
  go_enter Try.func6, Try.ntmps6
  go_wp2_with fail
  refine (AW.out _).mono ?_
  rintro er V1 ⟨rfl, hb⟩
  have K' := Lib.hid (And.intro ((K.out.1).below hb) (And.intro ((K.out.2.1).below hb) (And.intro ((K.out.2.2.1).below hb) (below_then (K.out.2.2.2) hb))))
  clear hb K x0 x1 x2 x3 y0 y1 y2 y3 z0 z1
  have K := K'
  clear K'
  obtain ⟨x0, x1, x2, x3⟩ := (K.out.1).cells
  obtain ⟨y0, y1, y2, y3⟩ := (K.out.2.1).cells
  obtain ⟨z0, z1⟩ := (K.out.2.2.1).cells
  go_wp2_with fail
  refine (M1.out _).mono ?_
  rintro er V2 ⟨rfl, hb⟩
  have K' := Lib.hid (And.intro ((K.out.1).below hb) (And.intro ((K.out.2.1).below hb) (And.intro ((K.out.2.2.1).below hb) (below_then (K.out.2.2.2) hb))))
  clear hb K x0 x1 x2 x3 y0 y1 y2 y3 z0 z1
  have K := K'
  clear K'
  obtain ⟨x0, x1, x2, x3⟩ := (K.out.1).cells
  obtain ⟨y0, y1, y2, y3⟩ := (K.out.2.1).cells
  obtain ⟨z0, z1⟩ := (K.out.2.2.1).cells
  go_wp2_with fail
  refine (M2.out _).mono ?_
  rintro er V3 ⟨rfl, hb⟩
  have K' := Lib.hid (And.intro ((K.out.1).below hb) (And.intro ((K.out.2.1).below hb) (And.intro ((K.out.2.2.1).below hb) (below_then (K.out.2.2.2) hb))))
  clear hb K x0 x1 x2 x3 y0 y1 y2 y3 z0 z1
  have K := K'
  clear K'
  obtain ⟨x0, x1, x2, x3⟩ := (K.out.1).cells
  obtain ⟨y0, y1, y2, y3⟩ := (K.out.2.1).cells
  obtain ⟨z0, z1⟩ := (K.out.2.2.1).cells
  cases hs with
  | false =>
    go_wp2_with fail
    refine (N1.out _).mono ?_
    rintro er V4 ⟨rfl, hb⟩
    have K' := Lib.hid (And.intro ((K.out.1).below hb) (And.intro ((K.out.2.1).below hb) (And.intro ((K.out.2.2.1).below hb) (below_then (K.out.2.2.2) hb))))
    clear hb K x0 x1 x2 x3 y0 y1 y2 y3 z0 z1
    have K := K'
    clear K'
    obtain ⟨x0, x1, x2, x3⟩ := (K.out.1).cells
    obtain ⟨y0, y1, y2, y3⟩ := (K.out.2.1).cells
    obtain ⟨z0, z1⟩ := (K.out.2.2.1).cells
    cases m with
    | false =>
      go_wp2_with fail
      go_ret
      exact ⟨rfl, K.out.2.2.2⟩
    | true =>
      cases a with
      | true =>
        obtain rfl : b = true := IM.out.1 (by simp) (by simp)
        go_wp2_with fail
        refine (HA.out _).mono ?_
        rintro er V5 ⟨rfl, hb⟩
        have K' := Lib.hid (And.intro ((K.out.1).below hb) (And.intro ((K.out.2.1).below hb) (And.intro ((K.out.2.2.1).below hb) (below_then (K.out.2.2.2) hb))))
        clear hb K x0 x1 x2 x3 y0 y1 y2 y3 z0 z1
        have K := K'
        clear K'
        obtain ⟨x0, x1, x2, x3⟩ := (K.out.1).cells
        obtain ⟨y0, y1, y2, y3⟩ := (K.out.2.1).cells
        obtain ⟨z0, z1⟩ := (K.out.2.2.1).cells
        go_wp2_with fail
        refine (HB.out _).mono ?_
        rintro er V6 ⟨rfl, hb⟩
        have K' := Lib.hid (And.intro ((K.out.1).below hb) (And.intro ((K.out.2.1).below hb) (And.intro ((K.out.2.2.1).below hb) (below_then (K.out.2.2.2) hb))))
        clear hb K x0 x1 x2 x3 y0 y1 y2 y3 z0 z1
        have K := K'
        clear K'
        obtain ⟨x0, x1, x2, x3⟩ := (K.out.1).cells
        obtain ⟨y0, y1, y2, y3⟩ := (K.out.2.1).cells
        obtain ⟨z0, z1⟩ := (K.out.2.2.1).cells
        go_wp2_with fail
        go_ret
        exact ⟨rfl, K.out.2.2.2⟩
      | false =>
        obtain ⟨rfl, rfl⟩ : c = true ∧ d = true := IM.out.2 (by simp) (by simp)
        go_wp2_with fail
        refine (HA.out _).mono ?_
        rintro er V7 ⟨rfl, hb⟩
        have K' := Lib.hid (And.intro ((K.out.1).below hb) (And.intro ((K.out.2.1).below hb) (And.intro ((K.out.2.2.1).below hb) (below_then (K.out.2.2.2) hb))))
        clear hb K x0 x1 x2 x3 y0 y1 y2 y3 z0 z1
        have K := K'
        clear K'
        obtain ⟨x0, x1, x2, x3⟩ := (K.out.1).cells
        obtain ⟨y0, y1, y2, y3⟩ := (K.out.2.1).cells
        obtain ⟨z0, z1⟩ := (K.out.2.2.1).cells
        go_wp2_with fail
        refine (HC.out _).mono ?_
        rintro er V8 ⟨rfl, hb⟩
        have K' := Lib.hid (And.intro ((K.out.1).below hb) (And.intro ((K.out.2.1).below hb) (And.intro ((K.out.2.2.1).below hb) (below_then (K.out.2.2.2) hb))))
        clear hb K x0 x1 x2 x3 y0 y1 y2 y3 z0 z1
        have K := K'
        clear K'
        obtain ⟨x0, x1, x2, x3⟩ := (K.out.1).cells
        obtain ⟨y0, y1, y2, y3⟩ := (K.out.2.1).cells
        obtain ⟨z0, z1⟩ := (K.out.2.2.1).cells
        go_wp2_with fail
        refine (HD.out _).mono ?_
        rintro er V9 ⟨rfl, hb⟩
        have K' := Lib.hid (And.intro ((K.out.1).below hb) (And.intro ((K.out.2.1).below hb) (And.intro ((K.out.2.2.1).below hb) (below_then (K.out.2.2.2) hb))))
        clear hb K x0 x1 x2 x3 y0 y1 y2 y3 z0 z1
        have K := K'
        clear K'
        obtain ⟨x0, x1, x2, x3⟩ := (K.out.1).cells
        obtain ⟨y0, y1, y2, y3⟩ := (K.out.2.1).cells
        obtain ⟨z0, z1⟩ := (K.out.2.2.1).cells
        go_wp2_with fail
        go_ret
        exact ⟨rfl, K.out.2.2.2⟩
  | true =>
    go_wp2_with fail
    refine (N1.out _).mono ?_
    rintro er V10 ⟨rfl, hb⟩
    have K' := Lib.hid (And.intro ((K.out.1).below hb) (And.intro ((K.out.2.1).below hb) (And.intro ((K.out.2.2.1).below hb) (below_then (K.out.2.2.2) hb))))
    clear hb K x0 x1 x2 x3 y0 y1 y2 y3 z0 z1
    have K := K'
    clear K'
    obtain ⟨x0, x1, x2, x3⟩ := (K.out.1).cells
    obtain ⟨y0, y1, y2, y3⟩ := (K.out.2.1).cells
    obtain ⟨z0, z1⟩ := (K.out.2.2.1).cells
    cases ht with
    | false =>
      go_wp2_with fail
      refine (N2.out _).mono ?_
      rintro er V11 ⟨rfl, hb⟩
      have K' := Lib.hid (And.intro ((K.out.1).below hb) (And.intro ((K.out.2.1).below hb) (And.intro ((K.out.2.2.1).below hb) (below_then (K.out.2.2.2) hb))))
      clear hb K x0 x1 x2 x3 y0 y1 y2 y3 z0 z1
      have K := K'
      clear K'
      obtain ⟨x0, x1, x2, x3⟩ := (K.out.1).cells
      obtain ⟨y0, y1, y2, y3⟩ := (K.out.2.1).cells
      obtain ⟨z0, z1⟩ := (K.out.2.2.1).cells
      cases m with
      | false =>
        go_wp2_with fail
        go_ret
        exact ⟨rfl, K.out.2.2.2⟩
      | true =>
        cases a with
        | true =>
          obtain rfl : b = true := IM.out.1 (by simp) (by simp)
          go_wp2_with fail
          refine (HA.out _).mono ?_
          rintro er V12 ⟨rfl, hb⟩
          have K' := Lib.hid (And.intro ((K.out.1).below hb) (And.intro ((K.out.2.1).below hb) (And.intro ((K.out.2.2.1).below hb) (below_then (K.out.2.2.2) hb))))
          clear hb K x0 x1 x2 x3 y0 y1 y2 y3 z0 z1
          have K := K'
          clear K'
          obtain ⟨x0, x1, x2, x3⟩ := (K.out.1).cells
          obtain ⟨y0, y1, y2, y3⟩ := (K.out.2.1).cells
          obtain ⟨z0, z1⟩ := (K.out.2.2.1).cells
          go_wp2_with fail
          refine (HB.out _).mono ?_
          rintro er V13 ⟨rfl, hb⟩
          have K' := Lib.hid (And.intro ((K.out.1).below hb) (And.intro ((K.out.2.1).below hb) (And.intro ((K.out.2.2.1).below hb) (below_then (K.out.2.2.2) hb))))
          clear hb K x0 x1 x2 x3 y0 y1 y2 y3 z0 z1
          have K := K'
          clear K'
          obtain ⟨x0, x1, x2, x3⟩ := (K.out.1).cells
          obtain ⟨y0, y1, y2, y3⟩ := (K.out.2.1).cells
          obtain ⟨z0, z1⟩ := (K.out.2.2.1).cells
          go_wp2_with fail
          go_ret
          exact ⟨rfl, K.out.2.2.2⟩
        | false =>
          obtain ⟨rfl, rfl⟩ : c = true ∧ d = true := IM.out.2 (by simp) (by simp)
          go_wp2_with fail
          refine (HA.out _).mono ?_
          rintro er V14 ⟨rfl, hb⟩
          have K' := Lib.hid (And.intro ((K.out.1).below hb) (And.intro ((K.out.2.1).below hb) (And.intro ((K.out.2.2.1).below hb) (below_then (K.out.2.2.2) hb))))
          clear hb K x0 x1 x2 x3 y0 y1 y2 y3 z0 z1
          have K := K'
          clear K'
          obtain ⟨x0, x1, x2, x3⟩ := (K.out.1).cells
          obtain ⟨y0, y1, y2, y3⟩ := (K.out.2.1).cells
          obtain ⟨z0, z1⟩ := (K.out.2.2.1).cells
          go_wp2_with fail
          refine (HC.out _).mono ?_
          rintro er V15 ⟨rfl, hb⟩
          have K' := Lib.hid (And.intro ((K.out.1).below hb) (And.intro ((K.out.2.1).below hb) (And.intro ((K.out.2.2.1).below hb) (below_then (K.out.2.2.2) hb))))
          clear hb K x0 x1 x2 x3 y0 y1 y2 y3 z0 z1
          have K := K'
          clear K'
          obtain ⟨x0, x1, x2, x3⟩ := (K.out.1).cells
          obtain ⟨y0, y1, y2, y3⟩ := (K.out.2.1).cells
          obtain ⟨z0, z1⟩ := (K.out.2.2.1).cells
          go_wp2_with fail
          refine (HD.out _).mono ?_
          rintro er V16 ⟨rfl, hb⟩
          have K' := Lib.hid (And.intro ((K.out.1).below hb) (And.intro ((K.out.2.1).below hb) (And.intro ((K.out.2.2.1).below hb) (below_then (K.out.2.2.2) hb))))
          clear hb K x0 x1 x2 x3 y0 y1 y2 y3 z0 z1
          have K := K'
          clear K'
          obtain ⟨x0, x1, x2, x3⟩ := (K.out.1).cells
          obtain ⟨y0, y1, y2, y3⟩ := (K.out.2.1).cells
          obtain ⟨z0, z1⟩ := (K.out.2.2.1).cells
          go_wp2_with fail
          go_ret
          exact ⟨rfl, K.out.2.2.2⟩
    | true =>
      obtain rfl : m = true := IN.out (by simp) (by simp)
      go_wp2_with fail
      refine (N2.out _).mono ?_
      rintro er V17 ⟨rfl, hb⟩
      have K' := Lib.hid (And.intro ((K.out.1).below hb) (And.intro ((K.out.2.1).below hb) (And.intro ((K.out.2.2.1).below hb) (below_then (K.out.2.2.2) hb))))
      clear hb K x0 x1 x2 x3 y0 y1 y2 y3 z0 z1
      have K := K'
      clear K'
      obtain ⟨x0, x1, x2, x3⟩ := (K.out.1).cells
      obtain ⟨y0, y1, y2, y3⟩ := (K.out.2.1).cells
      obtain ⟨z0, z1⟩ := (K.out.2.2.1).cells
      cases a with
      | true =>
        obtain rfl : b = true := IM.out.1 (by simp) (by simp)
        go_wp2_with fail
        refine (HA.out _).mono ?_
        rintro er V18 ⟨rfl, hb⟩
        have K' := Lib.hid (And.intro ((K.out.1).below hb) (And.intro ((K.out.2.1).below hb) (And.intro ((K.out.2.2.1).below hb) (below_then (K.out.2.2.2) hb))))
        clear hb K x0 x1 x2 x3 y0 y1 y2 y3 z0 z1
        have K := K'
        clear K'
        obtain ⟨x0, x1, x2, x3⟩ := (K.out.1).cells
        obtain ⟨y0, y1, y2, y3⟩ := (K.out.2.1).cells
        obtain ⟨z0, z1⟩ := (K.out.2.2.1).cells
        go_wp2_with fail
        refine (HB.out _).mono ?_
        rintro er V19 ⟨rfl, hb⟩
        have K' := Lib.hid (And.intro ((K.out.1).below hb) (And.intro ((K.out.2.1).below hb) (And.intro ((K.out.2.2.1).below hb) (below_then (K.out.2.2.2) hb))))
        clear hb K x0 x1 x2 x3 y0 y1 y2 y3 z0 z1
        have K := K'
        clear K'
        obtain ⟨x0, x1, x2, x3⟩ := (K.out.1).cells
        obtain ⟨y0, y1, y2, y3⟩ := (K.out.2.1).cells
        obtain ⟨z0, z1⟩ := (K.out.2.2.1).cells
        go_wp2_with fail
        go_ret
        exact ⟨rfl, K.out.2.2.2⟩
      | false =>
        obtain ⟨rfl, rfl⟩ : c = true ∧ d = true := IM.out.2 (by simp) (by simp)
        go_wp2_with fail
        refine (HA.out _).mono ?_
        rintro er V20 ⟨rfl, hb⟩
        have K' := Lib.hid (And.intro ((K.out.1).below hb) (And.intro ((K.out.2.1).below hb) (And.intro ((K.out.2.2.1).below hb) (below_then (K.out.2.2.2) hb))))
        clear hb K x0 x1 x2 x3 y0 y1 y2 y3 z0 z1
        have K := K'
        clear K'
        obtain ⟨x0, x1, x2, x3⟩ := (K.out.1).cells
        obtain ⟨y0, y1, y2, y3⟩ := (K.out.2.1).cells
        obtain ⟨z0, z1⟩ := (K.out.2.2.1).cells
        go_wp2_with fail
        refine (HC.out _).mono ?_
        rintro er V21 ⟨rfl, hb⟩
        have K' := Lib.hid (And.intro ((K.out.1).below hb) (And.intro ((K.out.2.1).below hb) (And.intro ((K.out.2.2.1).below hb) (below_then (K.out.2.2.2) hb))))
        clear hb K x0 x1 x2 x3 y0 y1 y2 y3 z0 z1
        have K := K'
        clear K'
        obtain ⟨x0, x1, x2, x3⟩ := (K.out.1).cells
        obtain ⟨y0, y1, y2, y3⟩ := (K.out.2.1).cells
        obtain ⟨z0, z1⟩ := (K.out.2.2.1).cells
        go_wp2_with fail
        refine (HD.out _).mono ?_
        rintro er V22 ⟨rfl, hb⟩
        have K' := Lib.hid (And.intro ((K.out.1).below hb) (And.intro ((K.out.2.1).below hb) (And.intro ((K.out.2.2.1).below hb) (below_then (K.out.2.2.2) hb))))
        clear hb K x0 x1 x2 x3 y0 y1 y2 y3 z0 z1
        have K := K'
        clear K'
        obtain ⟨x0, x1, x2, x3⟩ := (K.out.1).cells
        obtain ⟨y0, y1, y2, y3⟩ := (K.out.2.1).cells
        obtain ⟨z0, z1⟩ := (K.out.2.2.1).cells
        go_wp2_with fail
        go_ret
        exact ⟨rfl, K.out.2.2.2⟩
theorem spanMeets (AW : Hid (∀ w, Calls Try.prog 7 #[] w (fun e w' => e = .returned (.bool true) ∧ Below w.heap.size w w'))) {s0 s1 s2 s3 t0 t1 t2 t3 n0 n1 : Int} {s t : Sp} {n : Nat} (hs : Ws s0 s1 s2 s3 s) (ht : Ws t0 t1 t2 t3 t) (hn : Wn n0 n1 n) (w : World) :
    Calls Try.prog 6 #[.agg #[.int .u64 s0, .int .u64 s1, .int .u64 s2, .int .u64 s3], .agg #[.int .u64 t0, .int .u64 t1, .int .u64 t2, .int .u64 t3], .agg #[.int .u64 n0, .int .u64 n1]] w (fun e w' => e = .returned (.bool true) ∧ Below w.heap.size w w') := by
  refine meetsMain _ _ _ _ _ _ _ _ _ _ (meetS s t) (hasS s n) (hasS t n) (hasS s t.f) (hasS t t.f) (hasS t s.f) (hasS s s.f) w AW (Lib.hid (sMeet hs ht)) (Lib.hid ?_) (Lib.hid (sHas hs hn)) (Lib.hid (sHas ht hn))
    (Lib.hid (sHas hs ht.f)) (Lib.hid (sHas ht ht.f)) (Lib.hid (sHas ht hs.f)) (Lib.hid (sHas hs hs.f)) (Lib.hid ?_) (Lib.hid ?_)
  · have := sMeet ht hs
    rw [show meetS t s = meetS s t from by unfold meetS hasS; rw [Bool.eq_iff_iff]; simp; omega] at this
    exact this
  · unfold meetS hasS; simp; omega
  · unfold meetS hasS
    constructor
    · simp; omega
    · intro h1 h2
      rw [Bool.and_eq_false_iff] at h2
      simp at h1 h2 ⊢
      omega
end Go.Proofs.Ytolicfackceomaa
