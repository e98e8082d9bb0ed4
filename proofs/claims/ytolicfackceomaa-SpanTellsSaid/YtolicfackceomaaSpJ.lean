/-
  awake of layer 15's statements answers true.
-/
import Derived.Test.YtolicfackceomaaSpZ
import Derived.Test.YtolicfackceomaaSpY
import Derived.Test.YtolicfackceomaaSpS
import Derived.Test.YtolicfackceomaaSpD
import Derived.Test.YtolicfackceomaaSpTj
namespace Go.Proofs.Ytolicfackceomaa
open Go.RowKit
set_option linter.unusedVariables false
set_option maxRecDepth 100000

theorem encs_toArray (l : List Sp) : (encs l).toArray.toList = encs l := rfl
/-- A literal list that was just laid. -/
theorem sl_lit (w : World) (l : List Sp) (cs : Array Value) (t : TypeId) (e : (encs l).toArray = cs) (hok : ∀ s ∈ l, s.f < Q ∧ s.t < Q) (hc : l.length ≤ 1000) : SL (w.alloc (.cells cs t)) (some ⟨w.heap.size, 0, none⟩) l.length l := by
  subst e
  refine ⟨hok, Nat.le_refl _, by omega, fun i hi => ⟨w.heap.size, 0, rfl, by simp, fun c v hv => ?_⟩⟩
  have := encs_get l i c v hi hv
  have hh : (w.alloc (.cells (encs l).toArray t)).heap[w.heap.size]? = some (.cells (encs l).toArray t (0, 0)) := show (w.heap.push _)[w.heap.size]? = some _ by simp
  simp only [World.cell?, hh, Option.isSome_none, Bool.false_eq_true, if_false, Nat.zero_add]
  rw [← this]; simp
/-- What awake's calls answer. -/
structure Aw : Prop where
  h0 : ∀ x y : Int, (0 ≤ x ∧ x < 100) → (0 ≤ y ∧ y < 100) → TS 33 #[.int .u64 x, .int .u64 y] 0 x 0 y
  h1 : ∀ x : Int, (0 ≤ x ∧ x < 100) → TU 31 #[.int .u64 x] 0 x
  h2 : TSS 8 #[.agg #[.int .u64 0, .int .u64 3, .int .u64 0, .int .u64 8]] 0 3 0 6 0 6 0 8 0
  h3 : TSS 8 #[.agg #[.int .u64 0, .int .u64 3, .int .u64 0, .int .u64 4]] 0 0 0 0 0 0 0 0 6
  h4 : TSS 8 #[.agg #[.int .u64 0, .int .u64 3, .int .u64 0, .int .u64 2]] 0 0 0 0 0 0 0 0 1
  h5 : TSS 11 #[.agg #[.int .u64 0, .int .u64 3, .int .u64 0, .int .u64 8], .agg #[.int .u64 0, .int .u64 5]] 0 3 0 8 0 8 0 8 0
  h6 : TSS 11 #[.agg #[.int .u64 0, .int .u64 3, .int .u64 0, .int .u64 8], .agg #[.int .u64 0, .int .u64 6]] 0 0 0 0 0 0 0 0 7
  h7 : TU 15 #[.agg #[.int .u64 0, .int .u64 3, .int .u64 0, .int .u64 8]] 0 5
  h8 : TB 17 #[.agg #[.int .u64 0, .int .u64 3, .int .u64 0, .int .u64 8], .agg #[.int .u64 0, .int .u64 3]] true
  h9 : TB 17 #[.agg #[.int .u64 0, .int .u64 3, .int .u64 0, .int .u64 8], .agg #[.int .u64 0, .int .u64 8]] false
  h10 : TB 19 #[.agg #[.int .u64 0, .int .u64 3, .int .u64 0, .int .u64 8], .agg #[.int .u64 0, .int .u64 7, .int .u64 0, .int .u64 9]] true
  h11 : TB 19 #[.agg #[.int .u64 0, .int .u64 3, .int .u64 0, .int .u64 8], .agg #[.int .u64 0, .int .u64 8, .int .u64 0, .int .u64 9]] false
  h12 : TB 19 #[.agg #[.int .u64 0, .int .u64 3, .int .u64 0, .int .u64 8], .agg #[.int .u64 0, .int .u64 5, .int .u64 0, .int .u64 5]] false
  h13 : TB 13 #[.agg #[.int .u64 0, .int .u64 2, .int .u64 0, .int .u64 2]] true
  h14 : ∀ W : World, Calls Try.prog 21 #[.slice (some ⟨W.heap.size, 0, none⟩) 3 3] (W.alloc (.cells #[.int .u64 0, .int .u64 3, .int .u64 0, .int .u64 8, .int .u64 0, .int .u64 1, .int .u64 0, .int .u64 3, .int .u64 0, .int .u64 5, .int .u64 0, .int .u64 5] 26)) (fun e w' => e = .returned (.bool true) ∧ Below (W.alloc (.cells #[.int .u64 0, .int .u64 3, .int .u64 0, .int .u64 8, .int .u64 0, .int .u64 1, .int .u64 0, .int .u64 3, .int .u64 0, .int .u64 5, .int .u64 0, .int .u64 5] 26)).heap.size (W.alloc (.cells #[.int .u64 0, .int .u64 3, .int .u64 0, .int .u64 8, .int .u64 0, .int .u64 1, .int .u64 0, .int .u64 3, .int .u64 0, .int .u64 5, .int .u64 0, .int .u64 5] 26)) w')
  h15 : ∀ W : World, Calls Try.prog 21 #[.slice (some ⟨W.heap.size, 0, none⟩) 2 2] (W.alloc (.cells #[.int .u64 0, .int .u64 3, .int .u64 0, .int .u64 8, .int .u64 0, .int .u64 3, .int .u64 0, .int .u64 8] 26)) (fun e w' => e = .returned (.bool false) ∧ Below (W.alloc (.cells #[.int .u64 0, .int .u64 3, .int .u64 0, .int .u64 8, .int .u64 0, .int .u64 3, .int .u64 0, .int .u64 8] 26)).heap.size (W.alloc (.cells #[.int .u64 0, .int .u64 3, .int .u64 0, .int .u64 8, .int .u64 0, .int .u64 3, .int .u64 0, .int .u64 8] 26)) w')
  h16 : ∀ W : World, Calls Try.prog 21 #[.slice (some ⟨W.heap.size, 0, none⟩) 1 1] (W.alloc (.cells #[.int .u64 0, .int .u64 3, .int .u64 0, .int .u64 2] 26)) (fun e w' => e = .returned (.bool false) ∧ Below (W.alloc (.cells #[.int .u64 0, .int .u64 3, .int .u64 0, .int .u64 2] 26)).heap.size (W.alloc (.cells #[.int .u64 0, .int .u64 3, .int .u64 0, .int .u64 2] 26)) w')
  h17 : ∀ W : World, Calls Try.prog 25 #[.slice (some ⟨W.heap.size, 0, none⟩) 5 5] (W.alloc (.cells #[.int .u64 0, .int .u64 1, .int .u64 0, .int .u64 2, .int .u64 0, .int .u64 3, .int .u64 0, .int .u64 4, .int .u64 0, .int .u64 3, .int .u64 0, .int .u64 4, .int .u64 0, .int .u64 1, .int .u64 0, .int .u64 2, .int .u64 0, .int .u64 5, .int .u64 0, .int .u64 6] 26)) (fun e w' => (∃ A k, e = .returned (.slice A 2 k) ∧ SL w' A k [⟨1, 2⟩, ⟨3, 4⟩]) ∧ Below (W.alloc (.cells #[.int .u64 0, .int .u64 1, .int .u64 0, .int .u64 2, .int .u64 0, .int .u64 3, .int .u64 0, .int .u64 4, .int .u64 0, .int .u64 3, .int .u64 0, .int .u64 4, .int .u64 0, .int .u64 1, .int .u64 0, .int .u64 2, .int .u64 0, .int .u64 5, .int .u64 0, .int .u64 6] 26)).heap.size (W.alloc (.cells #[.int .u64 0, .int .u64 1, .int .u64 0, .int .u64 2, .int .u64 0, .int .u64 3, .int .u64 0, .int .u64 4, .int .u64 0, .int .u64 3, .int .u64 0, .int .u64 4, .int .u64 0, .int .u64 1, .int .u64 0, .int .u64 2, .int .u64 0, .int .u64 5, .int .u64 0, .int .u64 6] 26)) w')
  h18 : ∀ (W : World) (A : Option Addr) (k : Nat), SL W A k [⟨1, 2⟩, ⟨3, 4⟩] → Calls Try.prog 23 #[.slice A 2 k] W (fun e w' => (∃ B j, e = .returned (.slice B 2 j) ∧ SL w' B j [⟨1, 2⟩, ⟨3, 4⟩]) ∧ Below W.heap.size W w')
  h19 : ∀ W : World, Calls Try.prog 23 #[.slice (some ⟨W.heap.size, 0, none⟩) 2 2] (W.alloc (.cells #[.int .u64 0, .int .u64 1, .int .u64 0, .int .u64 2, .int .u64 0, .int .u64 3, .int .u64 0, .int .u64 4] 26)) (fun e w' => (∃ A k, e = .returned (.slice A 2 k) ∧ SL w' A k [⟨1, 2⟩, ⟨3, 4⟩]) ∧ Below (W.alloc (.cells #[.int .u64 0, .int .u64 1, .int .u64 0, .int .u64 2, .int .u64 0, .int .u64 3, .int .u64 0, .int .u64 4] 26)).heap.size (W.alloc (.cells #[.int .u64 0, .int .u64 1, .int .u64 0, .int .u64 2, .int .u64 0, .int .u64 3, .int .u64 0, .int .u64 4] 26)) w')
  h20 : ∀ (W : World) (A B : Option Addr) (k j : Nat), SL W A k [⟨1, 2⟩, ⟨3, 4⟩] → SL W B j [⟨1, 2⟩, ⟨3, 4⟩] → Calls Try.prog 24 #[.slice A 2 k, .slice B 2 j] W (fun e w' => e = .returned (.bool true) ∧ Below W.heap.size W w')
  h21 : ∀ W : World, Calls Try.prog 27 #[.slice (some ⟨W.heap.size, 0, none⟩) 4 4] (W.alloc (.cells #[.int .u64 0, .int .u64 1, .int .u64 0, .int .u64 5, .int .u64 0, .int .u64 3, .int .u64 0, .int .u64 8, .int .u64 0, .int .u64 9, .int .u64 0, .int .u64 2, .int .u64 0, .int .u64 10, .int .u64 0, .int .u64 11] 26)) (fun e w' => e = .returned (.agg #[.int .u64 0, .int .u64 8]) ∧ Below (W.alloc (.cells #[.int .u64 0, .int .u64 1, .int .u64 0, .int .u64 5, .int .u64 0, .int .u64 3, .int .u64 0, .int .u64 8, .int .u64 0, .int .u64 9, .int .u64 0, .int .u64 2, .int .u64 0, .int .u64 10, .int .u64 0, .int .u64 11] 26)).heap.size (W.alloc (.cells #[.int .u64 0, .int .u64 1, .int .u64 0, .int .u64 5, .int .u64 0, .int .u64 3, .int .u64 0, .int .u64 8, .int .u64 0, .int .u64 9, .int .u64 0, .int .u64 2, .int .u64 0, .int .u64 10, .int .u64 0, .int .u64 11] 26)) w')
set_option maxHeartbeats 40000000 in
theorem awakeMain (w : World) (C : Hid Aw) :
    Calls Try.prog 7 #[] w (AnsB true w) := by
  have HB := Lib.hid (Below.refl w.heap.size w)
  go_enter Try.func7, Try.ntmps7
  go_wp2_with fail
  refine (C.out.h0 3 8 (by decide) (by decide) _).mono ?_
  rintro er V1 ⟨rfl, hb⟩
  replace HB := Lib.hid (below_then HB.out hb)
  clear hb
  go_wp2_with fail
  refine (C.out.h2 _).mono ?_
  rintro er V2 ⟨rfl, hb⟩
  replace HB := Lib.hid (below_then HB.out hb)
  clear hb
  go_upto_region 2 with fail
  have L1 := below_allocs V2 (.cells #[.int .u64 0, .int .u64 3, .int .u64 0, .int .u64 6] 26)
  have L2 := below_allocs (V2.alloc (.cells #[.int .u64 0, .int .u64 3, .int .u64 0, .int .u64 6] 26)) (.cells #[.int .u64 0, .int .u64 6, .int .u64 0, .int .u64 8] 26)
  have KA := Lib.hid ((SB.new V2 0 3 0 6 26).below L2)
  have KB := Lib.hid (SB.new (V2.alloc (.cells #[.int .u64 0, .int .u64 3, .int .u64 0, .int .u64 6] 26)) 0 6 0 8 26)
  simp only [World.size_alloc] at KB
  replace HB := Lib.hid (below_then (below_then HB.out L1) L2)
  clear L1 L2
  generalize (V2.alloc _).alloc _ = V3 at KA KB HB ⊢
  generalize V2.heap.size + 1 = yKB at KB ⊢
  generalize V2.heap.size = yKA at KA ⊢
  go_wp2_with fail
  refine (C.out.h0 3 4 (by decide) (by decide) _).mono ?_
  rintro er V4 ⟨rfl, hb⟩
  replace KA := Lib.hid (KA.out.below hb)
  replace KB := Lib.hid (KB.out.below hb)
  replace HB := Lib.hid (below_then HB.out hb)
  clear hb
  go_wp2_with fail
  refine (C.out.h3 _).mono ?_
  rintro er V5 ⟨rfl, hb⟩
  replace KA := Lib.hid (KA.out.below hb)
  replace KB := Lib.hid (KB.out.below hb)
  replace HB := Lib.hid (below_then HB.out hb)
  clear hb
  go_upto_region 3 with fail
  have L1 := below_allocs V5 (.cells #[.int .u64 0, .int .u64 0, .int .u64 0, .int .u64 0] 26)
  have L2 := below_allocs (V5.alloc (.cells #[.int .u64 0, .int .u64 0, .int .u64 0, .int .u64 0] 26)) (.cells #[.int .u64 0, .int .u64 0, .int .u64 0, .int .u64 0] 26)
  replace KA := Lib.hid ((KA.out.below L1).below L2)
  replace KB := Lib.hid ((KB.out.below L1).below L2)
  replace HB := Lib.hid (below_then (below_then HB.out L1) L2)
  clear L1 L2
  generalize (V5.alloc _).alloc _ = V6 at KA KB HB ⊢
  generalize V5.heap.size + 1 = y6
  generalize V5.heap.size = z6
  go_wp2_with fail
  refine (C.out.h0 3 2 (by decide) (by decide) _).mono ?_
  rintro er V7 ⟨rfl, hb⟩
  replace KA := Lib.hid (KA.out.below hb)
  replace KB := Lib.hid (KB.out.below hb)
  replace HB := Lib.hid (below_then HB.out hb)
  clear hb
  go_wp2_with fail
  refine (C.out.h4 _).mono ?_
  rintro er V8 ⟨rfl, hb⟩
  replace KA := Lib.hid (KA.out.below hb)
  replace KB := Lib.hid (KB.out.below hb)
  replace HB := Lib.hid (below_then HB.out hb)
  clear hb
  go_upto_region 4 with fail
  have L1 := below_allocs V8 (.cells #[.int .u64 0, .int .u64 0, .int .u64 0, .int .u64 0] 26)
  have L2 := below_allocs (V8.alloc (.cells #[.int .u64 0, .int .u64 0, .int .u64 0, .int .u64 0] 26)) (.cells #[.int .u64 0, .int .u64 0, .int .u64 0, .int .u64 0] 26)
  replace KA := Lib.hid ((KA.out.below L1).below L2)
  replace KB := Lib.hid ((KB.out.below L1).below L2)
  replace HB := Lib.hid (below_then (below_then HB.out L1) L2)
  clear L1 L2
  generalize (V8.alloc _).alloc _ = V9 at KA KB HB ⊢
  generalize V8.heap.size + 1 = y9
  generalize V8.heap.size = z9
  go_wp2_with fail
  refine (C.out.h0 3 8 (by decide) (by decide) _).mono ?_
  rintro er V10 ⟨rfl, hb⟩
  replace KA := Lib.hid (KA.out.below hb)
  replace KB := Lib.hid (KB.out.below hb)
  replace HB := Lib.hid (below_then HB.out hb)
  clear hb
  go_wp2_with fail
  refine (C.out.h1 5 (by decide) _).mono ?_
  rintro er V11 ⟨rfl, hb⟩
  replace KA := Lib.hid (KA.out.below hb)
  replace KB := Lib.hid (KB.out.below hb)
  replace HB := Lib.hid (below_then HB.out hb)
  clear hb
  go_wp2_with fail
  refine (C.out.h5 _).mono ?_
  rintro er V12 ⟨rfl, hb⟩
  replace KA := Lib.hid (KA.out.below hb)
  replace KB := Lib.hid (KB.out.below hb)
  replace HB := Lib.hid (below_then HB.out hb)
  clear hb
  go_upto_region 5 with fail
  have L1 := below_allocs V12 (.cells #[.int .u64 0, .int .u64 3, .int .u64 0, .int .u64 8] 26)
  have L2 := below_allocs (V12.alloc (.cells #[.int .u64 0, .int .u64 3, .int .u64 0, .int .u64 8] 26)) (.cells #[.int .u64 0, .int .u64 8, .int .u64 0, .int .u64 8] 26)
  replace KA := Lib.hid ((KA.out.below L1).below L2)
  replace KB := Lib.hid ((KB.out.below L1).below L2)
  have KC := Lib.hid ((SB.new V12 0 3 0 8 26).below L2)
  have KD := Lib.hid (SB.new (V12.alloc (.cells #[.int .u64 0, .int .u64 3, .int .u64 0, .int .u64 8] 26)) 0 8 0 8 26)
  simp only [World.size_alloc] at KD
  replace HB := Lib.hid (below_then (below_then HB.out L1) L2)
  clear L1 L2
  generalize (V12.alloc _).alloc _ = V13 at KA KB KC KD HB ⊢
  generalize V12.heap.size + 1 = yKD at KD ⊢
  generalize V12.heap.size = yKC at KC ⊢
  go_wp2_with fail
  refine (C.out.h0 3 8 (by decide) (by decide) _).mono ?_
  rintro er V14 ⟨rfl, hb⟩
  replace KA := Lib.hid (KA.out.below hb)
  replace KB := Lib.hid (KB.out.below hb)
  replace KC := Lib.hid (KC.out.below hb)
  replace KD := Lib.hid (KD.out.below hb)
  replace HB := Lib.hid (below_then HB.out hb)
  clear hb
  go_wp2_with fail
  refine (C.out.h1 6 (by decide) _).mono ?_
  rintro er V15 ⟨rfl, hb⟩
  replace KA := Lib.hid (KA.out.below hb)
  replace KB := Lib.hid (KB.out.below hb)
  replace KC := Lib.hid (KC.out.below hb)
  replace KD := Lib.hid (KD.out.below hb)
  replace HB := Lib.hid (below_then HB.out hb)
  clear hb
  go_wp2_with fail
  refine (C.out.h6 _).mono ?_
  rintro er V16 ⟨rfl, hb⟩
  replace KA := Lib.hid (KA.out.below hb)
  replace KB := Lib.hid (KB.out.below hb)
  replace KC := Lib.hid (KC.out.below hb)
  replace KD := Lib.hid (KD.out.below hb)
  replace HB := Lib.hid (below_then HB.out hb)
  clear hb
  go_upto_region 6 with fail
  have L1 := below_allocs V16 (.cells #[.int .u64 0, .int .u64 0, .int .u64 0, .int .u64 0] 26)
  have L2 := below_allocs (V16.alloc (.cells #[.int .u64 0, .int .u64 0, .int .u64 0, .int .u64 0] 26)) (.cells #[.int .u64 0, .int .u64 0, .int .u64 0, .int .u64 0] 26)
  replace KA := Lib.hid ((KA.out.below L1).below L2)
  replace KB := Lib.hid ((KB.out.below L1).below L2)
  replace KC := Lib.hid ((KC.out.below L1).below L2)
  replace KD := Lib.hid ((KD.out.below L1).below L2)
  replace HB := Lib.hid (below_then (below_then HB.out L1) L2)
  clear L1 L2
  generalize (V16.alloc _).alloc _ = V17 at KA KB KC KD HB ⊢
  generalize V16.heap.size + 1 = y17
  generalize V16.heap.size = z17
  have HK := Lib.hid (And.intro KA.out (And.intro KB.out (And.intro KC.out KD.out)))
  clear KA KB KC KD
  as_aux_lemma =>
    go_wp2_with fail
    dsimp only [List.append]
    refine wp_region_quiet_tail (C := fun w' => Below V17.heap.size V17 w') 76 (by kernel_rfl) (by decide) (by as_aux_lemma => kernel_rfl) (by as_aux_lemma => kernel_rfl) (by as_aux_lemma => kernel_rfl) (hq_of_chain (by decide) (by as_aux_lemma => kernel_rfl) (by as_aux_lemma => kernel_rfl)) (by as_aux_lemma => kernel_rfl) (by as_aux_lemma => kernel_rfl) (Below.refl _ _).drew ?_
    simp only [List.take_succ_cons, List.take_zero, List.drop_succ_cons, List.drop_zero]
    as_aux_lemma =>
      refine WQ.out (?_ : WQ _ _ _ _ _ _)
      iterate 11
        (refine WQ.yes ?_ (by rfl) (fun w' hC => ?_) ?_
         rotate_left
         · (obtain ⟨ka0, ka1, ka2, ka3⟩ := (HK.out.1.below hC).cells; obtain ⟨kb0, kb1, kb2, kb3⟩ := (HK.out.2.1.below hC).cells; obtain ⟨kc0, kc1, kc2, kc3⟩ := (HK.out.2.2.1.below hC).cells; obtain ⟨kd0, kd1, kd2, kd3⟩ := (HK.out.2.2.2.below hC).cells
            go_simp
            first | done | with_reducible rfl | exact ⟨rfl, rfl⟩ | (go_at_call 33; ((with_reducible refine quietA4 (C.out.h0 _ _ ?_ ?_ _) hC) <;> decide)) | (go_at_call 31; ((with_reducible refine quietA (C.out.h1 _ ?_ _) hC) <;> decide)) | (go_at_call 15; (with_reducible exact quietA (C.out.h7 _) hC)) | (go_at_call 17; (with_reducible exact quietB (C.out.h8 _) hC)) | (go_at_call 17; (with_reducible exact quietB (C.out.h9 _) hC)) | (go_at_call 19; (with_reducible exact quietB (C.out.h10 _) hC)) | (go_at_call 19; (with_reducible exact quietB (C.out.h11 _) hC)) | (go_at_call 19; (with_reducible exact quietB (C.out.h12 _) hC)))
         (try simp only [Act.put, List.setIfInBounds_toArray, List.set_cons_zero, List.set_cons_succ]))
      as_aux_lemma =>
        iterate 11
          (refine WQ.yes ?_ (by rfl) (fun w' hC => ?_) ?_
           rotate_left
           · (obtain ⟨ka0, ka1, ka2, ka3⟩ := (HK.out.1.below hC).cells; obtain ⟨kb0, kb1, kb2, kb3⟩ := (HK.out.2.1.below hC).cells; obtain ⟨kc0, kc1, kc2, kc3⟩ := (HK.out.2.2.1.below hC).cells; obtain ⟨kd0, kd1, kd2, kd3⟩ := (HK.out.2.2.2.below hC).cells
              go_simp
              first | done | with_reducible rfl | exact ⟨rfl, rfl⟩ | (go_at_call 33; ((with_reducible refine quietA4 (C.out.h0 _ _ ?_ ?_ _) hC) <;> decide)) | (go_at_call 31; ((with_reducible refine quietA (C.out.h1 _ ?_ _) hC) <;> decide)) | (go_at_call 15; (with_reducible exact quietA (C.out.h7 _) hC)) | (go_at_call 17; (with_reducible exact quietB (C.out.h8 _) hC)) | (go_at_call 17; (with_reducible exact quietB (C.out.h9 _) hC)) | (go_at_call 19; (with_reducible exact quietB (C.out.h10 _) hC)) | (go_at_call 19; (with_reducible exact quietB (C.out.h11 _) hC)) | (go_at_call 19; (with_reducible exact quietB (C.out.h12 _) hC)))
           (try simp only [Act.put, List.setIfInBounds_toArray, List.set_cons_zero, List.set_cons_succ]))
        as_aux_lemma =>
          iterate 11
            (refine WQ.yes ?_ (by rfl) (fun w' hC => ?_) ?_
             rotate_left
             · (obtain ⟨ka0, ka1, ka2, ka3⟩ := (HK.out.1.below hC).cells; obtain ⟨kb0, kb1, kb2, kb3⟩ := (HK.out.2.1.below hC).cells; obtain ⟨kc0, kc1, kc2, kc3⟩ := (HK.out.2.2.1.below hC).cells; obtain ⟨kd0, kd1, kd2, kd3⟩ := (HK.out.2.2.2.below hC).cells
                go_simp
                first | done | with_reducible rfl | exact ⟨rfl, rfl⟩ | (go_at_call 33; ((with_reducible refine quietA4 (C.out.h0 _ _ ?_ ?_ _) hC) <;> decide)) | (go_at_call 31; ((with_reducible refine quietA (C.out.h1 _ ?_ _) hC) <;> decide)) | (go_at_call 15; (with_reducible exact quietA (C.out.h7 _) hC)) | (go_at_call 17; (with_reducible exact quietB (C.out.h8 _) hC)) | (go_at_call 17; (with_reducible exact quietB (C.out.h9 _) hC)) | (go_at_call 19; (with_reducible exact quietB (C.out.h10 _) hC)) | (go_at_call 19; (with_reducible exact quietB (C.out.h11 _) hC)) | (go_at_call 19; (with_reducible exact quietB (C.out.h12 _) hC)))
             (try simp only [Act.put, List.setIfInBounds_toArray, List.set_cons_zero, List.set_cons_succ]))
          as_aux_lemma =>
            iterate 11
              (refine WQ.yes ?_ (by rfl) (fun w' hC => ?_) ?_
               rotate_left
               · (obtain ⟨ka0, ka1, ka2, ka3⟩ := (HK.out.1.below hC).cells; obtain ⟨kb0, kb1, kb2, kb3⟩ := (HK.out.2.1.below hC).cells; obtain ⟨kc0, kc1, kc2, kc3⟩ := (HK.out.2.2.1.below hC).cells; obtain ⟨kd0, kd1, kd2, kd3⟩ := (HK.out.2.2.2.below hC).cells
                  go_simp
                  first | done | with_reducible rfl | exact ⟨rfl, rfl⟩ | (go_at_call 33; ((with_reducible refine quietA4 (C.out.h0 _ _ ?_ ?_ _) hC) <;> decide)) | (go_at_call 31; ((with_reducible refine quietA (C.out.h1 _ ?_ _) hC) <;> decide)) | (go_at_call 15; (with_reducible exact quietA (C.out.h7 _) hC)) | (go_at_call 17; (with_reducible exact quietB (C.out.h8 _) hC)) | (go_at_call 17; (with_reducible exact quietB (C.out.h9 _) hC)) | (go_at_call 19; (with_reducible exact quietB (C.out.h10 _) hC)) | (go_at_call 19; (with_reducible exact quietB (C.out.h11 _) hC)) | (go_at_call 19; (with_reducible exact quietB (C.out.h12 _) hC)))
               (try simp only [Act.put, List.setIfInBounds_toArray, List.set_cons_zero, List.set_cons_succ]))
            as_aux_lemma =>
              iterate 11
                (refine WQ.yes ?_ (by rfl) (fun w' hC => ?_) ?_
                 rotate_left
                 · (obtain ⟨ka0, ka1, ka2, ka3⟩ := (HK.out.1.below hC).cells; obtain ⟨kb0, kb1, kb2, kb3⟩ := (HK.out.2.1.below hC).cells; obtain ⟨kc0, kc1, kc2, kc3⟩ := (HK.out.2.2.1.below hC).cells; obtain ⟨kd0, kd1, kd2, kd3⟩ := (HK.out.2.2.2.below hC).cells
                    go_simp
                    first | done | with_reducible rfl | exact ⟨rfl, rfl⟩ | (go_at_call 33; ((with_reducible refine quietA4 (C.out.h0 _ _ ?_ ?_ _) hC) <;> decide)) | (go_at_call 31; ((with_reducible refine quietA (C.out.h1 _ ?_ _) hC) <;> decide)) | (go_at_call 15; (with_reducible exact quietA (C.out.h7 _) hC)) | (go_at_call 17; (with_reducible exact quietB (C.out.h8 _) hC)) | (go_at_call 17; (with_reducible exact quietB (C.out.h9 _) hC)) | (go_at_call 19; (with_reducible exact quietB (C.out.h10 _) hC)) | (go_at_call 19; (with_reducible exact quietB (C.out.h11 _) hC)) | (go_at_call 19; (with_reducible exact quietB (C.out.h12 _) hC)))
                 (try simp only [Act.put, List.setIfInBounds_toArray, List.set_cons_zero, List.set_cons_succ]))
              as_aux_lemma =>
                iterate 11
                  (refine WQ.yes ?_ (by rfl) (fun w' hC => ?_) ?_
                   rotate_left
                   · (obtain ⟨ka0, ka1, ka2, ka3⟩ := (HK.out.1.below hC).cells; obtain ⟨kb0, kb1, kb2, kb3⟩ := (HK.out.2.1.below hC).cells; obtain ⟨kc0, kc1, kc2, kc3⟩ := (HK.out.2.2.1.below hC).cells; obtain ⟨kd0, kd1, kd2, kd3⟩ := (HK.out.2.2.2.below hC).cells
                      go_simp
                      first | done | with_reducible rfl | exact ⟨rfl, rfl⟩ | (go_at_call 33; ((with_reducible refine quietA4 (C.out.h0 _ _ ?_ ?_ _) hC) <;> decide)) | (go_at_call 31; ((with_reducible refine quietA (C.out.h1 _ ?_ _) hC) <;> decide)) | (go_at_call 15; (with_reducible exact quietA (C.out.h7 _) hC)) | (go_at_call 17; (with_reducible exact quietB (C.out.h8 _) hC)) | (go_at_call 17; (with_reducible exact quietB (C.out.h9 _) hC)) | (go_at_call 19; (with_reducible exact quietB (C.out.h10 _) hC)) | (go_at_call 19; (with_reducible exact quietB (C.out.h11 _) hC)) | (go_at_call 19; (with_reducible exact quietB (C.out.h12 _) hC)))
                   (try simp only [Act.put, List.setIfInBounds_toArray, List.set_cons_zero, List.set_cons_succ]))
                as_aux_lemma =>
                  iterate 10
                    (refine WQ.yes ?_ (by rfl) (fun w' hC => ?_) ?_
                     rotate_left
                     · (obtain ⟨ka0, ka1, ka2, ka3⟩ := (HK.out.1.below hC).cells; obtain ⟨kb0, kb1, kb2, kb3⟩ := (HK.out.2.1.below hC).cells; obtain ⟨kc0, kc1, kc2, kc3⟩ := (HK.out.2.2.1.below hC).cells; obtain ⟨kd0, kd1, kd2, kd3⟩ := (HK.out.2.2.2.below hC).cells
                        go_simp
                        first | done | with_reducible rfl | exact ⟨rfl, rfl⟩ | (go_at_call 33; ((with_reducible refine quietA4 (C.out.h0 _ _ ?_ ?_ _) hC) <;> decide)) | (go_at_call 31; ((with_reducible refine quietA (C.out.h1 _ ?_ _) hC) <;> decide)) | (go_at_call 15; (with_reducible exact quietA (C.out.h7 _) hC)) | (go_at_call 17; (with_reducible exact quietB (C.out.h8 _) hC)) | (go_at_call 17; (with_reducible exact quietB (C.out.h9 _) hC)) | (go_at_call 19; (with_reducible exact quietB (C.out.h10 _) hC)) | (go_at_call 19; (with_reducible exact quietB (C.out.h11 _) hC)) | (go_at_call 19; (with_reducible exact quietB (C.out.h12 _) hC)))
                     (try simp only [Act.put, List.setIfInBounds_toArray, List.set_cons_zero, List.set_cons_succ]))
                  as_aux_lemma =>
                    refine WQ.nil ?_
                    intro wz hX
                    replace HB := Lib.hid (below_then HB.out hX)
                    clear hX HK
                    go_wp2_with (refine wpList_lit 26 [.agg #[.int .u64 0, .int .u64 3, .int .u64 0, .int .u64 8], .agg #[.int .u64 0, .int .u64 1, .int .u64 0, .int .u64 3], .agg #[.int .u64 0, .int .u64 5, .int .u64 0, .int .u64 5]] #[.int .u64 0, .int .u64 3, .int .u64 0, .int .u64 8, .int .u64 0, .int .u64 1, .int .u64 0, .int .u64 3, .int .u64 0, .int .u64 5, .int .u64 0, .int .u64 5] (.agg #[.int .u64 0, .int .u64 0, .int .u64 0, .int .u64 0]) (by kernel_rfl) (by kernel_rfl) rfl (by decide) (by decide) (by rfl) (by rfl) rfl ?_; simp only [Act.put, List.setIfInBounds_toArray, List.set_cons_zero, List.set_cons_succ])
                    refine (C.out.h14 _).mono ?_
                    rintro er V18 ⟨rfl, hb⟩
                    replace HB := Lib.hid (below_then (below_then HB.out (below_allocs _ _)) hb)
                    clear hb
                    as_aux_lemma =>
                      go_wp2_with fail
                      refine (C.out.h0 3 8 (by decide) (by decide) _).mono ?_
                      rintro er V19 ⟨rfl, hb⟩
                      replace HB := Lib.hid (below_then HB.out hb)
                      clear hb
                      go_wp2_with fail
                      refine (C.out.h0 3 8 (by decide) (by decide) _).mono ?_
                      rintro er V20 ⟨rfl, hb⟩
                      replace HB := Lib.hid (below_then HB.out hb)
                      clear hb
                      go_wp2_with (refine wpList_lit 26 [.agg #[.int .u64 0, .int .u64 3, .int .u64 0, .int .u64 8], .agg #[.int .u64 0, .int .u64 3, .int .u64 0, .int .u64 8]] #[.int .u64 0, .int .u64 3, .int .u64 0, .int .u64 8, .int .u64 0, .int .u64 3, .int .u64 0, .int .u64 8] (.agg #[.int .u64 0, .int .u64 0, .int .u64 0, .int .u64 0]) (by kernel_rfl) (by kernel_rfl) rfl (by decide) (by decide) (by rfl) (by rfl) rfl ?_; simp only [Act.put, List.setIfInBounds_toArray, List.set_cons_zero, List.set_cons_succ])
                      refine (C.out.h15 _).mono ?_
                      rintro er V21 ⟨rfl, hb⟩
                      replace HB := Lib.hid (below_then (below_then HB.out (below_allocs _ _)) hb)
                      clear hb
                      as_aux_lemma =>
                        go_wp2_with fail
                        refine (C.out.h0 3 2 (by decide) (by decide) _).mono ?_
                        rintro er V22 ⟨rfl, hb⟩
                        replace HB := Lib.hid (below_then HB.out hb)
                        clear hb
                        go_wp2_with (refine wpList_lit 26 [.agg #[.int .u64 0, .int .u64 3, .int .u64 0, .int .u64 2]] #[.int .u64 0, .int .u64 3, .int .u64 0, .int .u64 2] (.agg #[.int .u64 0, .int .u64 0, .int .u64 0, .int .u64 0]) (by kernel_rfl) (by kernel_rfl) rfl (by decide) (by decide) (by rfl) (by rfl) rfl ?_; simp only [Act.put, List.setIfInBounds_toArray, List.set_cons_zero, List.set_cons_succ])
                        refine (C.out.h16 _).mono ?_
                        rintro er V23 ⟨rfl, hb⟩
                        replace HB := Lib.hid (below_then (below_then HB.out (below_allocs _ _)) hb)
                        clear hb
                        as_aux_lemma =>
                          go_wp2_with fail
                          refine (C.out.h0 1 2 (by decide) (by decide) _).mono ?_
                          rintro er V24 ⟨rfl, hb⟩
                          replace HB := Lib.hid (below_then HB.out hb)
                          clear hb
                          go_wp2_with fail
                          refine (C.out.h0 3 4 (by decide) (by decide) _).mono ?_
                          rintro er V25 ⟨rfl, hb⟩
                          replace HB := Lib.hid (below_then HB.out hb)
                          clear hb
                          go_wp2_with fail
                          refine (C.out.h0 3 4 (by decide) (by decide) _).mono ?_
                          rintro er V26 ⟨rfl, hb⟩
                          replace HB := Lib.hid (below_then HB.out hb)
                          clear hb
                          go_wp2_with fail
                          refine (C.out.h0 1 2 (by decide) (by decide) _).mono ?_
                          rintro er V27 ⟨rfl, hb⟩
                          replace HB := Lib.hid (below_then HB.out hb)
                          clear hb
                          go_wp2_with fail
                          refine (C.out.h0 5 6 (by decide) (by decide) _).mono ?_
                          rintro er V28 ⟨rfl, hb⟩
                          replace HB := Lib.hid (below_then HB.out hb)
                          clear hb
                          go_wp2_with (refine wpList_lit 26 [.agg #[.int .u64 0, .int .u64 1, .int .u64 0, .int .u64 2], .agg #[.int .u64 0, .int .u64 3, .int .u64 0, .int .u64 4], .agg #[.int .u64 0, .int .u64 3, .int .u64 0, .int .u64 4], .agg #[.int .u64 0, .int .u64 1, .int .u64 0, .int .u64 2], .agg #[.int .u64 0, .int .u64 5, .int .u64 0, .int .u64 6]] #[.int .u64 0, .int .u64 1, .int .u64 0, .int .u64 2, .int .u64 0, .int .u64 3, .int .u64 0, .int .u64 4, .int .u64 0, .int .u64 3, .int .u64 0, .int .u64 4, .int .u64 0, .int .u64 1, .int .u64 0, .int .u64 2, .int .u64 0, .int .u64 5, .int .u64 0, .int .u64 6] (.agg #[.int .u64 0, .int .u64 0, .int .u64 0, .int .u64 0]) (by kernel_rfl) (by kernel_rfl) rfl (by decide) (by decide) (by rfl) (by rfl) rfl ?_; simp only [Act.put, List.setIfInBounds_toArray, List.set_cons_zero, List.set_cons_succ])
                          refine (C.out.h17 _).mono ?_
                          rintro er V29 ⟨⟨A1, k1, rfl, hs⟩, hb⟩
                          have HT := Lib.hid hs
                          clear hs
                          replace HB := Lib.hid (below_then (below_then HB.out (below_allocs _ _)) hb)
                          clear hb
                          go_wp2_with fail
                          refine (C.out.h18 _ _ _ HT.out).mono ?_
                          rintro er V30 ⟨⟨A2, k2, rfl, hs⟩, hb⟩
                          have HO := Lib.hid hs
                          replace HB := Lib.hid (below_then HB.out hb)
                          clear hs hb HT
                          as_aux_lemma =>
                            go_wp2_with fail
                            refine (C.out.h0 1 2 (by decide) (by decide) _).mono ?_
                            rintro er V31 ⟨rfl, hb⟩
                            replace HO := Lib.hid (HO.out.below hb)
                            replace HB := Lib.hid (below_then HB.out hb)
                            clear hb
                            go_wp2_with fail
                            refine (C.out.h0 3 4 (by decide) (by decide) _).mono ?_
                            rintro er V32 ⟨rfl, hb⟩
                            replace HO := Lib.hid (HO.out.below hb)
                            replace HB := Lib.hid (below_then HB.out hb)
                            clear hb
                            go_wp2_with (refine wpList_lit 26 [.agg #[.int .u64 0, .int .u64 1, .int .u64 0, .int .u64 2], .agg #[.int .u64 0, .int .u64 3, .int .u64 0, .int .u64 4]] #[.int .u64 0, .int .u64 1, .int .u64 0, .int .u64 2, .int .u64 0, .int .u64 3, .int .u64 0, .int .u64 4] (.agg #[.int .u64 0, .int .u64 0, .int .u64 0, .int .u64 0]) (by kernel_rfl) (by kernel_rfl) rfl (by decide) (by decide) (by rfl) (by rfl) rfl ?_; simp only [Act.put, List.setIfInBounds_toArray, List.set_cons_zero, List.set_cons_succ])
                            refine (C.out.h19 _).mono ?_
                            rintro er V33 ⟨⟨A3, k3, rfl, hs⟩, hb⟩
                            replace HO := Lib.hid ((HO.out.below (below_allocs _ _)).below hb)
                            have HO2 := Lib.hid hs
                            clear hs
                            replace HB := Lib.hid (below_then (below_then HB.out (below_allocs _ _)) hb)
                            clear hb
                            go_wp2_with fail
                            refine (C.out.h20 _ _ _ _ _ HO.out HO2.out).mono ?_
                            rintro er V34 ⟨rfl, hb⟩
                            replace HB := Lib.hid (below_then HB.out hb)
                            clear hb HO HO2
                            as_aux_lemma =>
                              go_wp2_with fail
                              refine (C.out.h0 1 5 (by decide) (by decide) _).mono ?_
                              rintro er V35 ⟨rfl, hb⟩
                              replace HB := Lib.hid (below_then HB.out hb)
                              clear hb
                              go_wp2_with fail
                              refine (C.out.h0 3 8 (by decide) (by decide) _).mono ?_
                              rintro er V36 ⟨rfl, hb⟩
                              replace HB := Lib.hid (below_then HB.out hb)
                              clear hb
                              go_wp2_with fail
                              refine (C.out.h0 9 2 (by decide) (by decide) _).mono ?_
                              rintro er V37 ⟨rfl, hb⟩
                              replace HB := Lib.hid (below_then HB.out hb)
                              clear hb
                              go_wp2_with fail
                              refine (C.out.h0 10 11 (by decide) (by decide) _).mono ?_
                              rintro er V38 ⟨rfl, hb⟩
                              replace HB := Lib.hid (below_then HB.out hb)
                              clear hb
                              go_wp2_with (refine wpList_lit 26 [.agg #[.int .u64 0, .int .u64 1, .int .u64 0, .int .u64 5], .agg #[.int .u64 0, .int .u64 3, .int .u64 0, .int .u64 8], .agg #[.int .u64 0, .int .u64 9, .int .u64 0, .int .u64 2], .agg #[.int .u64 0, .int .u64 10, .int .u64 0, .int .u64 11]] #[.int .u64 0, .int .u64 1, .int .u64 0, .int .u64 5, .int .u64 0, .int .u64 3, .int .u64 0, .int .u64 8, .int .u64 0, .int .u64 9, .int .u64 0, .int .u64 2, .int .u64 0, .int .u64 10, .int .u64 0, .int .u64 11] (.agg #[.int .u64 0, .int .u64 0, .int .u64 0, .int .u64 0]) (by kernel_rfl) (by kernel_rfl) rfl (by decide) (by decide) (by rfl) (by rfl) rfl ?_; simp only [Act.put, List.setIfInBounds_toArray, List.set_cons_zero, List.set_cons_succ])
                              refine (C.out.h21 _).mono ?_
                              rintro er V39 ⟨rfl, hb⟩
                              replace HB := Lib.hid (below_then (below_then HB.out (below_allocs _ _)) hb)
                              clear hb
                              go_wp2_with fail
                              refine (C.out.h1 8 (by decide) _).mono ?_
                              rintro er V40 ⟨rfl, hb⟩
                              replace HB := Lib.hid (below_then HB.out hb)
                              clear hb
                              go_wp2_with fail
                              refine (C.out.h0 2 2 (by decide) (by decide) _).mono ?_
                              rintro er V41 ⟨rfl, hb⟩
                              replace HB := Lib.hid (below_then HB.out hb)
                              clear hb
                              go_wp2_with fail
                              refine (C.out.h13 _).mono ?_
                              rintro er V42 ⟨rfl, hb⟩
                              replace HB := Lib.hid (below_then HB.out hb)
                              clear hb
                              go_wp2_with fail
                              go_ret
                              exact ⟨rfl, HB.out⟩
end Go.Proofs.Ytolicfackceomaa
