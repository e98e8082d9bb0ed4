/-
  What the calls Accept and Range of package bound answer.
-/
import Derived.Test.YtkpignbmocpcaaaGreatBdR
import Derived.Test.YtkpignbmocpcaaaGreatDvX
namespace Go.Proofs.YtkpignbmocpcaaaGreat
open Go.RowKit
set_option linter.unusedVariables false
set_option maxRecDepth 100000

theorem is_full {X : Nat} {h l : Int} (hX : X < 340282366920938463463374607431768211456) (i : Wd.Is (X : Int) h l) : h = ((X / N64 : Nat) : Int) ∧ l = ((X % N64 : Nat) : Int) :=
  is_two hX (by rw [show (X : Int) % 340282366920938463463374607431768211456 = (X : Int) by omega]; exact i)
theorem less_mod {N b : Nat} (h : b ≤ N) : (N - b) % b = N % b := by
  have := Nat.add_mod_right (N - b) b
  rw [Nat.sub_add_cancel h] at this
  exact this.symm
theorem cFullN {x b : Nat} (hx : x < N64) (hb : b < N64) (w : World) : Calls Tryz.prog 18 #[.int .u64 (x : Int), .int .u64 (b : Int)] w (fun e w' => e = .returned (.agg #[.int .u64 ((x * b / N64 : Nat) : Int), .int .u64 ((x * b % N64 : Nat) : Int)]) ∧ Below w.heap.size w w') := by
  have hx' : (x : Int) < 18446744073709551616 := by have : x < 18446744073709551616 := hx; omega
  have hb' : (b : Int) < 18446744073709551616 := by have : b < 18446744073709551616 := hb; omega
  refine (Wd.wFull x b (by omega) hx' (by omega) hb' w).mono ?_
  rintro e w' ⟨h, l, i, rfl, hb2⟩
  have hm := mul_lt_two hx hb
  rw [← Int.natCast_mul] at i
  obtain ⟨rfl, rfl⟩ := is_full hm i
  exact ⟨rfl, hb2⟩
theorem bRest {b : Nat} (h0 : 0 < b) (hb : b < N64) (w : World) : Calls Tryz.prog 19 #[.int .u64 (b : Int)] w (fun e w' => e = .returned (.int .u64 ((N64 % b : Nat) : Int)) ∧ Below w.heap.size w w') := by
  have hz : ¬ (b : Int) = 0 := by omega
  have hb' : b < 18446744073709551616 := hb
  have e1 : IntKind.u64.wrap (-(b : Int)) = ((18446744073709551616 - b : Nat) : Int) := by rw [IntKind.wrap_u64]; omega
  have e2 : ((18446744073709551616 - b : Nat) : Int) % (b : Int) = ((N64 % b : Nat) : Int) := by
    rw [← Int.natCast_emod, less_mod (Nat.le_of_lt hb')]
  generalize 18446744073709551616 - b = m at e1 e2
  generalize ((N64 % b : Nat) : Int) = r at e2 ⊢
  clear hb' hb
  go_enter Tryz.func19, Tryz.ntmps19
  go_wp2
  go_ret
  refine ⟨?_, Below.refl _ _⟩
  first | rfl | (show Ending.returned (.int .u64 _) = _; rw [e2])
theorem bAcceptZero (x : Int) (w : World) : Calls Tryz.prog 6 #[.int .u64 x, .int .u64 0] w (fun e w' => e = .returned (.tuple #[.int .u64 0, .bool false]) ∧ Below w.heap.size w w') := by
  go_enter Tryz.func6, Tryz.ntmps6
  go_wp2
  go_returns
  exact ⟨rfl, Below.refl _ _⟩
set_option maxHeartbeats 2000000 in
theorem bAcceptPos {x b : Nat} (hx : x < N64) (hb : b < N64) (h0 : 0 < b) (w : World) : Calls Tryz.prog 6 #[.int .u64 (x : Int), .int .u64 (b : Int)] w (fun e w' => e = .returned (.tuple #[.int .u64 ((acV x b : Nat) : Int), .bool (takenB N64 x b)]) ∧ Below w.heap.size w w') := by
  have CM := Lib.hid (cFullN hx hb)
  have CR := Lib.hid (bRest h0 hb)
  have ht : takenB N64 x b = decide (N64 % b ≤ x * b % N64) := rfl
  have hv : acV x b = if takenB N64 x b = true then x * b / N64 else 0 := rfl
  rw [hv, ht]
  clear hv ht
  generalize x * b / N64 = H at CM ⊢
  generalize x * b % N64 = L at CM ⊢
  generalize N64 % b = R at CR ⊢
  have hz : ((b : Int) == 0) = false := by simp; omega
  clear hx hb h0
  have E1 : Hid (L < R → (if decide (R ≤ L) = true then H else 0) = 0 ∧ decide (R ≤ L) = false) := Lib.hid (fun h => by
    have e : decide (R ≤ L) = false := decide_eq_false (by omega)
    rw [e]; exact ⟨rfl, rfl⟩)
  have E2 : Hid (¬ L < R → (if decide (R ≤ L) = true then H else 0) = H ∧ decide (R ≤ L) = true) := Lib.hid (fun h => by
    have e : decide (R ≤ L) = true := decide_eq_true (by omega)
    rw [e]; exact ⟨rfl, rfl⟩)
  generalize (if decide (R ≤ L) = true then H else 0) = A at E1 E2 ⊢
  generalize decide (R ≤ L) = T at E1 E2 ⊢
  go_enter Tryz.func6, Tryz.ntmps6
  go_wp2_with fail
  refine (CM.out _).mono ?_
  rintro e V ⟨rfl, hb⟩
  have B := below_then hb (below_allocs V (.cells #[.int .u64 (H : Int), .int .u64 (L : Int)] 31))
  have U := UB.new V H L 31
  clear hb CM
  go_upto_region 4 with fail
  generalize V.alloc _ = W1 at B U ⊢
  generalize V.heap.size = cu at U ⊢
  go_cut [16] (fun u wr => u = .bool (decide (L < R)) ∧ Below W1.heap.size W1 wr)
  case first =>
    refine wp_region_class (fun w' => Below W1.heap.size W1 w') (by kernel_rfl) (by kernel_rfl) (Below.refl _ _).drew ?_
    iterate 5
      (refine WQ.yes ?_ (by rfl) (fun w' hC => ?_) ?_
       rotate_left
       · (obtain ⟨x1, x2⟩ := (U.below hC).cells
          go_simp
          first | done | with_reducible rfl | exact ⟨rfl, rfl⟩ | (go_at_call 19; (with_reducible exact quietU (CR.out _) hC)))
       (try simp only [Act.put, List.setIfInBounds_toArray, List.set_cons_zero, List.set_cons_succ]))
    refine WQ.nil ?_
    intro wz hX
    go_wp2_with fail
    go_meet
    exact ⟨by simp, hX⟩
  obtain ⟨rfl, hB⟩ := hcut
  have HB := Lib.hid (below_then B hB)
  obtain ⟨x1, x2⟩ := (U.below hB).cells
  clear B U hB CR
  by_cases hh : L < R
  · obtain ⟨rfl, rfl⟩ := E1.out hh
    have e2 : decide (L < R) = true := decide_eq_true hh
    rw [e2]
    clear hh e2 E1 E2
    go_wp2_with fail
    go_returns
    exact ⟨rfl, HB.out⟩
  · obtain ⟨rfl, rfl⟩ := E2.out hh
    have e2 : decide (L < R) = false := decide_eq_false hh
    rw [e2]
    clear hh e2 E1 E2
    go_wp2_with fail
    go_returns
    exact ⟨rfl, HB.out⟩
theorem bAccept {x b : Nat} (hx : x < N64) (hb : b < N64) (w : World) : Calls Tryz.prog 6 #[.int .u64 (x : Int), .int .u64 (b : Int)] w (fun e w' => e = .returned (.tuple #[.int .u64 ((acV x b : Nat) : Int), .bool (takenB N64 x b)]) ∧ Below w.heap.size w w') := by
  rcases Nat.eq_zero_or_pos b with rfl | h0
  · have ht : takenB N64 x 0 = false := by unfold takenB; rw [Nat.mul_zero, Nat.mod_zero]; exact decide_eq_false (by decide)
    have hv : acV x 0 = 0 := by unfold acV; rw [ht]; rfl
    rw [ht, hv]
    exact bAcceptZero x w
  · exact bAcceptPos hx hb h0 w
end Go.Proofs.YtkpignbmocpcaaaGreat
