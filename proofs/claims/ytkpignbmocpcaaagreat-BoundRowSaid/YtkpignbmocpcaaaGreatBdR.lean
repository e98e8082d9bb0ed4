/-
  What the document's own calls of layer 18 answer: Rest and Accept, and whether two lists of one number are the same.
-/
import Derived.Test.YtkpignbmocpcaaaGreatBdP
import Derived.Test.YtkpignbmocpcaaaGreatWideTo
namespace Go.Proofs.YtkpignbmocpcaaaGreat
open Go.RowKit
set_option linter.unusedVariables false
set_option maxRecDepth 100000

theorem mul_lt_two {x b : Nat} (hx : x < N64) (hb : b < N64) : x * b < 340282366920938463463374607431768211456 := by
  have h1 : x ≤ 18446744073709551615 := Nat.le_of_lt_succ hx
  have h2 : b ≤ 18446744073709551615 := Nat.le_of_lt_succ hb
  exact Nat.lt_of_le_of_lt (Nat.mul_le_mul h1 h2) (by decide)
theorem is_two {X : Nat} {h l : Int} (hX : X < 340282366920938463463374607431768211456) (i : Wd.Is ((X : Int) % 340282366920938463463374607431768211456) h l) : h = ((X / N64 : Nat) : Int) ∧ l = ((X % N64 : Nat) : Int) := by
  obtain ⟨a, b, c, d, e⟩ := i
  show h = ((X / 18446744073709551616 : Nat) : Int) ∧ l = ((X % 18446744073709551616 : Nat) : Int)
  omega
theorem rMulN {x b : Nat} (hx : x < N64) (hb : b < N64) (w : World) : Calls Tryz.prog 20 #[.agg #[.int .u64 0, .int .u64 (x : Int)], .agg #[.int .u64 0, .int .u64 (b : Int)]] w (fun e w' => e = .returned (.agg #[.int .u64 ((x * b / N64 : Nat) : Int), .int .u64 ((x * b % N64 : Nat) : Int)]) ∧ Below w.heap.size w w') := by
  have hx' : (x : Int) < 18446744073709551616 := by have : x < 18446744073709551616 := hx; omega
  have hb' : (b : Int) < 18446744073709551616 := by have : b < 18446744073709551616 := hb; omega
  refine (Wd.rMul 0 x 0 b (by decide) (by decide) (by omega) hx' (by decide) (by decide) (by omega) hb' w).mono ?_
  rintro e w' ⟨h, l, i, rfl, hb2⟩
  rw [Int.zero_mul, Int.zero_add, Int.zero_add, ← Int.natCast_mul] at i
  obtain ⟨rfl, rfl⟩ := is_two (mul_lt_two hx hb) i
  exact ⟨rfl, hb2⟩
theorem rRest {b : Nat} (h0 : 0 < b) (hb : b < N64) (w : World) : Calls Tryz.prog 21 #[.int .u64 (b : Int)] w (fun e w' => e = .returned (.int .u64 ((N64 % b : Nat) : Int)) ∧ Below w.heap.size w w') := by
  have hz : ¬ (b : Int) = 0 := by omega
  have hb' : b < 18446744073709551616 := hb
  have e1 : (18446744073709551615 : Int) % (b : Int) = ((18446744073709551615 % b : Nat) : Int) := by rw [Int.natCast_emod]; rfl
  have l1 : 18446744073709551615 % b < b := Nat.mod_lt _ h0
  have e3 := rest_eq (N := 18446744073709551616) (by decide) h0
  rw [show 18446744073709551616 - 1 = 18446744073709551615 from rfl] at e3
  generalize 18446744073709551615 % b = m at e1 l1 e3
  have e2 : IntKind.u64.wrap ((m : Int) + 1) = ((m + 1 : Nat) : Int) := by rw [IntKind.wrap_u64]; omega
  have e4 : ((m : Int) + 1) % (b : Int) = ((N64 % b : Nat) : Int) := by
    rw [show (m : Int) + 1 = ((m + 1 : Nat) : Int) from rfl, ← Int.natCast_emod, e3]
  clear e3 l1 hb' hb
  go_enter Tryz.func21, Tryz.ntmps21
  go_wp2
  go_ret
  refine ⟨?_, Below.refl _ _⟩
  show Ending.returned (.int .u64 (((m : Int) + 1) % (b : Int))) = _
  rw [e4]
theorem rAcceptZero (x : Int) (w : World) : Calls Tryz.prog 7 #[.int .u64 x, .int .u64 0] w (fun e w' => e = .returned (.tuple #[.int .u64 0, .bool false]) ∧ Below w.heap.size w w') := by
  go_enter Tryz.func7, Tryz.ntmps7
  go_wp2
  go_returns
  exact ⟨rfl, Below.refl _ _⟩
set_option maxHeartbeats 2000000 in
theorem rAcceptPos {x b : Nat} (hx : x < N64) (hb : b < N64) (h0 : 0 < b) (w : World) : Calls Tryz.prog 7 #[.int .u64 (x : Int), .int .u64 (b : Int)] w (fun e w' => e = .returned (.tuple #[.int .u64 ((acV x b : Nat) : Int), .bool (takenB N64 x b)]) ∧ Below w.heap.size w w') := by
  have CM := Lib.hid (rMulN hx hb)
  have CR := Lib.hid (rRest h0 hb)
  have ht : takenB N64 x b = decide (N64 % b ≤ x * b % N64) := rfl
  have hv : acV x b = if takenB N64 x b = true then x * b / N64 else 0 := rfl
  rw [hv, ht]
  clear hv ht
  generalize x * b / N64 = H at CM ⊢
  generalize x * b % N64 = L at CM ⊢
  generalize N64 % b = R at CR ⊢
  have hz : ((b : Int) == 0) = false := by simp; omega
  clear hx hb h0
  have E1 : Hid (L < R → (if decide (R ≤ L) = true then H else 0) = 0 ∧ decide (R ≤ L) = false) := Lib.hid (fun h => by
    have e : decide (R ≤ L) = false := decide_eq_false (by omega)
    rw [e]; exact ⟨rfl, rfl⟩)
  have E2 : Hid (¬ L < R → (if decide (R ≤ L) = true then H else 0) = H ∧ decide (R ≤ L) = true) := Lib.hid (fun h => by
    have e : decide (R ≤ L) = true := decide_eq_true (by omega)
    rw [e]; exact ⟨rfl, rfl⟩)
  generalize (if decide (R ≤ L) = true then H else 0) = A at E1 E2 ⊢
  generalize decide (R ≤ L) = T at E1 E2 ⊢
  go_enter Tryz.func7, Tryz.ntmps7
  go_wp2_with fail
  refine (CM.out _).mono ?_
  rintro e V ⟨rfl, hb⟩
  have B := below_then hb (below_allocs V (.cells #[.int .u64 (H : Int), .int .u64 (L : Int)] 52))
  have U := UB.new V H L 52
  clear hb CM
  go_upto_region 4 with fail
  generalize V.alloc _ = W1 at B U ⊢
  generalize V.heap.size = cu at U ⊢
  go_cut [18] (fun u wr => u = .bool (decide (L < R)) ∧ Below W1.heap.size W1 wr)
  case first =>
    refine wp_region_class (fun w' => Below W1.heap.size W1 w') (by kernel_rfl) (by kernel_rfl) (Below.refl _ _).drew ?_
    iterate 5
      (refine WQ.yes ?_ (by rfl) (fun w' hC => ?_) ?_
       rotate_left
       · (obtain ⟨x1, x2⟩ := (U.below hC).cells
          go_simp
          first | done | with_reducible rfl | exact ⟨rfl, rfl⟩ | (go_at_call 21; (with_reducible exact quietU (CR.out _) hC)))
       (try simp only [Act.put, List.setIfInBounds_toArray, List.set_cons_zero, List.set_cons_succ]))
    refine WQ.nil ?_
    intro wz hX
    go_wp2_with fail
    go_meet
    exact ⟨by simp, hX⟩
  obtain ⟨rfl, hB⟩ := hcut
  have HB := Lib.hid (below_then B hB)
  obtain ⟨x1, x2⟩ := (U.below hB).cells
  clear B U hB CR
  by_cases hh : L < R
  · obtain ⟨rfl, rfl⟩ := E1.out hh
    have e2 : decide (L < R) = true := decide_eq_true hh
    rw [e2]
    clear hh e2 E1 E2
    go_wp2_with fail
    go_returns
    exact ⟨rfl, HB.out⟩
  · obtain ⟨rfl, rfl⟩ := E2.out hh
    have e2 : decide (L < R) = false := decide_eq_false hh
    rw [e2]
    clear hh e2 E1 E2
    go_wp2_with fail
    go_returns
    exact ⟨rfl, HB.out⟩
theorem rAccept {x b : Nat} (hx : x < N64) (hb : b < N64) (w : World) : Calls Tryz.prog 7 #[.int .u64 (x : Int), .int .u64 (b : Int)] w (fun e w' => e = .returned (.tuple #[.int .u64 ((acV x b : Nat) : Int), .bool (takenB N64 x b)]) ∧ Below w.heap.size w w') := by
  rcases Nat.eq_zero_or_pos b with rfl | h0
  · have ht : takenB N64 x 0 = false := by unfold takenB; rw [Nat.mul_zero, Nat.mod_zero]; exact decide_eq_false (by decide)
    have hv : acV x 0 = 0 := by unfold acV; rw [ht]; rfl
    rw [ht, hv]
    exact rAcceptZero x w
  · exact rAcceptPos hx hb h0 w
/-- Two lists of the number 0. -/
theorem rInts1 {w : World} {g h c1 c2 : Nat} (x : w.cell? ⟨g, 0, none⟩ = some (.int .i64 0)) (y : w.cell? ⟨h, 0, none⟩ = some (.int .i64 0)) : Calls Tryz.prog 16 #[.slice (some ⟨g, 0, none⟩) 1 c1, .slice (some ⟨h, 0, none⟩) 1 c2] w (fun e w' => e = .returned (.bool true) ∧ Below w.heap.size w w') := by
  have HX := Lib.hid (And.intro x y)
  clear x y
  go_enter Tryz.func16, Tryz.ntmps16
  go_wp2
  go_loopg [5] 1 (fun gg i wr => ∃ k : Nat, k + gg = 1 ∧ i = .int .i64 k ∧ ∃ n, wr = w.drewN n)
  case atStart => exact ⟨0, by omega, rfl, 0, rfl⟩
  case round =>
    obtain ⟨k, hk, rfl, n, rfl⟩ := hrel
    have hk' : k = 0 ∨ k = 1 := by omega
    have B := Lib.hid (show Below w.heap.size w (w.drewN n) from below_drewN' (Below.refl _ _) n)
    have x1 : (w.drewN n).cell? ⟨g, 0, none⟩ = some (.int .i64 0) := HX.out.1
    have y1 : (w.drewN n).cell? ⟨h, 0, none⟩ = some (.int .i64 0) := HX.out.2
    generalize hV : w.drewN n = V at x1 y1 B ⊢
    rcases hk' with rfl | rfl
    · go_wp2
      go_region
      go_wp2
      go_roundg 0
      case measure => omega
      case rel => exact ⟨1, by omega, rfl, n + 1, by rw [← hV]; exact World.drewN_drewN w n 1⟩
    · go_wp2
      go_ret
      exact ⟨rfl, B.out⟩
end Go.Proofs.YtkpignbmocpcaaaGreat
