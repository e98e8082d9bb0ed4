/-
  What Len of the reference of layer 1 answers.
-/
import Derived.Test.YtfnfjfmkhnofkaaWideTi
import Derived.Test.YtfnfjfmkhnofkaaWideR
namespace Go.Proofs.Ytfnfjfmkhnofkaa.Wd
open Go.RowKit
set_option linter.unusedVariables false

/-- One more than the highest place below k of a 1; 0, where there is none. -/
def topB (xs : List Int) : Nat → Int
  | 0 => 0
  | k + 1 => if xs.getD k 0 = 1 then (k : Int) + 1 else topB xs k
theorem topB_bd (xs : List Int) : ∀ k : Nat, 0 ≤ topB xs k ∧ topB xs k ≤ k
  | 0 => by simp [topB]
  | k + 1 => by
    have := topB_bd xs k
    unfold topB
    split <;> omega

set_option maxRecDepth 100000 in
set_option maxHeartbeats 400000 in
theorem rLenL (n : Int) (xs : List Int) (hx : Hid (bits128 n = xs)) (lx : Hid (xs.length = 128)) (T : Int) (eT : Hid (∀ k, k = 128 → topB xs k = T)) (h : Rng n) (w : World) :
    Calls Try.prog 32 #[.agg #[.int .u64 (hi n), .int .u64 (lo n)]] w (NI T w) := by
  go_enter Try.func32, Try.ntmps32
  go_wp2_with fail
  refine (rListN n xs hx.out h _).mono ?_
  rintro e w1 ⟨g, cap, rfl, l1, l2, l3, own, hb⟩
  have CL := Lib.hid (ints_of_owns own)
  have hB : Below w.heap.size w w1 := below_then (by go_grown) hb
  clear own hb l1 l3
  go_wp2_with fail
  go_loop [3, 5] (fun u i => ∃ k : Nat, k ≤ 128 ∧ i = .int .i64 k ∧ u = .int .i64 (topB xs k)) (fun _ i => 128 - (intOf i).toNat)
  case atStart => exact ⟨0, by omega, rfl, rfl⟩
  case round =>
    obtain ⟨k, hk, rfl, rfl⟩ := hrel
    have ST : Hid (topB xs (k + 1) = if xs.getD k 0 = 1 then (k : Int) + 1 else topB xs k) := Lib.hid rfl
    obtain ⟨t0, t1⟩ := topB_bd xs k
    generalize ht : topB xs k = t at t0 t1 ST ⊢
    have HT := Lib.hid ht
    clear ht
    by_cases hlt : k < 128
    · have l4 : xs.length = 128 := lx.out
      have kl : (k : Int) < (xs.length : Int) := by omega
      have cl := CL.out k (by omega)
      rw [Nat.zero_add] at cl
      clear l4
      have kb : decide ((k : Int) < 128) = true := by simp; omega
      have HL := Lib.hid hlt
      have kk : k ≤ 1000 := by omega
      clear hlt hk
      generalize xs.getD k 0 = y at cl ST
      by_cases hy : y = 1
      · have hyb : (y == 1) = true := by simpa using hy
        have S2 := Lib.hid (ST.out.trans (if_pos hy))
        clear hy ST
        go_wp2
        go_round
        case rel => exact ⟨k + 1, by have := HL.out; omega, by go_num, by rw [S2.out]⟩
        case measure => have := HL.out; simp [intOf]; omega
      · have hyb : (y == 1) = false := by simpa using hy
        have S2 := Lib.hid (ST.out.trans (if_neg hy))
        clear hy ST
        go_wp2
        go_round
        case rel => exact ⟨k + 1, by have := HL.out; omega, by go_num, by rw [S2.out]⟩
        case measure => have := HL.out; simp [intOf]; omega
    · have E : Hid (t = T) := Lib.hid (HT.out.symm.trans (eT.out k (by omega)))
      clear ST
      have kn : ¬ ((k : Int) < 128) := by omega
      go_wp2
      go_ret
      exact ⟨congrArg (fun q => Ending.returned (.int .i64 q)) E.out, hB⟩
end Go.Proofs.Ytfnfjfmkhnofkaa.Wd
