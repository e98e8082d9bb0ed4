/-
  What Bit and Cmp of the reference of layer 1 answer.
-/
import Derived.Test.YtfnfjfmkhnofkaaWideTh
namespace Go.Proofs.Ytfnfjfmkhnofkaa.Wd
open Go.RowKit
set_option linter.unusedVariables false

set_option maxRecDepth 100000 in
set_option maxHeartbeats 1000000 in
theorem rBitIn (n : Int) (xs : List Int) (hx : Hid (bits128 n = xs)) (lx : Hid (xs.length = 128)) (k : Nat) (hk : k ≤ 127) (h : Rng n) (w : World) :
    Calls Try.prog 25 #[.agg #[.int .u64 (hi n), .int .u64 (lo n)], .int .i64 k] w (NI (xs.getD k 0) w) := by
  have k0 : decide ((k : Int) < 0) = false := by simp
  have k1 : decide ((127 : Int) < (k : Int)) = false := by simp; omega
  go_enter Try.func25, Try.ntmps25
  go_wp2_with fail
  refine (rListN n xs hx.out h _).mono ?_
  rintro e w1 ⟨g, cap, rfl, l1, l2, l3, own, hb⟩
  have l4 : xs.length = 128 := lx.out
  have kl : (k : Int) < (xs.length : Int) := by omega
  have cl := ints_of_owns own k (by omega)
  rw [Nat.zero_add] at cl
  have hB : Below w.heap.size w w1 := below_then (by go_grown) hb
  clear own hb l4 l1 l3
  generalize hy : xs.getD k 0 = y at cl ⊢
  have HY := Lib.hid hy
  clear hy
  go_wp2
  go_ret
  exact ⟨by simp [← HY.out], hB⟩

set_option maxRecDepth 100000 in
set_option maxHeartbeats 1000000 in
theorem rBitNeg (n m : Int) (q : decide (m < 0) = true) (w : World) :
    Calls Try.prog 25 #[.agg #[.int .u64 (hi n), .int .u64 (lo n)], .int .i64 m] w (NI 0 w) := by
  go_enter Try.func25, Try.ntmps25
  go_wp2
  go_ret
  exact ⟨rfl, by go_grown⟩

set_option maxRecDepth 100000 in
set_option maxHeartbeats 1000000 in
theorem rBitFar (n m : Int) (q : decide (m < 0) = false) (q2 : decide (127 < m) = true) (w : World) :
    Calls Try.prog 25 #[.agg #[.int .u64 (hi n), .int .u64 (lo n)], .int .i64 m] w (NI 0 w) := by
  go_enter Try.func25, Try.ntmps25
  go_wp2
  go_ret
  exact ⟨rfl, by go_grown⟩

end Go.Proofs.Ytfnfjfmkhnofkaa.Wd
