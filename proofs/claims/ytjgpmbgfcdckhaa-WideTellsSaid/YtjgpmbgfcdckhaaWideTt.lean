/-
  What Right of the reference of layer 1 answers at the place 128; Right and Left by value.
-/
import Derived.Test.YtjgpmbgfcdckhaaWideTh
namespace Go.Proofs.Ytjgpmbgfcdckhaa
open Go.RowKit
set_option linter.unusedVariables false

set_option maxRecDepth 100000 in
set_option maxHeartbeats 400000 in
theorem rRight128 (n : Int) (xs : List Int) (hx : Hid (bits128 n = xs)) (bx : Hid (AreBits xs)) (lx : Hid (xs.length = 128)) (z : Int) (hz : Hid (md (leB []) = z)) (h : Rng n) (w : World) :
    Calls Try.prog 20 #[.agg #[.int .u64 (hi n), .int .u64 (lo n)], .int .i64 128] w (N1 z w) := by
  go_enter Try.func20, Try.ntmps20
  go_wp2_with fail
  refine (rListN n xs hx.out h _).mono ?_
  rintro e w1 ⟨g, cap, rfl, l1, l2, l3, own, hb⟩
  have l4 : xs.length = 128 := lx.out
  have KR := (Own.fresh _ (.int .u64 0) (.int .u64 0) 27).below hb
  simp only [World.size_alloc] at KR l1
  have hB : Below w.heap.size w w1 := below_then (by go_grown) hb
  have OWN := Lib.hid own
  have k1 : (128 : Int) ≤ (xs.length : Int) := by omega
  have e0 : xs.length - 128 = 0 := by omega
  have E0 := Lib.hid e0
  clear own hb l4 e0
  by_cases kc : cap = 128
  · subst kc
    go_wp2_with fail
    refine (rOf0 g 0 0 z hz.out w1 l2).mono ?_
    rintro e w2 ⟨rfl, hb⟩
    obtain ⟨z0, c0, c1, f0, f1⟩ := KR.below hb
    replace hB := below_then hB hb
    clear hb KR
    go_wp2
    refine bodyPost_ret (v := .agg #[.int .u64 (hi z), .int .u64 (lo z)]) (by simp [results, Try.results20, go_sem, c0, c1]) rfl ⟨rfl, ?_⟩
    go_grown
  · go_wp2_with fail
    rw [E0.out]
    refine (rOf0 g 128 _ z hz.out w1 l2).mono ?_
    rintro e w2 ⟨rfl, hb⟩
    obtain ⟨z0, c0, c1, f0, f1⟩ := KR.below hb
    replace hB := below_then hB hb
    clear hb KR
    go_wp2
    refine bodyPost_ret (v := .agg #[.int .u64 (hi z), .int .u64 (lo z)]) (by simp [results, Try.results20, go_sem, c0, c1]) rfl ⟨rfl, ?_⟩
    go_grown
end Go.Proofs.Ytjgpmbgfcdckhaa
