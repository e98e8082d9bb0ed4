/-
  What Right of the reference of layer 1 answers.
-/
import Derived.Test.YtjgpmbgfcdckhaaWideTf
namespace Go.Proofs.Ytjgpmbgfcdckhaa
open Go.RowKit
set_option linter.unusedVariables false

theorem ints_drop {w : World} {b : Nat} {xs : List Int} (h : Ints w b 0 xs) (k : Nat) : Ints w b k (xs.drop k) := by
  intro i hi
  have hi' : k + i < xs.length := by simp at hi; omega
  have := h (k + i) hi'
  rw [Nat.zero_add] at this
  rw [this]
  simp [List.getElem?_drop]

set_option maxRecDepth 100000 in
set_option maxHeartbeats 400000 in
theorem rRightIn (n : Int) (xs : List Int) (hx : Hid (bits128 n = xs)) (bx : Hid (AreBits xs)) (lx : Hid (xs.length = 128)) (k : Nat) (hk : k ≤ 127) (h : Rng n) (w : World) :
    Calls Try.prog 20 #[.agg #[.int .u64 (hi n), .int .u64 (lo n)], .int .i64 k] w (N1 (md (leB (xs.drop k))) w) := by
  have k0 : ¬ ((k : Int) < 0) := by omega
  have k1 : ¬ ((128 : Int) < (k : Int)) := by omega
  go_enter Try.func20, Try.ntmps20
  go_wp2_with fail
  refine (rListN n xs hx.out h _).mono ?_
  rintro e w1 ⟨g, cap, rfl, l1, l2, l3, own, hb⟩
  have l4 : xs.length = 128 := lx.out
  have KR := (Own.fresh _ (.int .u64 0) (.int .u64 0) 27).below hb
  simp only [World.size_alloc] at KR l1
  have hB : Below w.heap.size w w1 := below_then (by go_grown) hb
  have OWN := Lib.hid own
  have kl : (k : Int) ≤ (xs.length : Int) := by omega
  have kc : ¬ (cap = k) := by omega
  clear own hb l4
  go_wp2_with fail
  have e : (xs.drop k).length = xs.length - k := List.length_drop
  rw [← e]
  have e' : (xs.drop k).length ≤ 1000 := by have := lx.out; omega
  clear e
  refine (rOfN g k (cap - k) (xs.drop k) (bx.out.drop k) e' w1 l2 (ints_drop (ints_of_owns OWN.out) k)).mono ?_
  rintro e w2 ⟨rfl, hb⟩
  obtain ⟨z0, c0, c1, f0, f1⟩ := KR.below hb
  replace hB := below_then hB hb
  clear hb KR e'
  go_wp2
  refine bodyPost_ret (v := .agg #[.int .u64 (hi (md (leB (xs.drop k)))), .int .u64 (lo (md (leB (xs.drop k))))]) (by simp [results, Try.results20, go_sem, c0, c1]) rfl ⟨rfl, ?_⟩
  go_grown

set_option maxRecDepth 100000 in
set_option maxHeartbeats 400000 in
theorem rRightNeg (n : Int) (xs : List Int) (hx : Hid (bits128 n = xs)) (bx : Hid (AreBits xs)) (lx : Hid (xs.length = 128)) (m : Int) (hm : m < 0) (h : Rng n) (w : World) :
    Calls Try.prog 20 #[.agg #[.int .u64 (hi n), .int .u64 (lo n)], .int .i64 m] w (N1 (md (leB xs)) w) := by
  go_enter Try.func20, Try.ntmps20
  go_wp2_with fail
  refine (rListN n xs hx.out h _).mono ?_
  rintro e w1 ⟨g, cap, rfl, l1, l2, l3, own, hb⟩
  have l4 : xs.length = 128 := lx.out
  have KR := (Own.fresh _ (.int .u64 0) (.int .u64 0) 27).below hb
  simp only [World.size_alloc] at KR l1
  have hB : Below w.heap.size w w1 := below_then (by go_grown) hb
  have OWN := Lib.hid own
  have e' : xs.length ≤ 1000 := by omega
  clear own hb l4
  go_wp2_with fail
  refine (rOfN g 0 cap xs bx.out e' w1 l2 (ints_of_owns OWN.out)).mono ?_
  rintro e w2 ⟨rfl, hb⟩
  obtain ⟨z0, c0, c1, f0, f1⟩ := KR.below hb
  replace hB := below_then hB hb
  clear hb KR
  go_wp2
  refine bodyPost_ret (v := .agg #[.int .u64 (hi (md (leB xs))), .int .u64 (lo (md (leB xs)))]) (by simp [results, Try.results20, go_sem, c0, c1]) rfl ⟨rfl, ?_⟩
  go_grown

theorem rOf0 (g off cap : Nat) (z : Int) (hz : md (leB []) = z) (w : World) (hlt : g < w.heap.size) :
    Calls Try.prog 36 #[.slice (some ⟨g, off, none⟩) 0 cap] w (N1 z w) := by
  subst hz
  exact rOfN g off cap [] (fun x hx => by simp at hx) (by simp) w hlt (fun i hi => by simp at hi)

set_option maxRecDepth 100000 in
set_option maxHeartbeats 400000 in
theorem rRightFar (n : Int) (xs : List Int) (hx : Hid (bits128 n = xs)) (bx : Hid (AreBits xs)) (lx : Hid (xs.length = 128)) (m : Int) (hm : 128 < m) (z : Int) (hz : Hid (md (leB []) = z)) (h : Rng n) (w : World) :
    Calls Try.prog 20 #[.agg #[.int .u64 (hi n), .int .u64 (lo n)], .int .i64 m] w (N1 z w) := by
  have k0 : ¬ (m < 0) := by omega
  have k9 : decide (128 < m) = true := by simpa using hm
  clear hm
  go_enter Try.func20, Try.ntmps20
  go_wp2_with fail
  refine (rListN n xs hx.out h _).mono ?_
  rintro e w1 ⟨g, cap, rfl, l1, l2, l3, own, hb⟩
  have l4 : xs.length = 128 := lx.out
  have KR := (Own.fresh _ (.int .u64 0) (.int .u64 0) 27).below hb
  simp only [World.size_alloc] at KR l1
  have hB : Below w.heap.size w w1 := below_then (by go_grown) hb
  have OWN := Lib.hid own
  have k1 : (128 : Int) ≤ (xs.length : Int) := by omega
  have e0 : xs.length - 128 = 0 := by omega
  have E0 := Lib.hid e0
  clear own hb l4 e0
  by_cases kc : cap = 128
  · subst kc
    go_wp2_with fail
    refine (rOf0 g 0 0 z hz.out w1 l2).mono ?_
    rintro e w2 ⟨rfl, hb⟩
    obtain ⟨z0, c0, c1, f0, f1⟩ := KR.below hb
    replace hB := below_then hB hb
    clear hb KR
    go_wp2
    refine bodyPost_ret (v := .agg #[.int .u64 (hi z), .int .u64 (lo z)]) (by simp [results, Try.results20, go_sem, c0, c1]) rfl ⟨rfl, ?_⟩
    go_grown
  · go_wp2_with fail
    rw [E0.out]
    refine (rOf0 g 128 _ z hz.out w1 l2).mono ?_
    rintro e w2 ⟨rfl, hb⟩
    obtain ⟨z0, c0, c1, f0, f1⟩ := KR.below hb
    replace hB := below_then hB hb
    clear hb KR
    go_wp2
    refine bodyPost_ret (v := .agg #[.int .u64 (hi z), .int .u64 (lo z)]) (by simp [results, Try.results20, go_sem, c0, c1]) rfl ⟨rfl, ?_⟩
    go_grown
end Go.Proofs.Ytjgpmbgfcdckhaa
