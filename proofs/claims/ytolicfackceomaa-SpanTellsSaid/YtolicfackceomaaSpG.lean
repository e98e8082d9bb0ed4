/-
  What IndexFunc and ContainsFunc of package slices answer on a slice of spans, for whatever test that answers by the span alone; the closures of Apart and ordered.
-/
import Derived.Test.YtolicfackceomaaSpL
import Derived.Test.YtolicfackceomaaSpE
import Derived.LoopTactic
import Derived.Deep.LoopGhost
import Derived.Shelf.RegionOpenPlain
import Derived.Lib.Walk
namespace Go.Proofs.Ytolicfackceomaa
open Go.RowKit
set_option linter.unusedVariables false
set_option maxRecDepth 100000

/-- A function value that tells of a span whether it is one. -/
structure Pred (g : Nat) (p : Sp → Bool) : Prop where
  enters : ∀ (args : Array Value) (w : World), (callFunc g args).run Try.prog w = .ok (.enter g args) w
  tells : ∀ (a b c d : Int) (s : Sp) (W : World), Ws a b c d s → Calls Try.prog g #[.agg #[.int .u64 a, .int .u64 b, .int .u64 c, .int .u64 d]] W (fun e w' => e = .returned (.bool (p s)) ∧ Below W.heap.size W w')
/-- The first place at which a test holds, or -1. -/
def FirstAt (p : Sp → Bool) (l : List Sp) (r : Int) : Prop := (r = -1 ∧ ∀ j, j < l.length → p (l.getD j default) = false) ∨ ∃ k, k < l.length ∧ r = (k : Int) ∧ p (l.getD k default) = true ∧ ∀ j, j < k → p (l.getD j default) = false
set_option maxHeartbeats 4000000 in
theorem xIndex (g : Nat) (p : Sp → Bool) (F : Pred g p) (A : Option Addr) (cap : Nat) (l : List Sp) (w : World) (h : SL w A cap l) :
    Calls Try.prog 51 #[.slice A l.length cap, .func (.func g) #[] #[]] w (fun e w' => ∃ r, FirstAt p l r ∧ e = .returned (.int .i64 r) ∧ Below w.heap.size w w') := by
  have H := Lib.hid h
  have FH := Lib.hid F
  have eg := F.enters
  have hc1 := h.cap1
  have hc2 := h.cap2
  clear h F
  go_enter Try.func51, Try.ntmps51
  go_wp2
  go_loopg [8] l.length (fun gk i wr => ∃ k : Nat, k + gk = l.length ∧ i = .int .i64 k ∧ Hid (Below w.heap.size w wr) ∧ Hid (∀ j, j < k → p (l.getD j default) = false))
  case atStart => exact ⟨0, by omega, rfl, Lib.hid (Below.refl _ _), Lib.hid fun j hj => absurd hj (Nat.not_lt_zero _)⟩
  case round =>
    obtain ⟨k, hk, rfl, B, Z⟩ := hrel
    by_cases hlt : k < l.length
    · have hlt' : (k : Int) < l.length := by omega
      obtain ⟨b, o, p0, q0, r0, t0, rfl, hl, HS, c0, c1, c2, c3⟩ := (H.out.below B.out).at4 hlt
      have C := Lib.hid (FH.out.tells p0 q0 r0 t0 (l.getD k default) wr HS.out)
      have HP : Hid (p (l.getD k default) = p (l.getD k default)) := Lib.hid rfl
      cases hp : p (l.getD k default) with
      | true =>
        rw [hp] at C
        have R := Lib.hid hp
        clear hp HP HS
        go_wp2_with (go_at_fn g; refine C.out.mono ?_; rintro e w' ⟨rfl, hb⟩)
        go_ret
        exact ⟨(k : Int), .inr ⟨k, hlt, rfl, R.out, Z.out⟩, rfl, below_then B.out hb⟩
      | false =>
        rw [hp] at C
        have R : Hid (∀ j, j < k + 1 → p (l.getD j default) = false) := Lib.hid (fun j hj => by
          by_cases e : j = k
          · subst e; exact hp
          · exact Z.out j (by omega))
        clear hp HP HS Z
        go_wp2_with (go_at_fn g; refine C.out.mono ?_; rintro e w' ⟨rfl, hb⟩)
        go_roundg (gk - 1)
        case measure => omega
        case rel => exact ⟨k + 1, by omega, by go_num, Lib.hid (below_then B.out hb), R⟩
    · obtain rfl : k = l.length := by omega
      go_wp2
      go_ret
      exact ⟨-1, .inl ⟨rfl, Z.out⟩, rfl, B.out⟩
theorem firstAt_any {p : Sp → Bool} {l : List Sp} {r : Int} (h : FirstAt p l r) : decide (0 ≤ r) = l.any p := by
  rcases h with ⟨rfl, h⟩ | ⟨k, hk, rfl, hp, _⟩
  · have : l.any p = false := by
      rw [List.any_eq_false]
      intro x hx
      obtain ⟨i, hi, rfl⟩ := List.getElem_of_mem hx
      have := h i hi
      rw [List.getD_eq_getElem?_getD, List.getElem?_eq_getElem hi] at this
      simpa using this
    rw [this]; rfl
  · have : l.any p = true := by
      rw [List.any_eq_true]
      refine ⟨l.getD k default, ?_, hp⟩
      rw [List.getD_eq_getElem?_getD, List.getElem?_eq_getElem hk]
      exact List.getElem_mem hk
    rw [this]
    exact decide_eq_true (Int.natCast_nonneg k)
set_option maxHeartbeats 4000000 in
theorem xHas (g : Nat) (p : Sp → Bool) (F : Pred g p) (A : Option Addr) (cap : Nat) (l : List Sp) (w : World) (h : SL w A cap l) :
    Calls Try.prog 40 #[.slice A l.length cap, .func (.func g) #[] #[]] w (fun e w' => e = .returned (.bool (l.any p)) ∧ Below w.heap.size w w') := by
  have C := Lib.hid (xIndex g p F A cap l w h)
  clear h F
  go_enter Try.func40, Try.ntmps40
  go_wp2_with fail
  refine C.out.mono ?_
  rintro e w' ⟨r, hr, rfl, hb⟩
  have HR := Lib.hid (firstAt_any hr)
  clear hr C
  go_wp2
  go_ret
  exact ⟨by rw [← HR.out]; rfl, hb⟩
end Go.Proofs.Ytolicfackceomaa
