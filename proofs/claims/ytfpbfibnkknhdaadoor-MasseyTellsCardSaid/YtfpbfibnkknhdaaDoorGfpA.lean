/-
  What the calls word, size and Words of package gfp answer: a word of a list, how many words the own form has, and the product of two words, for all lists of words.
-/
import Derived.Test.YtfpbfibnkknhdaaDoorRows
import Derived.Test.YtfpbfibnkknhdaaDoorGfpM
import Derived.WalkKit
import Derived.ProofKit
import Derived.OpenShut
import Derived.Handy
import Derived.Lib.Hide
import Derived.Deep.QuietTactic
import Derived.BigQuiet
import Derived.Deep.OwnRows
import Derived.Laws.BitsAllLaws
namespace Go.Proofs.YtfpbfibnkknhdaaDoor
open Go.RowKit G
set_option linter.unusedVariables false

/-- A slice (its address, its capacity) that holds these words. -/
structure Pol (w : World) (A : Option Addr) (cap : Nat) (xs : List Nat) : Prop where
  word : Wds xs
  cap1 : xs.length ≤ cap
  cap2 : cap ≤ 9223372036854775807
  cell : ∀ i, i < xs.length → ∃ b o, A = some ⟨b, o, none⟩ ∧ w.cell? ⟨b, o + i, none⟩ = some (.int .u64 ((xs.getD i 0 : Nat) : Int))
theorem Pol.below {w w' : World} {A : Option Addr} {cap : Nat} {xs : List Nat} (h : Pol w A cap xs) (hb : Below w.heap.size w w') : Pol w' A cap xs :=
  ⟨h.word, h.cap1, h.cap2, fun i hi => by
    obtain ⟨b, o, e, hc⟩ := h.cell i hi
    exact ⟨b, o, e, (hb.cell (p := ⟨b, o + i, none⟩) (World.block_lt_of_cell? w _ hc)).trans hc⟩⟩
theorem Pol.nil (w : World) (A : Option Addr) (cap : Nat) (h : cap ≤ 9223372036854775807) : Pol w A cap [] := ⟨fun x hx => (by cases hx), Nat.zero_le _, h, fun i hi => (by cases hi)⟩
theorem below_then {w W w' : World} (h : Below w.heap.size w W) (hb : Below W.heap.size W w') : Below w.heap.size w w' := h.trans (hb.mono h.size)
theorem below_drewN {w : World} (n : Nat) : Below w.heap.size w (w.drewN n) := ⟨rfl, rfl, rfl, Nat.le_refl _, fun _ _ => rfl⟩
theorem below_drewN' {B : Nat} {a w : World} (h : Below B a w) (n : Nat) : Below B a (w.drewN n) := ⟨h.os, h.tape, h.output, h.size, h.block⟩
theorem below_alloc {w W : World} (h : Below w.heap.size w W) (o : Obj) : Below w.heap.size w (W.alloc o) := h.alloc h.size o

set_option maxHeartbeats 400000 in
theorem wordIn (b o n cap k x : Nat) (hk : k < n) (hn : n ≤ 9223372036854775807) (w : World) (hc : w.cell? ⟨b, o + k, none⟩ = some (.int .u64 (x : Int))) :
    Calls Tryd.prog 31 #[.slice (some ⟨b, o, none⟩) n cap, .int .i64 k] w (fun e w' => e = .returned (.int .u64 (x : Int)) ∧ w = w') := by
  have k0 : (0 : Int) ≤ (k : Int) := by omega
  have k1 : (k : Int) < (n : Int) := by omega
  go_enter Tryd.func31, Tryd.ntmps31
  go_wp2
  go_ret
  exact ⟨rfl, rfl⟩
set_option maxHeartbeats 400000 in
theorem wordOut (A : Option Addr) (n cap k : Nat) (hk : n ≤ k) (w : World) :
    Calls Tryd.prog 31 #[.slice A n cap, .int .i64 k] w (fun e w' => e = .returned (.int .u64 0) ∧ w = w') := by
  have k0 : ¬ ((k : Int) < 0) := by omega
  have k1 : decide (n ≤ k) = true := by simpa using hk
  go_enter Tryd.func31, Tryd.ntmps31
  go_wp2
  go_ret
  exact ⟨rfl, rfl⟩
set_option maxHeartbeats 400000 in
theorem wordNeg (A : Option Addr) (n cap : Nat) (i : Int) (hk : i < 0) (w : World) :
    Calls Tryd.prog 31 #[.slice A n cap, .int .i64 i] w (fun e w' => e = .returned (.int .u64 0) ∧ w = w') := by
  go_enter Tryd.func31, Tryd.ntmps31
  go_wp2
  go_ret
  exact ⟨rfl, rfl⟩
theorem cWord (A : Option Addr) (cap : Nat) (xs : List Nat) (k : Nat) (x : Nat) (hx : xs.getD k 0 = x) (w : World) (h : Pol w A cap xs) :
    Calls Tryd.prog 31 #[.slice A xs.length cap, .int .i64 k] w (fun e w' => e = .returned (.int .u64 (x : Int)) ∧ w = w') := by
  subst hx
  by_cases hk : k < xs.length
  · obtain ⟨b, o, rfl, hc⟩ := h.cell k hk
    exact wordIn b o _ cap k _ hk (Nat.le_trans h.cap1 h.cap2) w hc
  · rw [List.getD_eq_getElem?_getD, List.getElem?_eq_none (by omega)]
    exact wordOut A _ cap k (by omega) w

/-- How many words the own form has. -/
def sz (n : Nat) : Nat := (wordsOf n).length
set_option maxHeartbeats 1000000 in
theorem cSize (A : Option Addr) (cap : Nat) (xs : List Nat) (N : Nat) (hN : leN xs = N) (w : World) (h : Pol w A cap xs) :
    Calls Tryd.prog 28 #[.slice A xs.length cap] w (fun e w' => e = .returned (.int .i64 ((sz N : Nat) : Int)) ∧ w = w') := by
  have hl : xs.length ≤ 9223372036854775807 := Nat.le_trans h.cap1 h.cap2
  have H := Lib.hid h
  clear h
  have HN := Lib.hid hN
  clear hN
  go_enter Tryd.func28, Tryd.ntmps28
  go_wp2
  go_loop [3] (fun i => ∃ k : Nat, k ≤ xs.length ∧ i = .int .i64 k ∧ Hid (∀ j, k ≤ j → xs.getD j 0 = 0)) (fun i => (intOf i).toNat)
  case atStart => exact ⟨xs.length, Nat.le_refl _, rfl, Lib.hid (fun j hj => by rw [List.getD_eq_getElem?_getD, List.getElem?_eq_none hj]; rfl)⟩
  case round =>
    obtain ⟨k, hk, rfl, hz⟩ := hrel
    by_cases h0 : k = 0
    · subst h0
      have e : sz N = 0 := by
        have := take_own xs 0 H.out.word (Nat.zero_le _) hz.out (.inl rfl)
        rw [HN.out] at this
        simp only [sz, ← this, List.take_zero, List.length_nil]
      have E := Lib.hid e
      clear e
      go_wp2
      go_ret
      exact ⟨by rw [E.out]; rfl, rfl⟩
    · obtain ⟨j, rfl⟩ : ∃ j, k = j + 1 := ⟨k - 1, by omega⟩
      obtain ⟨b, o, rfl, hc⟩ := H.out.cell j (by omega)
      have j1 : (0 : Int) < ((j + 1 : Nat) : Int) := by omega
      have j2 : (((j + 1 : Nat) : Int) - 1) = (j : Int) := by omega
      have j3 : (j : Int) < (xs.length : Int) := by omega
      have j4 : (0 : Int) ≤ (j : Int) := by omega
      by_cases hx : xs.getD j 0 = 0
      · rw [hx] at hc
        have HX := Lib.hid hx
        clear hx
        go_wp2
        go_round
        case rel => exact ⟨j, by omega, rfl, Lib.hid (fun i hi => by
          by_cases e : i = j
          · rw [e]; exact HX.out
          · exact hz.out i (by omega))⟩
        case measure => simp [intOf]
      · have e : sz N = j + 1 := by
          have := take_own xs (j + 1) H.out.word hk hz.out (.inr (by simpa using hx))
          rw [HN.out] at this
          simp only [sz, ← this, List.length_take]
          omega
        generalize xs.getD j 0 = x at hc hx
        have hx' : (x == 0) = false := by simpa using hx
        have hx2 : ((x : Int) == 0) = false := by
          have : (x : Int) ≠ 0 := by omega
          simpa using this
        have E := Lib.hid e
        clear e
        go_wp2
        go_ret
        exact ⟨by rw [E.out]; rfl, rfl⟩
end Go.Proofs.YtfpbfibnkknhdaaDoor
