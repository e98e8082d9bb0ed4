/-
  What the call Deg of package gfp answers of a list of any length: some number.
-/
import Derived.Test.YtfpbfibnkknhdaaDoorMsyK
import Derived.Test.YtfpbfibnkknhdaaDoorGfdD
namespace Go.Proofs.YtfpbfibnkknhdaaDoor
open Go.RowKit G
set_option linter.unusedVariables false

set_option maxHeartbeats 1000000 in
theorem degSomeAny (b o L cap m x : Nat) (hm : m < L) (hx : x < 18446744073709551616) (w : World) (hc : w.cell? ⟨b, o + m, none⟩ = some (.int .u64 (x : Int))) (hL : L ≤ 9223372036854775807)
    (size : Calls Tryd.prog 28 #[.slice (some ⟨b, o, none⟩) L cap] w (fun e w' => e = .returned (.int .i64 ((m + 1 : Nat) : Int)) ∧ w = w')) :
    Calls Tryd.prog 20 #[.slice (some ⟨b, o, none⟩) L cap] w (fun e w' => (∃ v : Int, e = .returned (.int .i64 v)) ∧ w = w') := by
  have SIZE := Lib.hid size
  clear size
  have j2 : (((m + 1 : Nat) : Int) - 1) = (m : Int) := by omega
  have j3 : (m : Int) < (L : Int) := by omega
  have j4 : (0 : Int) ≤ (m : Int) := by omega
  go_enter Tryd.func20, Tryd.ntmps20
  go_wp2_with (first
    | (go_at_call 28; ((with_reducible refine (SIZE.out).mono ?_); rintro e w' ⟨rfl, rfl⟩))
    | (go_at_call 29; ((with_reducible refine (cLen64 x hx _).mono ?_); rintro e w' ⟨rfl, rfl⟩)))
  go_ret
  exact ⟨⟨_, rfl⟩, rfl⟩
/-- Some number. -/
def SomeI (w : World) (e : Ending) (w' : World) : Prop := (∃ v : Int, e = .returned (.int .i64 v)) ∧ w = w'
theorem gDegAny {A : Option Addr} {L ca : Nat} {xs : List Nat} {w : World} (P : Pol w A ca xs) (hL : xs.length = L) : Calls Tryd.prog 20 #[.slice A L ca] w (SomeI w) := by
  subst hL
  have hs := cSize A ca xs _ rfl w P
  by_cases h0 : leN xs = 0
  · rw [h0, sz_zero] at hs
    exact (degZero A _ ca w hs).mono fun e w' ⟨a, b⟩ => ⟨⟨_, a⟩, b⟩
  · have hp : 0 < sz (leN xs) := by unfold sz; rw [wordsOf_pos h0]; simp
    obtain ⟨m, hm⟩ : ∃ m, sz (leN xs) = m + 1 := ⟨sz (leN xs) - 1, by omega⟩
    obtain ⟨d1, d2, d3⟩ := deg_top xs _ m P.word rfl hm
    rw [hm] at hs
    obtain ⟨b, o, rfl, hc⟩ := P.cell m d3
    exact degSomeAny b o _ ca m _ d3 (P.word.get m) w hc (Nat.le_trans P.cap1 P.cap2) hs
end Go.Proofs.YtfpbfibnkknhdaaDoor
