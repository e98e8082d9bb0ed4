/-
  What the calls Length and Least of package massey answer.
-/
import Derived.Test.YtfpbfibnkknhdaaDoorMsyD
namespace Go.Proofs.YtfpbfibnkknhdaaDoor
open Go.RowKit G
set_option linter.unusedVariables false

theorem br_len (l : List Bool) : 0 < len (br l) ∧ len (br l) ≤ l.length + 1 := by
  obtain ⟨f, B⟩ := br_ok l
  exact ⟨len_pos B.rule.1, B.le⟩
theorem br_words {l : List Bool} {M : Nat} (hl : l.length = M) (h : M ≤ 2048) : (wordsOf (br l)).length ≤ 50000 := Nat.le_trans (wlm (k := 40) (by have := (br_len l).2; omega)) (by decide)
section
variable {Al : Option Addr} {M cl : Nat} {l : List Bool} {w : World}
theorem gLeast0 (R : Brs w Al cl l) (T : Tab w) (hl : l.length = M) (h : M ≤ 2048) : Calls Tryd.prog 26 #[.slice Al M cl] w (Ans (br l) w) :=
  leastWalk M cl Al l (Lib.hid hl) h w (Lib.hid R) (Lib.hid T)
/-- An answer that is this number. -/
def Nm (n : Int) (w : World) (e : Ending) (w' : World) : Prop := e = .returned (.int .i64 n) ∧ Below w.heap.size w w'
set_option maxHeartbeats 1000000 in
theorem gLength (n : Int) (R : Brs w Al cl l) (T : Tab w) (hl : l.length = M) (h : M ≤ 2048) (hn : (len (br l) : Int) - 1 = n) : Calls Tryd.prog 16 #[.slice Al M cl] w (Nm n w) := by
  have O := Lib.hid (gLeast0 R T hl h)
  have HW := br_words hl h
  generalize hz : br l = z at O hn HW
  have HN := Lib.hid hn
  clear R T hl hz hn
  have h2 : ¬ ((2048 : Int) < (M : Int)) := by omega
  go_enter Tryd.func16, Tryd.ntmps16
  go_wp2_with fail
  refine O.out.mono ?_
  rintro e w1 ⟨A, c, rfl, P, hb⟩
  have D := Lib.hid (gDeg n P rfl (by rw [leN_wordsOf]; exact HN.out) HW)
  have HB := Lib.hid hb
  clear P hb O
  go_wp2_with fail
  refine D.out.mono ?_
  rintro e w' ⟨rfl, rfl⟩
  clear D
  go_wp2_with fail
  go_ret
  exact ⟨rfl, HB.out⟩
set_option maxHeartbeats 1000000 in
theorem gLengthBig (h : 2048 < M) : Calls Tryd.prog 16 #[.slice Al M cl] w (Nm (-1) w) := by
  have h2 : (2048 : Int) < (M : Int) := by omega
  go_enter Tryd.func16, Tryd.ntmps16
  go_wp2_with fail
  go_ret
  exact ⟨rfl, Below.refl _ _⟩
/-- An answer that is a polynomial in its own form, and true. -/
def AnsY (N : Nat) (w : World) (e : Ending) (w' : World) : Prop :=
  ∃ (A : Option Addr) (cap : Nat), e = .returned (.tuple #[.slice A (wordsOf N).length cap, .bool true]) ∧ Pol w' A cap (wordsOf N) ∧ Below w.heap.size w w'
/-- An answer that is nil, and false. -/
def AnsN (w : World) (e : Ending) (w' : World) : Prop := e = .returned (.tuple #[.slice none 0 0, .bool false]) ∧ Below w.heap.size w w'
set_option maxHeartbeats 1000000 in
theorem gLeastYes (N : Nat) (R : Brs w Al cl l) (T : Tab w) (hl : l.length = M) (h : M ≤ 2048) (hN : br l = N) (h2 : 2 * len N ≤ M + 2) : Calls Tryd.prog 15 #[.slice Al M cl] w (AnsY N w) := by
  have O := Lib.hid (gLeast0 R T hl h)
  have HW := br_words hl h
  have hp := (br_len l).1
  rw [hN] at O HW hp
  obtain ⟨d, hd⟩ : ∃ d, len N = d + 1 := ⟨len N - 1, by omega⟩
  have HD := Lib.hid hd
  have h4 : 2 * (d : Int) ≤ (M : Int) := by omega
  have h5 : ¬ ((M : Int) < 2 * (d : Int)) := by omega
  clear R T hl hd hp h2 hN
  have h3 : ¬ ((2048 : Int) < (M : Int)) := by omega
  go_enter Tryd.func15, Tryd.ntmps15
  go_wp2_with fail
  refine O.out.mono ?_
  rintro e w1 ⟨A, c, rfl, P, hb⟩
  have D := Lib.hid (gDeg (d : Int) P rfl (by rw [leN_wordsOf, HD.out]; omega) HW)
  have HB := Lib.hid hb
  have HP := Lib.hid P
  clear P hb O
  go_wp2_with fail
  refine D.out.mono ?_
  rintro e w' ⟨rfl, rfl⟩
  clear D
  go_wp2_with fail
  go_ret2
  exact ⟨A, c, rfl, HP.out, HB.out⟩
set_option maxHeartbeats 1000000 in
theorem gLeastNo (R : Brs w Al cl l) (T : Tab w) (hl : l.length = M) (h : M ≤ 2048) (h2 : M + 2 < 2 * len (br l)) : Calls Tryd.prog 15 #[.slice Al M cl] w (AnsN w) := by
  have O := Lib.hid (gLeast0 R T hl h)
  have HW := br_words hl h
  have hp := br_len l
  rw [hl] at hp
  generalize br l = N at O HW hp h2
  obtain ⟨d, hd⟩ : ∃ d, len N = d + 1 := ⟨len N - 1, by omega⟩
  have HD := Lib.hid hd
  have h5 : (M : Int) < 2 * (d : Int) := by omega
  have h6 : d ≤ 4096 := by omega
  clear R T hl hd hp h2
  have h3 : ¬ ((2048 : Int) < (M : Int)) := by omega
  go_enter Tryd.func15, Tryd.ntmps15
  go_wp2_with fail
  refine O.out.mono ?_
  rintro e w1 ⟨A, c, rfl, P, hb⟩
  have D := Lib.hid (gDeg (d : Int) P rfl (by rw [leN_wordsOf, HD.out]; omega) HW)
  have HB := Lib.hid hb
  clear P hb O
  go_wp2_with fail
  refine D.out.mono ?_
  rintro e w' ⟨rfl, rfl⟩
  clear D
  go_wp2_with fail
  go_ret2
  exact ⟨rfl, HB.out⟩
end
end Go.Proofs.YtfpbfibnkknhdaaDoor
