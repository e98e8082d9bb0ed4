/-
  awake of layer 19's statements answers true.
-/
import Derived.Test.YtlimfgmmbkgeeaaTbQ
namespace Go.Proofs.Ytlimfgmmbkgeeaa
open Go.RowKit
set_option linter.unusedVariables false
set_option maxRecDepth 100000

theorem jA1 {w : World} {p : Nat} {F : Nat → Prop} (h : At w p F ⟨[], 0⟩) : Calls Try.prog 21 #[.pointer (some ⟨p, 0, none⟩), .int .u64 7] w (fun e w' => e = .returned (.tuple #[.int .i64 0, .int .i64 0]) ∧ Post F w p ⟨[(0, 7)], 1⟩ w') := by
  have k := tAdd h 7
  rw [show addN (⟨[], 0⟩ : Tb) = 0 from rfl, show addE (⟨[], 0⟩ : Tb) = 0 from rfl, show addT (⟨[], 0⟩ : Tb) 7 = ⟨[(0, 7)], 1⟩ from rfl] at k
  exact k
theorem jA2 {w : World} {p : Nat} {F : Nat → Prop} (h : At w p F ⟨[(0, 7)], 1⟩) : Calls Try.prog 21 #[.pointer (some ⟨p, 0, none⟩), .int .u64 8] w (fun e w' => e = .returned (.tuple #[.int .i64 1, .int .i64 0]) ∧ Post F w p ⟨[(0, 7), (1, 8)], 2⟩ w') := by
  have k := tAdd h 8
  rw [show addN (⟨[(0, 7)], 1⟩ : Tb) = 1 from rfl, show addE (⟨[(0, 7)], 1⟩ : Tb) = 0 from rfl, show addT (⟨[(0, 7)], 1⟩ : Tb) 8 = ⟨[(0, 7), (1, 8)], 2⟩ from rfl] at k
  exact k
theorem jD1 {w : World} {p : Nat} {F : Nat → Prop} (h : At w p F ⟨[(0, 7), (1, 8)], 2⟩) : Calls Try.prog 22 #[.pointer (some ⟨p, 0, none⟩), .int .i64 0] w (fun e w' => e = .returned (.bool true) ∧ Post F w p ⟨[(1, 8)], 2⟩ w') := by
  have k := tDrop h 0
  rw [show hasT (⟨[(0, 7), (1, 8)], 2⟩ : Tb) 0 = true from rfl, show dropT (⟨[(0, 7), (1, 8)], 2⟩ : Tb) 0 = ⟨[(1, 8)], 2⟩ from rfl] at k
  exact k
theorem jD2 {w : World} {p : Nat} {F : Nat → Prop} (h : At w p F ⟨[(1, 8)], 2⟩) : Calls Try.prog 22 #[.pointer (some ⟨p, 0, none⟩), .int .i64 0] w (fun e w' => e = .returned (.bool false) ∧ Post F w p ⟨[(1, 8)], 2⟩ w') := by
  have k := tDrop h 0
  rw [show hasT (⟨[(1, 8)], 2⟩ : Tb) 0 = false from rfl, show dropT (⟨[(1, 8)], 2⟩ : Tb) 0 = ⟨[(1, 8)], 2⟩ from rfl] at k
  exact k
theorem jL1 {w : World} {p : Nat} {F : Nat → Prop} (h : At w p F ⟨[(1, 8)], 2⟩) : Calls Try.prog 23 #[.pointer (some ⟨p, 0, none⟩), .int .i64 1, .int .u64 5] w (fun e w' => e = .returned (.int .i64 1) ∧ Post F w p ⟨[(1, 8)], 2⟩ w') := by
  have k := tLay h 1 5
  rw [show layE (⟨[(1, 8)], 2⟩ : Tb) 1 = 1 from rfl, show layT (⟨[(1, 8)], 2⟩ : Tb) 1 5 = ⟨[(1, 8)], 2⟩ from rfl] at k
  exact k
theorem jL2 {w : World} {p : Nat} {F : Nat → Prop} (h : At w p F ⟨[(1, 8)], 2⟩) : Calls Try.prog 23 #[.pointer (some ⟨p, 0, none⟩), .int .i64 5, .int .u64 9] w (fun e w' => e = .returned (.int .i64 0) ∧ Post F w p ⟨[(1, 8), (5, 9)], 6⟩ w') := by
  have k := tLay h 5 9
  rw [show layE (⟨[(1, 8)], 2⟩ : Tb) 5 = 0 from rfl, show layT (⟨[(1, 8)], 2⟩ : Tb) 5 9 = ⟨[(1, 8), (5, 9)], 6⟩ from rfl] at k
  exact k
theorem jG1 {w : World} {p : Nat} {F : Nat → Prop} (h : At w p F ⟨[(1, 8), (5, 9)], 6⟩) : Calls Try.prog 24 #[.pointer (some ⟨p, 0, none⟩), .int .i64 5] w (fun e w' => e = .returned (.int .i64 1) ∧ Post F w p ⟨[(1, 8), (5, 9)], 6⟩ w') := by
  have k := tGoes h 5
  rw [show goesE (⟨[(1, 8), (5, 9)], 6⟩ : Tb) 5 = 1 from rfl, show goesT (⟨[(1, 8), (5, 9)], 6⟩ : Tb) 5 = ⟨[(1, 8), (5, 9)], 6⟩ from rfl] at k
  exact k
theorem jG2 {w : World} {p : Nat} {F : Nat → Prop} (h : At w p F ⟨[(1, 8), (5, 9)], 6⟩) : Calls Try.prog 24 #[.pointer (some ⟨p, 0, none⟩), .int .i64 8] w (fun e w' => e = .returned (.int .i64 0) ∧ Post F w p ⟨[(1, 8), (5, 9)], 8⟩ w') := by
  have k := tGoes h 8
  rw [show goesE (⟨[(1, 8), (5, 9)], 6⟩ : Tb) 8 = 0 from rfl, show goesT (⟨[(1, 8), (5, 9)], 6⟩ : Tb) 8 = ⟨[(1, 8), (5, 9)], 8⟩ from rfl] at k
  exact k
theorem jT1 {w : World} {p : Nat} {F : Nat → Prop} (h : At w p F ⟨[(1, 8), (5, 9)], 8⟩) : Calls Try.prog 13 #[.pointer (some ⟨p, 0, none⟩), .int .i64 5] w (fun e w' => e = .returned (.tuple #[.int .u64 9, .bool true]) ∧ Below w.heap.size w w') := by
  have k := tGetB h 5
  rw [show getT (⟨[(1, 8), (5, 9)], 8⟩ : Tb) 5 = 9 from rfl, show hasT (⟨[(1, 8), (5, 9)], 8⟩ : Tb) 5 = true from rfl] at k
  exact k
theorem jT2 {w : World} {p : Nat} {F : Nat → Prop} (h : At w p F ⟨[(1, 8), (5, 9)], 8⟩) : Calls Try.prog 13 #[.pointer (some ⟨p, 0, none⟩), .int .i64 0] w (fun e w' => e = .returned (.tuple #[.int .u64 0, .bool false]) ∧ Below w.heap.size w w') := by
  have k := tGetB h 0
  rw [show getT (⟨[(1, 8), (5, 9)], 8⟩ : Tb) 0 = 0 from rfl, show hasT (⟨[(1, 8), (5, 9)], 8⟩ : Tb) 0 = false from rfl] at k
  exact k
theorem jT3 {w : World} {p : Nat} {F : Nat → Prop} (h : At w p F ⟨[(1, 9), (5, 10)], 8⟩) : Calls Try.prog 13 #[.pointer (some ⟨p, 0, none⟩), .int .i64 1] w (fun e w' => e = .returned (.tuple #[.int .u64 9, .bool true]) ∧ Below w.heap.size w w') := by
  have k := tGetB h 1
  rw [show getT (⟨[(1, 9), (5, 10)], 8⟩ : Tb) 1 = 9 from rfl, show hasT (⟨[(1, 9), (5, 10)], 8⟩ : Tb) 1 = true from rfl] at k
  exact k
theorem jC {w : World} {p : Nat} {F : Nat → Prop} (h : At w p F ⟨[(1, 8), (5, 9)], 8⟩) : Calls Try.prog 20 #[.pointer (some ⟨p, 0, none⟩), .func (.func 25) #[] #[]] w (fun e w' => ∃ q, e = .returned (.pointer (some ⟨q, 0, none⟩)) ∧ Post (fun _ => False) w q ⟨[(1, 9), (5, 10)], 8⟩ w') := by
  have k := tCopy h ownMore
  rw [show mapT (fun x => IntKind.u64.wrap (x + 1)) (⟨[(1, 8), (5, 9)], 8⟩ : Tb) = ⟨[(1, 9), (5, 10)], 8⟩ from rfl] at k
  exact k
/-- The table behind so many more values. -/
def more : Nat → Tb
  | 0 => ⟨[(1, 8), (5, 9)], 8⟩
  | i + 1 => addT (more i) 1
theorem jF {w : World} {p : Nat} {F : Nat → Prop} (h : At w p F (more 14)) : Calls Try.prog 21 #[.pointer (some ⟨p, 0, none⟩), .int .u64 1] w (fun e w' => e = .returned (.tuple #[.int .i64 0, .int .i64 5]) ∧ Post F w p (more 14) w') := by
  have k := tAdd h 1
  rw [show addE (more 14) = 5 from by decide, show addN (more 14) = 0 from by decide, show addT (more 14) 1 = more 14 from if_neg (by decide)] at k
  exact k
theorem jN {w : World} {p : Nat} {F : Nat → Prop} (h : At w p F (more 14)) : Calls Try.prog 15 #[.pointer (some ⟨p, 0, none⟩)] w (fun e w' => e = .returned (.int .i64 22) ∧ w = w') := by
  have k := tNext h
  rw [show (more 14).n = 22 from by decide] at k
  exact k
theorem jO {w : World} {p : Nat} {F : Nat → Prop} (h : At w p F ⟨[(1, 9), (5, 10)], 8⟩) : Calls Try.prog 15 #[.pointer (some ⟨p, 0, none⟩)] w (fun e w' => e = .returned (.int .i64 8) ∧ w = w') := tNext h
theorem jH {w : World} {p : Nat} {F : Nat → Prop} (h : At w p F ⟨[(1, 9), (5, 10)], 8⟩) : Calls Try.prog 17 #[.pointer (some ⟨p, 0, none⟩)] w (AnsI [1, 5] w) := tHandles h
set_option maxHeartbeats 8000000 in
theorem awake19 (w : World) : Calls Try.prog 6 #[] w (AnsB true w) := by
  go_enter Try.func6, Try.ntmps6
  go_wp2_with fail
  refine (tNew _).mono ?_
  rintro e V ⟨p, rfl, hp, A0, hb⟩
  have J : Hid (One w V p ⟨[], 0⟩) := Lib.hid ⟨⟨_, A0, fun b e => e ▸ hp⟩, hb⟩
  clear A0 hb hp
  go_wp2_with fail
  obtain ⟨F, a, nx⟩ := J.out.act
  refine (jA1 a).mono ?_
  rintro e V' ⟨rfl, X⟩
  replace J := Lib.hid (nx _ _ X)
  clear X nx a F
  go_wp2_with fail
  obtain ⟨F, a, nx⟩ := J.out.act
  refine (jA2 a).mono ?_
  rintro e V' ⟨rfl, X⟩
  replace J := Lib.hid (nx _ _ X)
  clear X nx a F
  go_wp2_with fail
  obtain ⟨F, a, nx⟩ := J.out.act
  refine (jD1 a).mono ?_
  rintro e V' ⟨rfl, X⟩
  replace J := Lib.hid (nx _ _ X)
  clear X nx a F
  go_wp2_with fail
  obtain ⟨F, a, nx⟩ := J.out.act
  refine (jD2 a).mono ?_
  rintro e V' ⟨rfl, X⟩
  replace J := Lib.hid (nx _ _ X)
  clear X nx a F
  go_wp2_with fail
  obtain ⟨F, a, nx⟩ := J.out.act
  refine (jL1 a).mono ?_
  rintro e V' ⟨rfl, X⟩
  replace J := Lib.hid (nx _ _ X)
  clear X nx a F
  go_wp2_with fail
  obtain ⟨F, a, nx⟩ := J.out.act
  refine (jL2 a).mono ?_
  rintro e V' ⟨rfl, X⟩
  replace J := Lib.hid (nx _ _ X)
  clear X nx a F
  go_wp2_with fail
  obtain ⟨F, a, nx⟩ := J.out.act
  refine (jG1 a).mono ?_
  rintro e V' ⟨rfl, X⟩
  replace J := Lib.hid (nx _ _ X)
  clear X nx a F
  go_wp2_with fail
  obtain ⟨F, a, nx⟩ := J.out.act
  refine (jG2 a).mono ?_
  rintro e V' ⟨rfl, X⟩
  replace J := Lib.hid (nx _ _ X)
  clear X nx a F
  go_wp2_with fail
  obtain ⟨F, a, nx⟩ := J.out.act
  refine (jT1 a).mono ?_
  rintro e V' ⟨rfl, hb⟩
  replace J := Lib.hid (J.out.still hb)
  clear nx a F hb
  go_wp2_with fail
  obtain ⟨F, a, nx⟩ := J.out.act
  refine (jT2 a).mono ?_
  rintro e V' ⟨rfl, hb⟩
  replace J := Lib.hid (J.out.still hb)
  clear nx a F hb
  go_wp2_with fail
  obtain ⟨F, a, nx⟩ := J.out.act
  refine (jC a).mono ?_
  rintro e V' ⟨o, rfl, X⟩
  have D := Lib.hid (J.out.copy X)
  clear nx a X J F
  go_wp2_with fail
  obtain ⟨G, b⟩ := D.out.at2
  refine (jT3 b).mono ?_
  rintro e V' ⟨rfl, hb⟩
  replace D := Lib.hid (D.out.still hb)
  clear b G hb
  go_wp2_with fail
  go_loopg [65] 14 (fun g iv wr => ∃ i : Nat, i + g = 14 ∧ iv = .int .i64 i ∧ Hid (Duo w wr p (more i) o ⟨[(1, 9), (5, 10)], 8⟩))
  case atStart => exact ⟨0, by omega, rfl, D⟩
  case round =>
    clear D
    obtain ⟨i, hi, rfl, D⟩ := hrel
    by_cases hlt : i < 14
    · have hlt' : (i : Int) < 14 := by omega
      go_wp2_with fail
      obtain ⟨F, a, nx⟩ := D.out.act1
      refine (tAdd a 1).mono ?_
      rintro e V' ⟨rfl, X⟩
      have D2 : Hid (Duo w V' p (more (i + 1)) o ⟨[(1, 9), (5, 10)], 8⟩) := Lib.hid (nx _ _ X)
      clear X nx a D F
      go_wp2_with fail
      go_roundg (gk - 1)
      case measure => omega
      case rel => exact ⟨i + 1, by omega, by go_num, D2⟩
    · obtain rfl : i = 14 := by omega
      go_wp2_with fail
      obtain ⟨F, a, nx⟩ := D.out.act1
      refine (jF a).mono ?_
      rintro e V' ⟨rfl, X⟩
      replace D := Lib.hid (nx _ _ X)
      clear X nx a F
      obtain ⟨F, a, _⟩ := D.out.act1
      obtain ⟨G, b⟩ := D.out.at2
      have AN := Lib.hid (jN a)
      have BN := Lib.hid (jO b)
      have BH := Lib.hid (jH b)
      clear a b
      go_wp2_with fail
      refine AN.out.mono ?_
      rintro e V2 ⟨rfl, rfl⟩
      clear AN
      go_wp2_with fail
      refine BN.out.mono ?_
      rintro e V2 ⟨rfl, rfl⟩
      clear BN
      go_wp2_with fail
      refine BH.out.mono ?_
      rintro e V2 ⟨v, rfl, H1, hb⟩
      have D := Lib.hid (D.out.still hb)
      have H1 := Lib.hid H1
      clear BH hb
      go_wp2_with (first | (refine wpList_lit 3 [.int .i64 1, .int .i64 5] #[.int .i64 1, .int .i64 5] (.int .i64 0) Try.underlying44 infoI rfl (by decide) (by intro v hv; simp at hv; rcases hv with rfl | rfl <;> rfl) (by kernel_rfl) (by kernel_rfl) (by kernel_rfl) ?_) | fail)
      have HL := World.ownsRow_lit (base := 0) (e := 3) (size := 1) V2 #[.int .i64 1, .int .i64 5] 2 (Nat.zero_le _) (by decide) rfl
      have B3 := below_allocs V2 (.cells #[.int .i64 1, .int .i64 5] 3)
      refine (rInts (l := [1, 5]) (k := [1, 5]) (il_zero (il_below H1.out B3)) HL (by decide) (by decide)).mono ?_
      rintro e V3 ⟨rfl, hb⟩
      have D := Lib.hid ((D.out.still B3).still hb)
      clear hb HL B3 H1
      rw [decide_eq_true rfl]
      go_wp2_with fail
      go_ret
      exact ⟨rfl, D.out.below⟩
end Go.Proofs.Ytlimfgmmbkgeeaa
