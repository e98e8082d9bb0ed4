/-
  What Word and Of of the reference of layer 1 answer: the numbers of bits.
-/
import Derived.Test.YtfnfjfmkhnofkaaWideTa
namespace Go.Proofs.Ytfnfjfmkhnofkaa.Wd
open Go.RowKit
set_option linter.unusedVariables false

/-- The number of bits, the lowest one first. -/
def leB : List Int → Int
  | [] => 0
  | x :: xs => x + 2 * leB xs
/-- All are 0 or 1. -/
def AreBits (xs : List Int) : Prop := ∀ x ∈ xs, 0 ≤ x ∧ x ≤ 1
theorem AreBits.drop {xs : List Int} (h : AreBits xs) (k : Nat) : AreBits (xs.drop k) := fun x hx => h x (List.mem_of_mem_drop hx)
theorem AreBits.take {xs : List Int} (h : AreBits xs) (k : Nat) : AreBits (xs.take k) := fun x hx => h x (List.mem_of_mem_take hx)
theorem leB_bd : ∀ (xs : List Int), AreBits xs → 0 ≤ leB xs ∧ leB xs < 2 ^ xs.length
  | [], _ => by simp [leB]
  | x :: xs, h => by
    have h1 := h x (by simp)
    have h2 := leB_bd xs (fun y hy => h y (by simp [hy]))
    simp only [leB, List.length_cons, Int.pow_succ]
    omega
/-- A list of ints in memory. -/
def Ints (w : World) (b off : Nat) (xs : List Int) : Prop := ∀ i, i < xs.length → w.cell? ⟨b, off + i, none⟩ = some (.int .i64 (xs.getD i 0))

theorem drop_step (ys : List Int) (t : Nat) (ht : t < 64) (hl : ys.length ≤ 64) : leB (ys.drop (63 - t)) = (if 63 - t < ys.length then ys.getD (63 - t) 0 else 0) + 2 * leB (ys.drop (64 - t)) := by
  by_cases h : 63 - t < ys.length
  · rw [if_pos h, List.drop_eq_getElem_cons h, show 63 - t + 1 = 64 - t from by omega]
    simp [leB, List.getElem?_eq_getElem h]
  · rw [if_neg h, List.drop_eq_nil_of_le (by omega), List.drop_eq_nil_of_le (by omega)]
    rfl
theorem acc_bd (ys : List Int) (hb : AreBits ys) (t : Nat) (ht : t < 64) (hl : ys.length ≤ 64) : 0 ≤ leB (ys.drop (64 - t)) ∧ leB (ys.drop (64 - t)) ≤ 9223372036854775807 := by
  obtain ⟨h1, h2⟩ := leB_bd _ (hb.drop (64 - t))
  have h3 : (ys.drop (64 - t)).length ≤ t := by simp; omega
  have h4 : (2 : Nat) ^ (ys.drop (64 - t)).length ≤ 2 ^ 63 := Nat.pow_le_pow_right (by omega) (by omega)
  have e : ((2 ^ (ys.drop (64 - t)).length : Nat) : Int) = (2 : Int) ^ (ys.drop (64 - t)).length := by rw [Int.natCast_pow]; rfl
  have e2 : (2 : Nat) ^ 63 = 9223372036854775808 := by decide +kernel
  omega

set_option maxRecDepth 100000 in
set_option maxHeartbeats 1000000 in
theorem rWord (b off cap : Nat) (xs : List Int) (hb : AreBits xs) (frm : Nat) (hf : frm ≤ 64) (hn : xs.length ≤ 1000) (w : World) (hc : Ints w b off xs) :
    Calls Try.prog 41 #[.slice (some ⟨b, off, none⟩) xs.length cap, .int .i64 frm] w (fun e w' => e = .returned (.int .u64 (leB ((xs.drop frm).take 64))) ∧ w = w') := by
  obtain ⟨ys, hys⟩ : ∃ ys, ys = (xs.drop frm).take 64 := ⟨_, rfl⟩
  have yl : ys.length ≤ 64 := by rw [hys]; simp; omega
  have yb : AreBits ys := by rw [hys]; exact (hb.drop _).take _
  have yn : ∀ i, i < 64 → (i < ys.length ↔ frm + i < xs.length) := by intro i hi; rw [hys]; simp; omega
  have yg : ∀ i, i < ys.length → ys.getD i 0 = xs.getD (frm + i) 0 := by
    intro i hi
    rw [hys] at hi ⊢
    simp only [List.length_take, List.length_drop] at hi
    simp [show i < 64 from by omega]
  rw [← hys]
  have YN := Lib.hid yn
  have YG := Lib.hid yg
  have HY := Lib.hid hys
  have HC := Lib.hid hc
  have YB := Lib.hid yb
  clear yn yg hys hc yb hb
  go_enter Try.func41, Try.ntmps41
  go_wp2
  go_loop [5, 6] (fun u i => ∃ (t : Nat) (m : Int), t ≤ 64 ∧ i = .int .i64 (63 - (t : Int)) ∧ u = .int .u64 m ∧ m = leB (ys.drop (64 - t))) (fun _ i => (1 + intOf i).toNat)
  case atStart => exact ⟨0, 0, by omega, rfl, rfl, by rw [List.drop_eq_nil_of_le (by omega)]; rfl⟩
  case round =>
    obtain ⟨t, m, ht, rfl, rfl, hm⟩ := hrel
    by_cases hlt : t < 64
    · obtain ⟨m0, m1⟩ := acc_bd ys YB.out t hlt yl
      have st := drop_step ys t hlt yl
      rw [← hm] at m0 m1 st
      have HM := Lib.hid hm
      clear hm
      obtain ⟨j, hj⟩ : ∃ j : Nat, 63 - t = j := ⟨_, rfl⟩
      rw [hj] at st
      have ej : (63 : Int) - (t : Int) = (j : Int) := by omega
      have j63 : j ≤ 63 := by omega
      rw [ej]
      by_cases hin : frm + j < xs.length
      · have hin' : ((frm : Int) + (j : Int)) < (xs.length : Int) := by omega
        have cl : w.cell? ⟨b, off + (frm + j), none⟩ = some (.int .i64 (ys.getD j 0)) := by
          rw [YG.out j ((YN.out j (by omega)).2 hin)]; exact HC.out (frm + j) hin
        have yb := YB.out (ys.getD j 0) (by
          have h := (YN.out j (by omega)).2 hin
          rw [List.getD_eq_getElem?_getD, List.getElem?_eq_getElem h]
          exact List.getElem_mem h)
        rw [if_pos ((YN.out j (by omega)).2 hin)] at st
        generalize ys.getD j 0 = y at cl yb st
        obtain ⟨y0, y1⟩ := yb
        have ST := Lib.hid st
        have EJ := Lib.hid ej
        have HJ := Lib.hid hj
        clear ej hj hin st
        go_wp2
        go_round
        case rel =>
          have ej := EJ.out
          have hj := HJ.out
          refine ⟨t + 1, m * 2 + y, by omega, ?_, by first | rfl | go_num, ?_⟩
          · rw [show (63 : Int) - ((t + 1 : Nat) : Int) = (j : Int) - 1 from by omega]
          · have st := ST.out
            rw [show 64 - (t + 1) = j from by omega, st]
            omega
        case measure => have ej := EJ.out; simp [intOf]; omega
      · have hin' : ¬ ((frm : Int) + (j : Int)) < (xs.length : Int) := by omega
        rw [if_neg (fun q => hin ((YN.out j (by omega)).1 q))] at st
        have ST := Lib.hid st
        have EJ := Lib.hid ej
        have HJ := Lib.hid hj
        clear ej hj hin st
        go_wp2
        go_round
        case rel =>
          have ej := EJ.out
          have hj := HJ.out
          refine ⟨t + 1, m * 2, by omega, ?_, by first | rfl | go_num, ?_⟩
          · rw [show (63 : Int) - ((t + 1 : Nat) : Int) = (j : Int) - 1 from by omega]
          · have st := ST.out
            rw [show 64 - (t + 1) = j from by omega, st]
            omega
        case measure => have ej := EJ.out; simp [intOf]; omega
    · obtain rfl : t = 64 := by omega
      have HM := Lib.hid hm
      clear hm
      go_wp2
      go_ret
      exact ⟨by rw [HM.out]; rfl, rfl⟩
end Go.Proofs.Ytfnfjfmkhnofkaa.Wd
