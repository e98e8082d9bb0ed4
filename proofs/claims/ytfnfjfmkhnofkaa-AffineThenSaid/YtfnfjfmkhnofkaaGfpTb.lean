/-
  What the calls Trim, Parts and Of of the reference of layer 2, and Word of the reference of layer 1, answer.
-/
import Derived.Test.YtfnfjfmkhnofkaaGfpTa
namespace Go.Proofs.Ytfnfjfmkhnofkaa
open Go.RowKit G
set_option linter.unusedVariables false
set_option maxRecDepth 100000

theorem nil_appendI (g c : Nat) (w : World) (hg : w.heap[g]? = some (.cells #[] 3 (0, 0))) : (Builtin.append_ #[62, 62] 62 #[.slice (some ⟨g, 0, none⟩) 0 0, .slice none 0 c]).run Try.prog w = .ok (.slice (some ⟨g, 0, none⟩) 0 0) w := by
  obtain ⟨i0, hi, hz0, hz1, hz2⟩ := info_parts infoI
  simp [Builtin.append_, run_underlying Try.underlying62, sizeOf, typeInfo, hi, Builtin.lenOf, Builtin.firstCells, storeCells]

set_option maxHeartbeats 1000000 in
theorem wordWalk (A : Option Addr) (cap L f N : Nat) (xs : List Nat) (hL : Hid (xs.length = L)) (hN : Hid (leB xs = N)) (hl : L ≤ 1000000) (hf : f ≤ 1000000) (w : World) (H : Hid (Lst w A cap xs)) :
    Calls Try.prog 41 #[.slice A L cap, .int .i64 (f : Int)] w (fun e w' => e = .returned (.int .u64 ((N / 2 ^ f % 18446744073709551616 : Nat) : Int)) ∧ w = w') := by
  go_enter Try.func41, Try.ntmps41
  go_wp2
  go_loopg [5, 6] 64 (fun g v i wr => ∃ (m : Nat) (z : Int), z + 1 = (g : Int) ∧ g ≤ 64 ∧ i = .int .i64 z ∧ v = .int .u64 (m : Int) ∧ Hid (m = N / 2 ^ (f + g) % 2 ^ (64 - g)) ∧ wr = w)
  case atStart => exact ⟨0, 63, by omega, by omega, rfl, rfl, Lib.hid (by simp [Nat.mod_one]), rfl⟩
  case round =>
    obtain ⟨m, z, hz, hg, rfl, rfl, HM, rfl⟩ := hrel
    cases gk with
    | zero =>
      obtain rfl : z = -1 := by omega
      go_wp2
      go_ret
      exact ⟨by rw [HM.out]; rfl, rfl⟩
    | succ t =>
      obtain rfl : z = (t : Int) := by omega
      have bm : m < 9223372036854775808 := by
        rw [HM.out]
        exact Nat.lt_of_lt_of_le (Nat.mod_lt _ (Nat.two_pow_pos _)) (Nat.pow_le_pow_right (n := 2) (by decide) (show 64 - (t + 1) ≤ 63 by omega))
      obtain ⟨s, hs⟩ : ∃ s, s = f + t := ⟨_, rfl⟩
      have e1 : (f : Int) + (t : Int) = (s : Int) := by omega
      have s0 : (0 : Int) ≤ (s : Int) := by omega
      have ms : 2 * m + xs.getD s 0 = N / 2 ^ (f + t) % 2 ^ (64 - t) := by
        have h := half_step N (f + t) (64 - (t + 1))
        rw [show 64 - (t + 1) + 1 = 64 - t from by omega] at h
        rw [h, HM.out, hs, ← leB_get xs (f + t) H.out.bit, hN.out, Nat.add_assoc f t 1]
        omega
      have hb := H.out.bit.get s
      have MS := Lib.hid ms
      clear ms
      by_cases hlt : s < L
      · have sl : (s : Int) < (L : Int) := by omega
        obtain ⟨b, o, rfl, hc⟩ := H.out.cell s (by rw [hL.out]; exact hlt)
        generalize xs.getD s 0 = x at hc MS hb
        have HS := Lib.hid hs
        clear hs hz
        go_wp2
        go_roundg t
        case measure => omega
        case rel => exact ⟨m * 2 + x, (t : Int) - 1, by omega, by omega, rfl, by go_num, Lib.hid (by rw [← MS.out]; omega), rfl⟩
      · have sl : ¬ ((s : Int) < (L : Int)) := by omega
        have hx : xs.getD s 0 = 0 := by rw [List.getD_eq_getElem?_getD, List.getElem?_eq_none (by rw [hL.out]; omega)]; rfl
        rw [hx] at MS
        have HS := Lib.hid hs
        clear hs hz hx hb
        go_wp2
        go_roundg t
        case measure => omega
        case rel => exact ⟨m * 2, (t : Int) - 1, by omega, by omega, rfl, by go_num, Lib.hid (by rw [← MS.out]; omega), rfl⟩
theorem rBitsAt (n : Nat) (hn : n < 18446744073709551616) (w : World) : Calls Try.prog 40 #[.int .u64 (n : Int)] w (fun e w' => ∃ b o cap, e = .returned (.slice (some ⟨b, o, none⟩) 64 cap) ∧ Lst w' (some ⟨b, o, none⟩) cap (bitsK 64 n) ∧ Below w.heap.size w w') := by
  refine (rBits n hn w).mono ?_
  rintro e w' ⟨A, cap, rfl, l, hb⟩
  obtain ⟨b, o, rfl, _⟩ := l.cell 0 (by rw [bitsK_length]; decide)
  exact ⟨b, o, cap, by rw [bitsK_length], l, hb⟩
end Go.Proofs.Ytfnfjfmkhnofkaa
