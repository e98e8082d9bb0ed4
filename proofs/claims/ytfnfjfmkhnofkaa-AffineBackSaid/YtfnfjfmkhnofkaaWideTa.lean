/-
  What Bits of the reference of layer 1 answers: the 64 bits of a word, the lowest one first.
-/
import Derived.Test.YtfnfjfmkhnofkaaWideA
namespace Go.Proofs.Ytfnfjfmkhnofkaa.Wd
open Go.RowKit
set_option linter.unusedVariables false

/-- So many bits of a number, the lowest one first. -/
def bitsK : Nat → Int → List Int
  | 0, _ => []
  | k + 1, v => bitsK k v ++ [v / 2 ^ k % 2]
theorem bitsK_length : ∀ (k : Nat) (v : Int), (bitsK k v).length = k
  | 0, _ => rfl
  | k + 1, v => by simp [bitsK, bitsK_length k v]
theorem infoInt : (Try.prog.info? 3).map (fun i => (i.zero, i.size, i.bytes)) = some (some (.int .i64 0), 1, 8) := by kernel_rfl

/-- An answer that is a new list of ints. -/
def Row (xs : List Int) (w : World) (e : Ending) (w' : World) : Prop :=
  ∃ v, e = .returned v ∧ w'.ownsRow w.heap.size 3 1 v xs.length (xs.map (Value.int .i64)) ∧ Below w.heap.size w w'

theorem new1 (wr : World) (x : Value) (t : TypeId) : ∀ (j : Nat) (u : Value), [x][j]? = some u → (wr.alloc (.cells #[x] t)).cell? ((⟨wr.heap.size, 0, none⟩ : Addr).add j) = some u := by
  intro j u h
  cases j with
  | zero => simp at h; subst h; simp [Addr.add]
  | succ j => simp at h
structure BitsInv (w : World) (n : Int) (k : Nat) (v : Value) (wr : World) : Prop where
  own : wr.ownsRow w.heap.size 3 1 v (bitsK k n).length ((bitsK k n).map (Value.int .i64))
  below : Below w.heap.size w wr

theorem bits_start (w : World) (n : Int) : BitsInv w n 0 (.slice (some ⟨w.heap.size, 0, none⟩) 0 0) (w.alloc (.cells #[] 3)) :=
  ⟨World.ownsRow_made w #[] 0 (Nat.le_refl _) (by decide) rfl, below_alloc (Below.refl _ _) _⟩
theorem bits_step {w : World} {n : Int} {k : Nat} {v v' : Value} {wr w1 : World} {o : Obj} (inv : BitsInv w n k v wr)
    (hown' : w1.ownsRow w.heap.size 3 1 v' ((bitsK k n).length + 1) ((bitsK k n).map (Value.int .i64) ++ [.int .i64 (n / 2 ^ k % 2)])) (hgrow : (wr.alloc o).grownBy w1 v.ownBlock) : BitsInv w n (k + 1) v' w1 := by
  refine ⟨?_, (below_alloc inv.below o).grown hgrow (by have := inv.below.size; simp; omega) (fun j hj => (inv.own.lt j hj).1)⟩
  simpa [bitsK] using hown'

set_option maxRecDepth 100000 in
set_option maxHeartbeats 1000000 in
theorem rBits (n : Int) (n0 : 0 ≤ n) (n1 : n < 18446744073709551616) (w : World) :
    Calls Try.prog 40 #[.int .u64 n] w (Row (bitsK 64 n) w) := by
  obtain ⟨i0, hi, hz0, hz1, hz2⟩ := info_parts infoInt
  have HI := Lib.hid hi
  have HZ0 := Lib.hid hz0
  have HZ1 := Lib.hid hz1
  have HZ2 := Lib.hid hz2
  clear hi hz0 hz1 hz2
  go_enter Try.func40, Try.ntmps40
  go_wp2
  go_loopw [3, 0, 4] (fun v u i wr => ∃ (k : Nat) (m : Int), k ≤ 64 ∧ i = .int .i64 k ∧ u = .int .u64 m ∧ m = n / 2 ^ k ∧ 0 ≤ m ∧ m < 18446744073709551616 ∧ BitsInv w n k v wr) (fun _ _ i _ => 64 - (intOf i).toNat)
  case atStart => exact ⟨0, n, by omega, rfl, rfl, by simp, n0, n1, bits_start w n⟩
  case round =>
    obtain ⟨k, m, hk, rfl, rfl, hm, m0, m1, inv⟩ := hrel
    have HM := Lib.hid hm
    clear hm
    have INV := Lib.hid inv
    have hown := inv.own
    have hsz := inv.below.size
    clear inv
    have HL := Lib.hid (bitsK_length k n)
    by_cases hlt : k < 64
    · have hlt' : (k : Int) < 64 := by omega
      have OWN := Lib.hid hown
      clear hown
      go_wp2_with (at_builtin; refine wpList_append_own _ rfl _ _ 62 rfl w.heap.size 3 i0 (.int .i64 0) 1 8 Try.underlying62 HI.out HZ0.out HZ1.out HZ2.out rfl (by decide) _ _ _ rfl (OWN.out.alloc _) ⟨wr.heap.size, 0, none⟩ 1 1 [.int .i64 (m % 2)] rfl rfl ?c1 ?c2 ?c3 ?c4 ?c5 ?_)
      case c1 => exact new1 wr _ _
      case c2 => simp [Value.oneCell']
      case c3 => rw [HL.out]; unfold maxLen; omega
      case c4 => rw [HL.out]; omega
      case c5 => simp; omega
      intro v' w1 hown' hgrow _
      have INV' := Lib.hid (bits_step INV.out (by rw [← HM.out]; exact hown') hgrow)
      clear hown' hgrow OWN
      go_wp2
      go_roundw
      case rel =>
        refine ⟨k + 1, m / 2, by omega, by go_num, rfl, ?_, by omega, by omega, INV'.out⟩
        rw [HM.out, Int.pow_succ, Int.ediv_ediv_of_nonneg (Int.le_of_lt (Int.pow_pos (by decide)))]
      case measure => simp [intOf]; omega
    · obtain rfl : k = 64 := by omega
      go_wp2
      go_ret
      exact ⟨_, rfl, INV.out.own, INV.out.below⟩
end Go.Proofs.Ytfnfjfmkhnofkaa.Wd
