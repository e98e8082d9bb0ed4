/-
  What the call Mul of package gfp answers, for all lists of words (of up to 50000).
-/
import Derived.Test.YtfnfjfmkhnofkaaGfpF
namespace Go.Proofs.Ytfnfjfmkhnofkaa
open Go.RowKit G
set_option linter.unusedVariables false

/-- What the row of Mul holds after i rows, and j words of the next one. -/
def MulTo (i j : Nat) (xs ys : List Nat) (Y : Nat) (ps : List Nat) : Prop := leN ps = clm (leN (xs.take i)) Y ^^^ clm (xs.getD i 0 * 2 ^ (64 * i)) (leN (ys.take j))
theorem MulTo.start (n : Nat) (xs ys : List Nat) (Y : Nat) : MulTo 0 0 xs ys Y (List.replicate n 0) := by
  unfold MulTo
  rw [leN_zero (fun i => getD_zero n i), List.take_zero, List.take_zero]
  show 0 = clm 0 Y ^^^ clm _ 0
  rw [clm_zero_left, clm_zero]; rfl
theorem MulTo.row {i : Nat} {xs ys : List Nat} {Y : Nat} {ps : List Nat} (n : Nat) (h : MulTo i n xs ys Y ps) (hx : Wds xs) (hn : leN (ys.take n) = Y) : MulTo (i + 1) 0 xs ys Y ps := by
  unfold MulTo at *
  rw [h, hn, leN_take_succ xs i hx, clm_xor_left, List.take_zero]
  show _ = _ ^^^ clm _ 0
  rw [clm_zero, Nat.xor_zero]
theorem MulTo.skip {i j : Nat} {xs ys : List Nat} {Y : Nat} {ps : List Nat} (h : MulTo i j xs ys Y ps) (hx : Wds xs) (h0 : xs.getD i 0 = 0) : MulTo (i + 1) 0 xs ys Y ps := by
  unfold MulTo at *
  rw [h, leN_take_succ xs i hx, h0, Nat.zero_mul, clm_zero_left, Nat.xor_zero, Nat.xor_zero, List.take_zero]
  show _ = _ ^^^ clm _ 0
  rw [clm_zero, Nat.xor_zero]
theorem MulTo.step {i j t u : Nat} {xs ys : List Nat} {Y : Nat} {ps : List Nat} (h : MulTo i j xs ys Y ps) (hx : Wds xs) (hy : Wds ys) (hp : Wds ps) (ht : t = i + j) (hu : u = i + j + 1) (hl : u < ps.length) (v : Nat) (hv : v = clm (xs.getD i 0) (ys.getD j 0)) (hv2 : v / 18446744073709551616 < 18446744073709551616) :
    MulTo i (j + 1) xs ys Y ((ps.set t (ps.getD t 0 ^^^ v % 18446744073709551616)).set u ((ps.set t (ps.getD t 0 ^^^ v % 18446744073709551616)).getD u 0 ^^^ v / 18446744073709551616)) := by
  have l2 : v % 18446744073709551616 < 18446744073709551616 := Nat.mod_lt _ (by decide)
  have hp1 := hp.set t _ (word_xor (hp.get t) l2)
  unfold MulTo at *
  rw [leN_set_xor _ u _ hp1 (by rw [List.length_set]; exact hl) hv2, leN_set_xor _ t _ hp (by omega) l2, h, leN_take_succ ys j hy, clm_xor, Nat.xor_assoc, Nat.xor_assoc]
  congr 2
  rw [clm_shift, clm_shift_left, ← hv, Nat.xor_comm, hu, ht, two_words, Nat.mul_assoc, ← Nat.pow_add]
  congr 2
  omega
theorem MulTo.done {m : Nat} {xs ys : List Nat} {X Y : Nat} {ps : List Nat} (h : MulTo m 0 xs ys Y ps) (hm : leN (xs.take m) = X) : leN ps = clm X Y := by
  unfold MulTo at h
  rw [h, hm, List.take_zero]
  show _ ^^^ clm _ 0 = _
  rw [clm_zero, Nat.xor_zero]

end Go.Proofs.Ytfnfjfmkhnofkaa
