/-
  What the calls Up and X of package gfp answer, for all lists of words (of up to 50000) and all places.
-/
import Derived.Test.YtfnfjfmkhnofkaaGfpE
import Derived.Deep.RegionHeld3
namespace Go.Proofs.Ytfnfjfmkhnofkaa
open Go.RowKit G
set_option linter.unusedVariables false

theorem or_int (x y s : Nat) (hy : y < 18446744073709551616) : bits .or .u64 (IntKind.u64.wrap ((x : Int) * 2 ^ s)) ((y : Int) / 2 ^ (64 - s)) = ((upW s x y : Nat) : Int) := by
  rw [mul_int, wrap_nat, div_int]
  exact u64_or_nat _ _ (Nat.mod_lt _ (by decide)) (Nat.lt_of_le_of_lt (Nat.div_le_self _ _) hy)
theorem upW_zero (s : Nat) : upW s 0 0 = 0 := by unfold upW; simp
/-- The word behind, none behind the first one. -/
def behind (xs : List Nat) (k : Nat) : Nat := if k = 0 then 0 else xs.getD (k - 1) 0
theorem behind_lt {xs : List Nat} (h : Wds xs) (k : Nat) : behind xs k < 18446744073709551616 := by unfold behind; split; decide; exact h.get _
theorem Pol.drew {w : World} {A : Option Addr} {cap : Nat} {xs : List Nat} (h : Pol w A cap xs) : Pol w.drew A cap xs := ⟨h.word, h.cap1, h.cap2, h.cell⟩
theorem Fill.drew {w : World} {g n : Nat} {ps : List Nat} {wr : World} (h : Fill w g n ps wr) : Fill w g n ps wr.drew := ⟨h.row, h.wds, h.len, h.new, h.below.drew⟩

/-- What the row of Up holds after k rounds. -/
def UpTo (q s k : Nat) (xs ps : List Nat) : Prop := ∀ i, ps.getD i 0 = if q ≤ i ∧ i < q + k then upW s (xs.getD (i - q) 0) (behind xs (i - q)) else 0
theorem UpTo.start (q s n : Nat) (xs : List Nat) : UpTo q s 0 xs (List.replicate n 0) := fun i => by rw [getD_zero, if_neg (by omega)]
theorem UpTo.step {q s k : Nat} {xs ps : List Nat} (h : UpTo q s k xs ps) (hk : q + k < ps.length) : UpTo q s (k + 1) xs (ps.set (q + k) (upW s (xs.getD k 0) (behind xs k))) := fun i => by
  rw [getD_set _ _ _ _ hk, h i]
  by_cases e : i = q + k
  · subst e; rw [if_pos rfl, if_pos (by omega), show q + k - q = k from by omega]
  · rw [if_neg e]
    by_cases e2 : q ≤ i ∧ i < q + k
    · rw [if_pos e2, if_pos (by omega)]
    · rw [if_neg e2, if_neg (by omega)]
theorem UpTo.done {q s : Nat} {xs ps : List Nat} (h : UpTo q s (xs.length + 1) xs ps) (hs : s < 64) (hp : Wds ps) (hx : Wds xs) : leN ps = leN xs * 2 ^ (64 * q + s) := by
  refine leN_up ps xs q s hs hp hx (fun i => ?_)
  rw [h i]
  by_cases e : i < q
  · rw [if_neg (by omega), if_pos e]
  · rw [if_neg e]
    have eb : (if i = q then 0 else xs.getD (i - q - 1) 0) = behind xs (i - q) := by
      unfold behind
      by_cases e2 : i = q
      · rw [if_pos e2, if_pos (by omega)]
      · rw [if_neg e2, if_neg (by omega)]
    rw [eb]
    by_cases e2 : i < q + (xs.length + 1)
    · rw [if_pos (by omega)]
    · rw [if_neg (by omega), List.getD_eq_getElem?_getD, List.getElem?_eq_none (by omega)]
      unfold behind
      rw [if_neg (by omega), List.getD_eq_getElem?_getD, List.getElem?_eq_none (by omega)]
      exact (upW_zero s).symm

theorem pol_one (w : World) (x : Nat) (hx : x < 18446744073709551616) : Pol (w.alloc (.cells #[.int .u64 (x : Int)] 22)) (some ⟨w.heap.size, 0, none⟩) 1 [x] :=
  ⟨fun y hy => (by rw [List.mem_singleton.1 hy]; exact hx), Nat.le_refl _, by decide, fun i hi => ⟨w.heap.size, 0, rfl, by
    obtain rfl : i = 0 := by simpa using hi
    simp⟩⟩
theorem join_xor (n : Nat) : n / 18446744073709551616 * 18446744073709551616 ^^^ n % 18446744073709551616 = n := by
  refine Nat.eq_of_testBit_eq (fun i => ?_)
  rw [Nat.testBit_xor, show (18446744073709551616 : Nat) = 2 ^ 64 from rfl, bit_shift, Nat.testBit_div_two_pow, Nat.testBit_mod_two_pow]
  by_cases h : 64 ≤ i
  · rw [show i - 64 + 64 = i from by omega, show decide (i < 64) = false from by simp; omega, show decide (64 ≤ i) = true from by simpa using h]; simp
  · rw [show decide (i < 64) = true from by simp; omega, show decide (64 ≤ i) = false from by simpa using h]; simp
theorem two_words (v n : Nat) : v / 18446744073709551616 * 2 ^ (64 * (n + 1)) ^^^ v % 18446744073709551616 * 2 ^ (64 * n) = v * 2 ^ (64 * n) := by
  rw [show 64 * (n + 1) = 64 + 64 * n from by omega, Nat.pow_add, ← Nat.mul_assoc, ← xor_shift]
  congr 1
  exact join_xor v
theorem high_lt {a b : Nat} (ha : a < 18446744073709551616) (hb : b < 18446744073709551616) : clm a b / 18446744073709551616 < 18446744073709551616 := by
  have := clm_lt (m := 64) (n := 64) ha hb
  omega
end Go.Proofs.Ytfnfjfmkhnofkaa
