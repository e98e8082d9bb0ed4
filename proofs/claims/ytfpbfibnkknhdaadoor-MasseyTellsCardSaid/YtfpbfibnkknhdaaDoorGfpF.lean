/-
  What the calls Up and X of package gfp answer, for all lists of words (of up to 50000) and all places.
-/
import Derived.Test.YtfpbfibnkknhdaaDoorGfpE
import Derived.Deep.RegionHeld3
namespace Go.Proofs.YtfpbfibnkknhdaaDoor
open Go.RowKit G
set_option linter.unusedVariables false

theorem or_int (x y s : Nat) (hy : y < 18446744073709551616) : bits .or .u64 (IntKind.u64.wrap ((x : Int) * 2 ^ s)) ((y : Int) / 2 ^ (64 - s)) = ((upW s x y : Nat) : Int) := by
  rw [mul_int, wrap_nat, div_int]
  exact u64_or_nat _ _ (Nat.mod_lt _ (by decide)) (Nat.lt_of_le_of_lt (Nat.div_le_self _ _) hy)
theorem upW_zero (s : Nat) : upW s 0 0 = 0 := by unfold upW; simp
/-- The word behind, none behind the first one. -/
def behind (xs : List Nat) (k : Nat) : Nat := if k = 0 then 0 else xs.getD (k - 1) 0
theorem behind_lt {xs : List Nat} (h : Wds xs) (k : Nat) : behind xs k < 18446744073709551616 := by unfold behind; split; decide; exact h.get _
theorem cBehind (A : Option Addr) (cap : Nat) (xs : List Nat) (k : Nat) (w : World) (h : Pol w A cap xs) :
    Calls Tryd.prog 31 #[.slice A xs.length cap, .int .i64 ((k : Int) - 1)] w (fun e w' => e = .returned (.int .u64 ((behind xs k : Nat) : Int)) ∧ w = w') := by
  unfold behind
  cases k with
  | zero => exact wordNeg A _ cap _ (by omega) w
  | succ k =>
    rw [if_neg (by omega), show ((k + 1 : Nat) : Int) - 1 = (k : Int) from by omega]
    exact cWord A cap xs k _ rfl w h
theorem Pol.drew {w : World} {A : Option Addr} {cap : Nat} {xs : List Nat} (h : Pol w A cap xs) : Pol w.drew A cap xs := ⟨h.word, h.cap1, h.cap2, h.cell⟩
theorem Fill.drew {w : World} {g n : Nat} {ps : List Nat} {wr : World} (h : Fill w g n ps wr) : Fill w g n ps wr.drew := ⟨h.row, h.wds, h.len, h.new, h.below.drew⟩

set_option maxHeartbeats 1000000 in
theorem upNone (A : Option Addr) (L ca : Nat) (n : Int) (hn : n < 0 ∨ 2048 < n) (w : World) :
    Calls Tryd.prog 39 #[.slice A L ca, .int .i64 n] w (Ans 0 w) := by
  rcases hn with h | h
  · go_enter Tryd.func39, Tryd.ntmps39
    go_wp2
    go_ret
    exact ⟨none, 0, by rw [wordsOf_zero]; rfl, by rw [wordsOf_zero]; exact Pol.nil _ _ _ (by omega), Below.refl _ _⟩
  · have h' : ¬ n < 0 := by omega
    go_enter Tryd.func39, Tryd.ntmps39
    go_wp2
    go_ret
    exact ⟨none, 0, by rw [wordsOf_zero]; rfl, by rw [wordsOf_zero]; exact Pol.nil _ _ _ (by omega), Below.refl _ _⟩

/-- What the row of Up holds after k rounds. -/
def UpTo (q s k : Nat) (xs ps : List Nat) : Prop := ∀ i, ps.getD i 0 = if q ≤ i ∧ i < q + k then upW s (xs.getD (i - q) 0) (behind xs (i - q)) else 0
theorem UpTo.start (q s n : Nat) (xs : List Nat) : UpTo q s 0 xs (List.replicate n 0) := fun i => by rw [getD_zero, if_neg (by omega)]
theorem UpTo.step {q s k : Nat} {xs ps : List Nat} (h : UpTo q s k xs ps) (hk : q + k < ps.length) : UpTo q s (k + 1) xs (ps.set (q + k) (upW s (xs.getD k 0) (behind xs k))) := fun i => by
  rw [getD_set _ _ _ _ hk, h i]
  by_cases e : i = q + k
  · subst e; rw [if_pos rfl, if_pos (by omega), show q + k - q = k from by omega]
  · rw [if_neg e]
    by_cases e2 : q ≤ i ∧ i < q + k
    · rw [if_pos e2, if_pos (by omega)]
    · rw [if_neg e2, if_neg (by omega)]
theorem UpTo.done {q s : Nat} {xs ps : List Nat} (h : UpTo q s (xs.length + 1) xs ps) (hs : s < 64) (hp : Wds ps) (hx : Wds xs) : leN ps = leN xs * 2 ^ (64 * q + s) := by
  refine leN_up ps xs q s hs hp hx (fun i => ?_)
  rw [h i]
  by_cases e : i < q
  · rw [if_neg (by omega), if_pos e]
  · rw [if_neg e]
    have eb : (if i = q then 0 else xs.getD (i - q - 1) 0) = behind xs (i - q) := by
      unfold behind
      by_cases e2 : i = q
      · rw [if_pos e2, if_pos (by omega)]
      · rw [if_neg e2, if_neg (by omega)]
    rw [eb]
    by_cases e2 : i < q + (xs.length + 1)
    · rw [if_pos (by omega)]
    · rw [if_neg (by omega), List.getD_eq_getElem?_getD, List.getElem?_eq_none (by omega)]
      unfold behind
      rw [if_neg (by omega), List.getD_eq_getElem?_getD, List.getElem?_eq_none (by omega)]
      exact (upW_zero s).symm

set_option maxRecDepth 100000 in
set_option maxHeartbeats 2000000 in
theorem upWalk (A : Option Addr) (ca L n q s M R : Nat) (xs : List Nat) (hL : Hid (xs.length = L)) (bl : L ≤ 50000) (hn : n ≤ 2048) (hq : Hid (n = 64 * q + s)) (hs : s < 64) (hM : Hid (q + L + 1 = M)) (hR : Hid (L + 1 = R)) (w : World) (P : Hid (Pol w A ca xs)) (Z : Nat) (hZ : Hid (leN xs * 2 ^ n = Z)) :
    Calls Tryd.prog 39 #[.slice A L ca, .int .i64 (n : Int)] w (Ans Z w) := by
  have bq : q ≤ 32 := by have := hq.out; omega
  have bM : M ≤ 60000 := by have := hM.out; omega
  have bR : R ≤ 60000 := by have := hR.out; omega
  have hmk := run_make_row' (P := Tryd.prog) 23 50 (.int .u64 0) 8 Tryd.underlying23 infoW rfl .i64 .i64 M (by omega) (by omega)
  have e1 : (n : Int) / 64 = (q : Int) := by have := hq.out; omega
  have e2 : (n : Int) % 64 = (s : Int) := by have := hq.out; omega
  have e3 : (q : Int) + (L : Int) + 1 = (M : Int) := by have := hM.out; omega
  have e4 : (L : Int) + 1 = (R : Int) := by have := hR.out; omega
  go_enter Tryd.func39, Tryd.ntmps39
  go_wp2
  rw [e2]
  clear hmk e1 e2 e3 e4
  have F0 := Fill.start w M
  have Z0 := Lib.hid (UpTo.start q s M xs)
  generalize hps : List.replicate M 0 = ps0 at F0 Z0
  clear hps
  go_loopg [31] R (fun g i wr => ∃ (k : Nat) (ps : List Nat), k + g = R ∧ i = .int .i64 k ∧ Hid (UpTo q s k xs ps) ∧ Hid (Fill w w.heap.size M ps wr))
  case atStart => exact ⟨0, ps0, by omega, rfl, Z0, Lib.hid F0⟩
  case round =>
    obtain ⟨k, ps, hk, rfl, hp, F⟩ := hrel
    clear F0 Z0
    by_cases hlt : k < R
    · have kl : (k : Int) < (R : Int) := by omega
      have k0 : (0 : Int) ≤ (k : Int) := by omega
      obtain ⟨t, ht⟩ : ∃ t, q + k = t := ⟨_, rfl⟩
      have tM : t < M := by have := hM.out; have := hR.out; omega
      obtain ⟨c1, c2⟩ := F.out.cell t tM
      have P' := Lib.hid (P.out.far F.out.below)
      have hx := P.out.word.get k
      have hy := behind_lt P.out.word k
      have W1 := cWord A ca xs k _ rfl wr.drew P'.out.drew
      have W2 := cBehind A ca xs k wr.drew P'.out.drew
      rw [hL.out] at W1 W2
      have F1 := Lib.hid (F.out.drew.set t (upW s (xs.getD k 0) (behind xs k)) tM (upW_lt s _ _ hy))
      have X1 := or_int (xs.getD k 0) (behind xs k) s hy
      have H1 := Lib.hid (hp.out.step (by rw [F.out.len, ht]; exact tM))
      rw [ht] at H1
      generalize ps.set t (upW s (xs.getD k 0) (behind xs k)) = ps' at F1 H1
      generalize upW s (xs.getD k 0) (behind xs k) = z at F1 X1
      generalize xs.getD k 0 = x at W1 hx X1
      generalize behind xs k = y at W2 hy X1
      generalize ps.getD t 0 = p at c1
      have HW1 := Lib.hid W1
      have HW2 := Lib.hid W2
      clear W1 W2
      have r1 : IntKind.i64.wrap ((q : Int) + (k : Int)) = (t : Int) := by rw [IntKind.wrap_i64]; omega
      have r2 : IntKind.i64.wrap ((k : Int) - 1) = (k : Int) - 1 := by rw [IntKind.wrap_i64]; omega
      have r3 : IntKind.i64.wrap (64 - (s : Int)) = ((64 - s : Nat) : Int) := by rw [IntKind.wrap_i64]; omega
      have r4 : (t : Int) < (M : Int) := by omega
      have r5 : (0 : Int) ≤ (t : Int) := by omega
      clear ht
      go_wp2_with fail
      go_region_held3 (fun _ => True) (trivial) (first
        | (go_at_call 31; ((with_reducible refine (HW1.out).mono ?_); rintro e w' ⟨rfl, rfl⟩))
        | (go_at_call 31; ((with_reducible refine (HW2.out).mono ?_); rintro e w' ⟨rfl, rfl⟩)))
      clear r1 r2 r3 r4 r5
      go_wp2_with fail
      go_roundg (gk - 1)
      case measure => omega
      case rel => exact ⟨k + 1, ps', by omega, by go_num, H1, F1⟩
    · obtain rfl : k = R := by omega
      have hs' : leN ps = Z := by
        have h1 := hp.out
        rw [← hR.out, ← hL.out] at h1
        rw [h1.done hs F.out.wds P.out.word, ← hq.out]; exact hZ.out
      have O := cOwn (some ⟨w.heap.size, 0, none⟩) M ps Z hs' (by rw [F.out.len]; omega) wr (F.out.pol (by omega))
      rw [F.out.len] at O
      have HO := Lib.hid O
      clear O hs'
      go_wp2_with (go_at_call 33; ((with_reducible refine (HO.out).mono ?_); rintro e w' ⟨A', c', rfl, PA, hb⟩))
      go_ret
      exact ⟨A', c', rfl, PA, below_then F.out.below hb⟩
theorem cUp (A : Option Addr) (ca : Nat) (xs : List Nat) (n Z : Nat) (hZ : leN xs * 2 ^ n = Z) (hl : xs.length ≤ 50000) (hn : n ≤ 2048) (w : World) (P : Pol w A ca xs) :
    Calls Tryd.prog 39 #[.slice A xs.length ca, .int .i64 (n : Int)] w (Ans Z w) :=
  upWalk A ca _ n (n / 64) (n % 64) _ _ xs (Lib.hid rfl) hl hn (Lib.hid (by omega)) (by omega) (Lib.hid rfl) (Lib.hid rfl) w (Lib.hid P) Z (Lib.hid hZ)
theorem pol_one (w : World) (x : Nat) (hx : x < 18446744073709551616) : Pol (w.alloc (.cells #[.int .u64 (x : Int)] 50)) (some ⟨w.heap.size, 0, none⟩) 1 [x] :=
  ⟨fun y hy => (by rw [List.mem_singleton.1 hy]; exact hx), Nat.le_refl _, by decide, fun i hi => ⟨w.heap.size, 0, rfl, by
    obtain rfl : i = 0 := by simpa using hi
    simp⟩⟩
set_option maxHeartbeats 1000000 in
theorem xWalk (n : Int) (Z : Nat) (w : World)
    (up : Hid (Calls Tryd.prog 39 #[.slice (some ⟨w.heap.size, 0, none⟩) 1 1, .int .i64 n] (w.alloc (.cells #[.int .u64 1] 50)) (Ans Z (w.alloc (.cells #[.int .u64 1] 50))))) :
    Calls Tryd.prog 36 #[.int .i64 n] w (Ans Z w) := by
  go_enter Tryd.func36, Tryd.ntmps36
  go_wp2_with (go_at_call 39; ((with_reducible refine (up.out).mono ?_); rintro e w' ⟨A', c', rfl, PA, hb⟩))
  go_ret
  exact ⟨A', c', rfl, PA, below_then (below_alloc (Below.refl _ _) _) hb⟩
theorem cX (n : Nat) (hn : n ≤ 2048) (w : World) : Calls Tryd.prog 36 #[.int .i64 (n : Int)] w (Ans (2 ^ n) w) :=
  xWalk n _ w (Lib.hid (cUp _ 1 [1] n (2 ^ n) (by simp [leN]) (by simp) hn _ (pol_one w 1 (by decide))))
theorem cXout (n : Int) (hn : n < 0 ∨ 2048 < n) (w : World) : Calls Tryd.prog 36 #[.int .i64 n] w (Ans 0 w) :=
  xWalk n _ w (Lib.hid (upNone _ 1 1 n hn _))
theorem join_xor (n : Nat) : n / 18446744073709551616 * 18446744073709551616 ^^^ n % 18446744073709551616 = n := by
  refine Nat.eq_of_testBit_eq (fun i => ?_)
  rw [Nat.testBit_xor, show (18446744073709551616 : Nat) = 2 ^ 64 from rfl, bit_shift, Nat.testBit_div_two_pow, Nat.testBit_mod_two_pow]
  by_cases h : 64 ≤ i
  · rw [show i - 64 + 64 = i from by omega, show decide (i < 64) = false from by simp; omega, show decide (64 ≤ i) = true from by simpa using h]; simp
  · rw [show decide (i < 64) = true from by simp; omega, show decide (64 ≤ i) = false from by simpa using h]; simp
theorem two_words (v n : Nat) : v / 18446744073709551616 * 2 ^ (64 * (n + 1)) ^^^ v % 18446744073709551616 * 2 ^ (64 * n) = v * 2 ^ (64 * n) := by
  rw [show 64 * (n + 1) = 64 + 64 * n from by omega, Nat.pow_add, ← Nat.mul_assoc, ← xor_shift]
  congr 1
  exact join_xor v
theorem high_lt {a b : Nat} (ha : a < 18446744073709551616) (hb : b < 18446744073709551616) : clm a b / 18446744073709551616 < 18446744073709551616 := by
  have := clm_lt (m := 64) (n := 64) ha hb
  omega
end Go.Proofs.YtfpbfibnkknhdaaDoor
