/-
  What the calls Deg, Bit and Same of package gfp answer, for all lists of words.
-/
import Derived.Test.YtfpbfibnkknhdaaDoorGfpC
import Derived.Test.YtfpbfibnkknhdaaDoorGfpS
namespace Go.Proofs.YtfpbfibnkknhdaaDoor
open Go.RowKit G
set_option linter.unusedVariables false

theorem ret_int {k : IntKind} {a b : Int} (h : a = b) : Ending.returned (.int k a) = .returned (.int k b) := by rw [h]
theorem wordsOf_last (N : Nat) : N ≠ 0 → (wordsOf N).getD (sz N - 1) 0 ≠ 0 := by
  induction N using Nat.strongRecOn with
  | _ N ih =>
    intro h
    have e : sz N = sz (N / 18446744073709551616) + 1 := by unfold sz; rw [wordsOf_pos h]; rfl
    rw [wordsOf_pos h, e]
    by_cases h2 : N / 18446744073709551616 = 0
    · rw [h2, show sz 0 = 0 from by unfold sz; rw [wordsOf_zero]; rfl]
      simp; omega
    · have := ih _ (by omega) h2
      have p : 0 < sz (N / 18446744073709551616) := by unfold sz; rw [wordsOf_pos h2]; simp
      rw [show sz (N / 18446744073709551616) + 1 - 1 = (sz (N / 18446744073709551616) - 1) + 1 from by omega]
      simpa using this
theorem sz_zero : sz 0 = 0 := by unfold sz; rw [wordsOf_zero]; rfl
theorem deg_top (xs : List Nat) (N m : Nat) (hw : Wds xs) (h : leN xs = N) (hm : sz N = m + 1) : xs.getD m 0 ≠ 0 ∧ len N = 64 * m + len (xs.getD m 0) ∧ m < xs.length := by
  have hN : N ≠ 0 := by intro e; rw [e, sz_zero] at hm; omega
  obtain ⟨e1, e2⟩ := own_take xs N hw h
  have e := leN_inj hw (wds_wordsOf N) (by rw [leN_wordsOf]; exact h)
  have l := wordsOf_last N hN
  rw [hm, Nat.add_sub_cancel, ← e m] at l
  refine ⟨l, ?_, by omega⟩
  have s := leN_take_succ xs m hw
  rw [← hm, e1, leN_wordsOf] at s
  have t : leN (xs.take m) < 2 ^ (64 * m) := by
    have := leN_lt (xs.take m) (fun x hx => hw x (List.mem_of_mem_take hx))
    rwa [List.length_take, Nat.min_eq_left (by omega)] at this
  have t2 := len_le t
  have t3 := len_mul_pow l (64 * m)
  have t4 := len_pos l
  rw [s, Nat.xor_comm, len_xor_lt (by omega), t3]
  omega

set_option maxHeartbeats 1000000 in
theorem degZero (A : Option Addr) (L cap : Nat) (w : World)
    (size : Calls Tryd.prog 28 #[.slice A L cap] w (fun e w' => e = .returned (.int .i64 0) ∧ w = w')) :
    Calls Tryd.prog 20 #[.slice A L cap] w (fun e w' => e = .returned (.int .i64 (-1)) ∧ w = w') := by
  have SIZE := Lib.hid size
  clear size
  go_enter Tryd.func20, Tryd.ntmps20
  go_wp2_with (go_at_call 28; ((with_reducible refine (SIZE.out).mono ?_); rintro e w' ⟨rfl, rfl⟩))
  go_ret
  exact ⟨rfl, rfl⟩
set_option maxHeartbeats 1000000 in
theorem degSome (b o L cap m x : Nat) (hm : m < L) (hL : L ≤ 100000) (hx : x < 18446744073709551616) (lx : len x ≤ 64) (w : World) (hc : w.cell? ⟨b, o + m, none⟩ = some (.int .u64 (x : Int)))
    (size : Calls Tryd.prog 28 #[.slice (some ⟨b, o, none⟩) L cap] w (fun e w' => e = .returned (.int .i64 ((m + 1 : Nat) : Int)) ∧ w = w')) :
    Calls Tryd.prog 20 #[.slice (some ⟨b, o, none⟩) L cap] w (fun e w' => e = .returned (.int .i64 ((64 * m + len x : Nat) - 1 : Int)) ∧ w = w') := by
  have SIZE := Lib.hid size
  clear size
  have j2 : (((m + 1 : Nat) : Int) - 1) = (m : Int) := by omega
  have j3 : (m : Int) < (L : Int) := by omega
  have j4 : (0 : Int) ≤ (m : Int) := by omega
  go_enter Tryd.func20, Tryd.ntmps20
  go_wp2_with (first
    | (go_at_call 28; ((with_reducible refine (SIZE.out).mono ?_); rintro e w' ⟨rfl, rfl⟩))
    | (go_at_call 29; ((with_reducible refine (cLen64 x hx _).mono ?_); rintro e w' ⟨rfl, rfl⟩)))
  go_ret
  refine ⟨?_, rfl⟩
  refine ret_int ?_
  omega
theorem len_word {x : Nat} (h : x < 18446744073709551616) : len x ≤ 64 := len_le (k := 64) h
theorem cDeg (A : Option Addr) (cap : Nat) (xs : List Nat) (N : Nat) (hN : leN xs = N) (hl : xs.length ≤ 100000) (w : World) (h : Pol w A cap xs) :
    Calls Tryd.prog 20 #[.slice A xs.length cap] w (fun e w' => e = .returned (.int .i64 ((len N : Int) - 1)) ∧ w = w') := by
  have hs := cSize A cap xs N hN w h
  by_cases h0 : N = 0
  · subst h0
    rw [sz_zero] at hs
    exact degZero A _ cap w hs
  · obtain ⟨m, hm⟩ : ∃ m, sz N = m + 1 := ⟨sz N - 1, by have : 0 < sz N := by unfold sz; rw [wordsOf_pos h0]; simp
                                                        omega⟩
    obtain ⟨d1, d2, d3⟩ := deg_top xs N m h.word hN hm
    rw [hm] at hs
    obtain ⟨b, o, rfl, hc⟩ := h.cell m d3
    rw [d2]
    exact degSome b o _ cap m _ d3 hl (h.word.get m) (len_word (h.word.get m)) w hc hs

set_option maxHeartbeats 1000000 in
theorem bitNeg (A : Option Addr) (L cap : Nat) (i : Int) (hi : i < 0) (w : World) :
    Calls Tryd.prog 43 #[.slice A L cap, .int .i64 i] w (fun e w' => e = .returned (.int .i64 0) ∧ w = w') := by
  go_enter Tryd.func43, Tryd.ntmps43
  go_wp2
  go_ret
  exact ⟨rfl, rfl⟩
set_option maxHeartbeats 1000000 in
theorem bitIn (A : Option Addr) (L cap k q t x : Nat) (hq : k = 64 * q + t) (ht : t < 64) (hk : k ≤ 9223372036854775807) (hx : x < 18446744073709551616) (w : World)
    (word : Calls Tryd.prog 31 #[.slice A L cap, .int .i64 (q : Int)] w (fun e w' => e = .returned (.int .u64 (x : Int)) ∧ w = w')) :
    Calls Tryd.prog 43 #[.slice A L cap, .int .i64 (k : Int)] w (fun e w' => e = .returned (.int .i64 ((x / 2 ^ t % 2 : Nat) : Int)) ∧ w = w') := by
  have WORD := Lib.hid word
  clear word
  have e1 : (k : Int) / 64 = (q : Int) := by omega
  have e2 : (k : Int) % 64 = (t : Int) := by omega
  have k0 : ¬ ((k : Int) < 0) := by omega
  have g : x / 2 ^ t < 18446744073709551616 := Nat.lt_of_le_of_lt (Nat.div_le_self _ _) hx
  have HQ := Lib.hid hq
  clear hq
  have a1 : bits .and .u64 ((x : Int) / 2 ^ t) 1 = ((x / 2 ^ t % 2 : Nat) : Int) := by rw [div_int]; exact and1 _ g
  generalize hy : x / 2 ^ t % 2 = y at a1
  have hy2 : y < 2 := by omega
  clear hy
  go_enter Tryd.func43, Tryd.ntmps43
  go_wp2_with (go_at_call 31; ((with_reducible refine (WORD.out).mono ?_); rintro e w' ⟨rfl, rfl⟩))
  go_ret
  exact ⟨rfl, rfl⟩
theorem bit_split (xs : List Nat) (N k : Nat) (hw : Wds xs) (h : leN xs = N) : xs.getD (k / 64) 0 / 2 ^ (k % 64) % 2 = N / 2 ^ k % 2 := by
  have := bit_leN xs k hw
  rw [h, bit_mod, bit_mod] at this
  have := decide_eq_decide.1 this
  omega
theorem cBit (A : Option Addr) (cap : Nat) (xs : List Nat) (N k : Nat) (y : Nat) (hN : leN xs = N) (hy : N / 2 ^ k % 2 = y) (hk : k ≤ 9223372036854775807) (w : World) (h : Pol w A cap xs) :
    Calls Tryd.prog 43 #[.slice A xs.length cap, .int .i64 (k : Int)] w (fun e w' => e = .returned (.int .i64 (y : Int)) ∧ w = w') := by
  rw [← hy, ← bit_split xs N k h.word hN]
  exact bitIn A _ cap k (k / 64) (k % 64) _ (by omega) (by omega) hk (h.word.get _) w (cWord A cap xs (k / 64) _ rfl w h)

theorem Pol.take {w : World} {A : Option Addr} {cap : Nat} {xs : List Nat} (h : Pol w A cap xs) (n : Nat) : Pol w A cap (xs.take n) :=
  ⟨fun x hx => h.word x (List.mem_of_mem_take hx), by rw [List.length_take]; have := h.cap1; omega, h.cap2, fun i hi => by
    rw [List.length_take] at hi
    obtain ⟨b, o, e, hc⟩ := h.cell i (by omega)
    refine ⟨b, o, e, hc.trans ?_⟩
    simp only [List.getD_eq_getElem?_getD, List.getElem?_take]; rw [if_pos (by omega)]⟩
theorem Pol.drewN {w : World} {A : Option Addr} {cap : Nat} {xs : List Nat} (h : Pol w A cap xs) (n : Nat) : Pol (w.drewN n) A cap xs := ⟨h.word, h.cap1, h.cap2, h.cell⟩
/-- Are two lists the same? -/
def sameL (us vs : List Nat) : Bool := decide (us = vs)
theorem same_false {us vs : List Nat} {k : Nat} (h : us.getD k 0 ≠ vs.getD k 0) : sameL us vs = false := by
  unfold sameL
  simp only [decide_eq_false_iff_not]
  intro e; exact h (by rw [e])
theorem same_true {us vs : List Nat} (hl : us.length = vs.length) (h : ∀ j, j < us.length → us.getD j 0 = vs.getD j 0) : sameL us vs = true := by
  unfold sameL
  simp only [decide_eq_true_eq]
  refine List.ext_getElem hl (fun i h1 h2 => ?_)
  have := h i h1
  simpa [List.getD_eq_getElem?_getD, List.getElem?_eq_getElem h1, List.getElem?_eq_getElem h2] using this
end Go.Proofs.YtfpbfibnkknhdaaDoor
