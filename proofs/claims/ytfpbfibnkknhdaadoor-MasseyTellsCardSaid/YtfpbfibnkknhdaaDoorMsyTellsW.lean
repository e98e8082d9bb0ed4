/-
  The walks of MasseyTells, put together. Made by wip/gen/msylaws.py.
-/
import Derived.Test.YtfpbfibnkknhdaaDoorMsyTellsZ
import Derived.Test.YtfpbfibnkknhdaaDoorMsyTellsA1
import Derived.Test.YtfpbfibnkknhdaaDoorMsyTellsA2
import Derived.Test.YtfpbfibnkknhdaaDoorMsyTellsA3
import Derived.Test.YtfpbfibnkknhdaaDoorMsyTellsO
namespace Go.Proofs.YtfpbfibnkknhdaaDoor
open Go.RowKit G
set_option linter.unusedVariables false

set_option maxRecDepth 100000 in
set_option maxHeartbeats 4000000 in
theorem tellsLarge (A Al : Option Addr) (ca cl La M : Nat) (many : Int) (xs : List Nat) (l : List Bool) (w : World) (TT : Tab w) (h : 5 < La ∨ 300 < M) :
    Calls Tryd.prog 3 #[.slice A La ca, .slice Al M cl, .int .i64 many] w (Bl true w) := by
  by_cases h0 : 5 < La
  · go_enter Tryd.func3, Tryd.ntmps3
    go_wp2_with fail
    refine (awake5 _ TT).mono ?_
    rintro e w1 ⟨rfl, hb⟩
    go_wp2_with fail
    go_ret
    exact ⟨rfl, hb⟩
  · skip
    have h1 : 300 < M := by omega
    clear h
    go_enter Tryd.func3, Tryd.ntmps3
    go_wp2_with fail
    refine (awake5 _ TT).mono ?_
    rintro e w1 ⟨rfl, hb⟩
    go_wp2_with fail
    go_ret
    exact ⟨rfl, hb⟩
theorem tellsWalk (A Al : Option Addr) (ca cl La M : Nat) (many : Int) (xs : List Nat) (l : List Bool) (w : World) (P : Pol w A ca xs) (R : Brs w Al cl l) (TT : Tab w) (ha : xs.length = La) (hl : l.length = M) :
    Calls Tryd.prog 3 #[.slice A La ca, .slice Al M cl, .int .i64 many] w (Bl true w) := by
  by_cases h : 5 < La ∨ 300 < M
  · exact tellsLarge A Al ca cl La M many xs l w TT h
  have s1 : La ≤ 5 := by omega
  have s2 : M ≤ 300 := by omega
  have lp := len_polB P ha rfl
  obtain ⟨N, hN⟩ : ∃ N, leN xs = N := ⟨_, rfl⟩
  rw [hN] at lp
  obtain ⟨K, hK⟩ : ∃ K, (bitsOf N).length = K := ⟨_, rfl⟩
  have hKL : len N = K := by rw [← bitsOf_len]; exact hK
  obtain ⟨r, hr0⟩ := some_bool (Rl (rw_ l) M N)
  have hr : Rb r (rw_ l) M N := hr0
  have bl := br_len l
  rw [hl] at bl
  by_cases c0 : K < 2
  · by_cases h12 : 12 < M
    · exact tellsZB A Al ca cl La M many xs l w P R TT (Lib.hid ha) (Lib.hid hl) s1 s2 (Lib.hid (by omega)) (Lib.hid (by omega)) (Lib.hid (by omega)) (Lib.hid (by omega)) (Lib.hid (by omega)) (Lib.hid (by omega)) N K (Lib.hid hN) (Lib.hid hK) (Lib.hid (by omega)) (by omega) r (Lib.hid hr) (by omega) (Lib.hid (by rw [hN]; omega)) h12
    · by_cases hy : 2 * len (br l) ≤ M + 2
      · exact tellsZY A Al ca cl La M many xs l w P R TT (Lib.hid ha) (Lib.hid hl) s1 s2 (Lib.hid (by omega)) (Lib.hid (by omega)) (Lib.hid (by omega)) (Lib.hid (by omega)) (Lib.hid (by omega)) (Lib.hid (by omega)) N K (Lib.hid hN) (Lib.hid hK) (Lib.hid (by omega)) (by omega) r (Lib.hid hr) (by omega) (Lib.hid (by rw [hN]; omega)) h12 (Lib.hid (by omega)) (br l) (len (br l) - 1) (Lib.hid rfl) (Lib.hid (by omega)) (by omega) (Lib.hid hy) (Lib.hid (br_words hl (by omega))) (Lib.hid (by rw [bitsOf_len]; omega))
      · exact tellsZN A Al ca cl La M many xs l w P R TT (Lib.hid ha) (Lib.hid hl) s1 s2 (Lib.hid (by omega)) (Lib.hid (by omega)) (Lib.hid (by omega)) (Lib.hid (by omega)) (Lib.hid (by omega)) (Lib.hid (by omega)) N K (Lib.hid hN) (Lib.hid hK) (Lib.hid (by omega)) (by omega) r (Lib.hid hr) (by omega) (Lib.hid (by rw [hN]; omega)) h12 (Lib.hid (by omega)) (len (br l) - 1) (by omega) (Lib.hid (by omega)) (by omega) (Lib.hid (by omega))
  by_cases c1 : M < K - 1
  · by_cases h12 : 12 < M
    · exact tellsA1B A Al ca cl La M many xs l w P R TT (Lib.hid ha) (Lib.hid hl) s1 s2 (Lib.hid (by omega)) (Lib.hid (by omega)) (Lib.hid (by omega)) (Lib.hid (by omega)) (Lib.hid (by omega)) (Lib.hid (by omega)) N K (Lib.hid hN) (Lib.hid hK) (Lib.hid (by omega)) (by omega) r (Lib.hid hr) (K - 1) (by omega) (by omega) (by omega) (Lib.hid (by rw [hN]; omega)) (Lib.hid (.inl (by rw [hN]; omega))) h12
    · by_cases hy : 2 * len (br l) ≤ M + 2
      · exact tellsA1Y A Al ca cl La M many xs l w P R TT (Lib.hid ha) (Lib.hid hl) s1 s2 (Lib.hid (by omega)) (Lib.hid (by omega)) (Lib.hid (by omega)) (Lib.hid (by omega)) (Lib.hid (by omega)) (Lib.hid (by omega)) N K (Lib.hid hN) (Lib.hid hK) (Lib.hid (by omega)) (by omega) r (Lib.hid hr) (K - 1) (by omega) (by omega) (by omega) (Lib.hid (by rw [hN]; omega)) (Lib.hid (.inl (by rw [hN]; omega))) h12 (Lib.hid (by omega)) (br l) (len (br l) - 1) (Lib.hid rfl) (Lib.hid (by omega)) (by omega) (Lib.hid hy) (Lib.hid (br_words hl (by omega))) (Lib.hid (by rw [bitsOf_len]; omega))
      · exact tellsA1N A Al ca cl La M many xs l w P R TT (Lib.hid ha) (Lib.hid hl) s1 s2 (Lib.hid (by omega)) (Lib.hid (by omega)) (Lib.hid (by omega)) (Lib.hid (by omega)) (Lib.hid (by omega)) (Lib.hid (by omega)) N K (Lib.hid hN) (Lib.hid hK) (Lib.hid (by omega)) (by omega) r (Lib.hid hr) (K - 1) (by omega) (by omega) (by omega) (Lib.hid (by rw [hN]; omega)) (Lib.hid (.inl (by rw [hN]; omega))) h12 (Lib.hid (by omega)) (len (br l) - 1) (by omega) (Lib.hid (by omega)) (by omega) (Lib.hid (by omega))
  by_cases c2 : many < 0
  · by_cases h12 : 12 < M
    · exact tellsA2B A Al ca cl La M many xs l w P R TT (Lib.hid ha) (Lib.hid hl) s1 s2 (Lib.hid (by omega)) (Lib.hid (by omega)) (Lib.hid (by omega)) (Lib.hid (by omega)) (Lib.hid (by omega)) (Lib.hid (by omega)) N K (Lib.hid hN) (Lib.hid hK) (Lib.hid (by omega)) (by omega) r (Lib.hid hr) (K - 1) (by omega) (by omega) (by omega) (by omega) (Lib.hid (by rw [hN]; omega)) (Lib.hid (.inr (.inl (by omega)))) h12
    · by_cases hy : 2 * len (br l) ≤ M + 2
      · exact tellsA2Y A Al ca cl La M many xs l w P R TT (Lib.hid ha) (Lib.hid hl) s1 s2 (Lib.hid (by omega)) (Lib.hid (by omega)) (Lib.hid (by omega)) (Lib.hid (by omega)) (Lib.hid (by omega)) (Lib.hid (by omega)) N K (Lib.hid hN) (Lib.hid hK) (Lib.hid (by omega)) (by omega) r (Lib.hid hr) (K - 1) (by omega) (by omega) (by omega) (by omega) (Lib.hid (by rw [hN]; omega)) (Lib.hid (.inr (.inl (by omega)))) h12 (Lib.hid (by omega)) (br l) (len (br l) - 1) (Lib.hid rfl) (Lib.hid (by omega)) (by omega) (Lib.hid hy) (Lib.hid (br_words hl (by omega))) (Lib.hid (by rw [bitsOf_len]; omega))
      · exact tellsA2N A Al ca cl La M many xs l w P R TT (Lib.hid ha) (Lib.hid hl) s1 s2 (Lib.hid (by omega)) (Lib.hid (by omega)) (Lib.hid (by omega)) (Lib.hid (by omega)) (Lib.hid (by omega)) (Lib.hid (by omega)) N K (Lib.hid hN) (Lib.hid hK) (Lib.hid (by omega)) (by omega) r (Lib.hid hr) (K - 1) (by omega) (by omega) (by omega) (by omega) (Lib.hid (by rw [hN]; omega)) (Lib.hid (.inr (.inl (by omega)))) h12 (Lib.hid (by omega)) (len (br l) - 1) (by omega) (Lib.hid (by omega)) (by omega) (Lib.hid (by omega))
  by_cases c3 : 2048 < many
  · by_cases h12 : 12 < M
    · exact tellsA3B A Al ca cl La M many xs l w P R TT (Lib.hid ha) (Lib.hid hl) s1 s2 (Lib.hid (by omega)) (Lib.hid (by omega)) (Lib.hid (by omega)) (Lib.hid (by omega)) (Lib.hid (by omega)) (Lib.hid (by omega)) N K (Lib.hid hN) (Lib.hid hK) (Lib.hid (by omega)) (by omega) r (Lib.hid hr) (K - 1) (by omega) (by omega) (by omega) (by omega) (by omega) (Lib.hid (by rw [hN]; omega)) (Lib.hid (.inr (.inr (by omega)))) h12
    · by_cases hy : 2 * len (br l) ≤ M + 2
      · exact tellsA3Y A Al ca cl La M many xs l w P R TT (Lib.hid ha) (Lib.hid hl) s1 s2 (Lib.hid (by omega)) (Lib.hid (by omega)) (Lib.hid (by omega)) (Lib.hid (by omega)) (Lib.hid (by omega)) (Lib.hid (by omega)) N K (Lib.hid hN) (Lib.hid hK) (Lib.hid (by omega)) (by omega) r (Lib.hid hr) (K - 1) (by omega) (by omega) (by omega) (by omega) (by omega) (Lib.hid (by rw [hN]; omega)) (Lib.hid (.inr (.inr (by omega)))) h12 (Lib.hid (by omega)) (br l) (len (br l) - 1) (Lib.hid rfl) (Lib.hid (by omega)) (by omega) (Lib.hid hy) (Lib.hid (br_words hl (by omega))) (Lib.hid (by rw [bitsOf_len]; omega))
      · exact tellsA3N A Al ca cl La M many xs l w P R TT (Lib.hid ha) (Lib.hid hl) s1 s2 (Lib.hid (by omega)) (Lib.hid (by omega)) (Lib.hid (by omega)) (Lib.hid (by omega)) (Lib.hid (by omega)) (Lib.hid (by omega)) N K (Lib.hid hN) (Lib.hid hK) (Lib.hid (by omega)) (by omega) r (Lib.hid hr) (K - 1) (by omega) (by omega) (by omega) (by omega) (by omega) (Lib.hid (by rw [hN]; omega)) (Lib.hid (.inr (.inr (by omega)))) h12 (Lib.hid (by omega)) (len (br l) - 1) (by omega) (Lib.hid (by omega)) (by omega) (Lib.hid (by omega))
  obtain ⟨m, rfl⟩ := Int.eq_ofNat_of_zero_le (show 0 ≤ many by omega)
  by_cases h12 : 12 < M
  · exact tellsOB A Al ca cl La M xs l w P R TT (Lib.hid ha) (Lib.hid hl) s1 s2 (Lib.hid (by omega)) (Lib.hid (by omega)) (Lib.hid (by omega)) (Lib.hid (by omega)) (Lib.hid (by omega)) (Lib.hid (by omega)) N K (Lib.hid hN) (Lib.hid hK) (Lib.hid (by omega)) (by omega) r (Lib.hid hr) (K - 1) m (M + m) (by omega) (by omega) (by omega) (by omega) (by omega) (Lib.hid (by omega)) (Lib.hid (by omega)) (Lib.hid rfl) (Lib.hid rfl) (Lib.hid (by omega)) (Lib.hid (by rw [gs_len, hl])) (Lib.hid (by unfold sameB; simp)) h12
  · by_cases hy : 2 * len (br l) ≤ M + 2
    · exact tellsOY A Al ca cl La M xs l w P R TT (Lib.hid ha) (Lib.hid hl) s1 s2 (Lib.hid (by omega)) (Lib.hid (by omega)) (Lib.hid (by omega)) (Lib.hid (by omega)) (Lib.hid (by omega)) (Lib.hid (by omega)) N K (Lib.hid hN) (Lib.hid hK) (Lib.hid (by omega)) (by omega) r (Lib.hid hr) (K - 1) m (M + m) (by omega) (by omega) (by omega) (by omega) (by omega) (Lib.hid (by omega)) (Lib.hid (by omega)) (Lib.hid rfl) (Lib.hid rfl) (Lib.hid (by omega)) (Lib.hid (by rw [gs_len, hl])) (Lib.hid (by unfold sameB; simp)) h12 (Lib.hid (by omega)) (br l) (len (br l) - 1) (Lib.hid rfl) (Lib.hid (by omega)) (by omega) (Lib.hid hy) (Lib.hid (br_words hl (by omega))) (Lib.hid (by rw [bitsOf_len]; omega))
    · exact tellsON A Al ca cl La M xs l w P R TT (Lib.hid ha) (Lib.hid hl) s1 s2 (Lib.hid (by omega)) (Lib.hid (by omega)) (Lib.hid (by omega)) (Lib.hid (by omega)) (Lib.hid (by omega)) (Lib.hid (by omega)) N K (Lib.hid hN) (Lib.hid hK) (Lib.hid (by omega)) (by omega) r (Lib.hid hr) (K - 1) m (M + m) (by omega) (by omega) (by omega) (by omega) (by omega) (Lib.hid (by omega)) (Lib.hid (by omega)) (Lib.hid rfl) (Lib.hid rfl) (Lib.hid (by omega)) (Lib.hid (by rw [gs_len, hl])) (Lib.hid (by unfold sameB; simp)) h12 (Lib.hid (by omega)) (len (br l) - 1) (by omega) (Lib.hid (by omega)) (by omega) (Lib.hid (by omega))
end Go.Proofs.YtfpbfibnkknhdaaDoor
