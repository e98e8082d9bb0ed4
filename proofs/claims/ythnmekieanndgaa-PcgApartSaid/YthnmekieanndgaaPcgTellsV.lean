/-
  PcgTells answers true, from what pcg's calls answer.
-/
import Derived.Test.YthnmekieanndgaaPcgTellsW
namespace Go.Proofs.Ythnmekieanndgaa
open Go.RowKit G
set_option linter.unusedVariables false
set_option maxRecDepth 100000

theorem wn_m (m : Nat) (h : m < 18446744073709551616) : Wn 0 (m : Int) m := ⟨by omega, by omega, by omega, by omega, by omega⟩
theorem hiW_lt {N : Nat} (h : N < Q) : hiW N < 18446744073709551616 := by
  have : N < 340282366920938463463374607431768211456 := h
  unfold hiW
  omega
theorem loW_lt (N : Nat) : loW N < 18446744073709551616 := Nat.mod_lt _ (by decide)
theorem word_is (s : Ps) : wordN (hiW s.S) (loW s.S) = wordP s := rfl
theorem yWordP (s : Ps) (h : s.Ok) (c d : Int) : TU 10 #[.agg #[.int .u64 ((hiW s.S : Nat) : Int), .int .u64 ((loW s.S : Nat) : Int), .int .u64 c, .int .u64 d]] ((wordP s : Nat) : Int) := fun W => by
  rw [← word_is]
  exact yWordN _ _ c d (hiW_lt h.a) (loW_lt _) W
theorem lo_par (N : Nat) : ((loW N : Nat) : Int) % 2 = ((N % 2 : Nat) : Int) := by
  unfold loW
  omega
theorem stepP_I (s : Ps) : (stepP s).I = s.I := rfl
theorem jumpP_I (s : Ps) (n : Nat) : (jumpP s n).I = s.I := rfl
theorem row_next (s : Ps) (j : Nat) : rowP s (j + 1) = rowP s j ++ [wordP (iterP s j)] := rfl
theorem sw_one {s : Ps} {p q p' q' : Int} (h : Sw s p q) (k : Sw s p' q') : p = p' ∧ q = q' := ⟨h.1.trans k.1.symm, h.2.trans k.2.symm⟩
theorem xStepT (X : PX) (s : Ps) (hs : s.Ok) : TM 12 #[s.val] ((hiW (stepP s).S : Nat) : Int) ((loW (stepP s).S : Nat) : Int) ((hiW s.I : Nat) : Int) ((loW s.I : Nat) : Int) := fun W => by
  have h := X.step s W hs
  unfold AnsP at h
  rw [show (stepP s).val = .agg #[.int .u64 ((hiW (stepP s).S : Nat) : Int), .int .u64 ((loW (stepP s).S : Nat) : Int), .int .u64 ((hiW (stepP s).I : Nat) : Int), .int .u64 ((loW (stepP s).I : Nat) : Int)] from rfl, stepP_I] at h
  exact h
theorem xJumpT (X : PX) (s : Ps) (hs : s.Ok) (o : s.I % 2 = 1) (m : Nat) (hm : m < 300) : TP 16 #[s.val, .agg #[.int .u64 0, .int .u64 (m : Int)]] ((hiW (jumpP s m).S : Nat) : Int) ((loW (jumpP s m).S : Nat) : Int) ((hiW s.I : Nat) : Int) ((loW s.I : Nat) : Int) 0 := fun W => by
  have h := X.jumpY s 0 (m : Int) m W hs o (wn_m m (by omega))
  unfold AnsPE at h
  rw [show (jumpP s m).val = .agg #[.int .u64 ((hiW (jumpP s m).S : Nat) : Int), .int .u64 ((loW (jumpP s m).S : Nat) : Int), .int .u64 ((hiW (jumpP s m).I : Nat) : Int), .int .u64 ((loW (jumpP s m).I : Nat) : Int)] from rfl, jumpP_I] at h
  exact h
theorem yJumpT (s : Ps) (hs : s.Ok) (m : Nat) (hm : m < 300) : TM 18 #[s.val, .int .i64 (m : Int)] ((hiW (jumpP s m).S : Nat) : Int) ((loW (jumpP s m).S : Nat) : Int) ((hiW s.I : Nat) : Int) ((loW s.I : Nat) : Int) := fun W => by
  have h := yJumpP s hs m (by omega) W
  rw [iterP_jump hs] at h
  unfold AnsP at h
  rw [show (jumpP s m).val = .agg #[.int .u64 ((hiW (jumpP s m).S : Nat) : Int), .int .u64 ((loW (jumpP s m).S : Nat) : Int), .int .u64 ((hiW (jumpP s m).I : Nat) : Int), .int .u64 ((loW (jumpP s m).I : Nat) : Int)] from rfl, jumpP_I] at h
  exact h
theorem xWordsT (X : PX) (s : Ps) (hs : s.Ok) (o : s.I % 2 = 1) (k : Nat) (hk : k ≤ 256) (W : World) : Calls Try.prog 15 #[s.val, .int .i64 (k : Int)] W (fun e w' => ∃ (A : Option Addr) (cap : Nat) (y0 y1 : Int), e = .returned (.tuple #[.slice A (rowP s k).length cap, .agg #[.int .u64 y0, .int .u64 y1, .int .u64 ((hiW s.I : Nat) : Int), .int .u64 ((loW s.I : Nat) : Int)], .int .i64 0]) ∧ Sw (iterP s k) y0 y1 ∧ Pol w' A cap (rowP s k) ∧ Below W.heap.size W w') := by
  refine (X.wordsY s k W hs o hk).mono ?_
  rintro e w' ⟨A, cap, rfl, P, hb⟩
  refine ⟨A, cap, _, _, ?_, Sw.of (iterP s k), P, hb⟩
  rw [show (iterP s k).val = .agg #[.int .u64 ((hiW (iterP s k).S : Nat) : Int), .int .u64 ((loW (iterP s k).S : Nat) : Int), .int .u64 ((hiW (iterP s k).I : Nat) : Int), .int .u64 ((loW (iterP s k).I : Nat) : Int)] from rfl, iterP_I]
theorem xRightT (X : PX) (s : Ps) (hs : s.Ok) (b : Bool) (h : decide (s.I % 2 = 1) = b) : TB 14 #[s.val] b := fun W => by
  have := X.right s W hs
  rw [h] at this
  exact this
theorem pcgTells (X : PX) (aw : Hid (∀ W, Calls Try.prog 8 #[] W (Bl true W))) (s : Ps) (hs : s.Ok) (many : Int) (n : Nat) (hn : n < 65536) (w : World) :
    Calls Try.prog 3 #[s.val, .int .i64 many, .int .u16 (n : Int)] w (Bl true w) := by
  have hm : n % 300 < 300 := Nat.mod_lt _ (by decide)
  refine ptellsMain aw _ _ _ _ _ _ _ many n (n % 300) hn (Lib.hid rfl) (by omega) (fun j p q => Sw (iterP s j) p q) (rowP s) w (Lib.hid fun W => X.word s W hs) (Lib.hid (yWordP s hs _ _)) (Lib.hid (xStepT X s hs)) (Lib.hid (yStepP s hs)) (Lib.hid yOwnP)
    (Lib.hid fun W => ?_) (Lib.hid (Sw.of s)) (Lib.hid rfl) (Lib.hid (rowP_len s)) (Lib.hid fun j p q p' q' => sw_one) (Lib.hid ?_) (Lib.hid ?_)
  · have := cOf (n % 300) _ rfl (by omega) W
    unfold AnsW hiW loW at this
    rwa [Nat.div_eq_of_lt (by omega), Nat.mod_eq_of_lt (a := n % 300) (b := 18446744073709551616) (by omega)] at this
  · intro j p q hp
    have st := yStepQ s hs j p q hp
    obtain ⟨rfl, rfl⟩ := hp
    exact ⟨wordP (iterP s j), wordP_lt _, yWordP (iterP s j) (iterP_ok hs j) _ _, _, _, Sw.of (iterP s (j + 1)), st, row_next s j⟩
  · by_cases o : s.I % 2 = 1
    · have par : ((loW s.I : Nat) : Int) % 2 = 1 := by rw [lo_par, o]; rfl
      by_cases h : many < 0 ∨ 256 < many
      · exact .arg (Lib.hid (xRightT X s hs true (decide_eq_true o))) par h (Lib.hid fun W => X.wordsA s many W hs o h) _ _ (Lib.hid (xJumpT X s hs o _ hm)) (Lib.hid (yJumpT s hs _ hm))
      · obtain ⟨k, rfl⟩ := Int.eq_ofNat_of_zero_le (show 0 ≤ many by omega)
        exact .some (Lib.hid (xRightT X s hs true (decide_eq_true o))) par k (by omega) rfl (Lib.hid fun W => xWordsT X s hs o k (by omega) W) _ _ (Lib.hid (xJumpT X s hs o _ hm)) (Lib.hid (yJumpT s hs _ hm))
    · have o' : s.I % 2 = 0 := by omega
      have par : ((loW s.I : Nat) : Int) % 2 = 0 := by rw [lo_par, o']; rfl
      exact .even (Lib.hid (xRightT X s hs false (decide_eq_false o))) par (Lib.hid fun W => X.wordsN s many W hs o') (Lib.hid fun W => X.jumpN s 0 _ (n % 300) W hs o' (wn_m _ (by omega)))
end Go.Proofs.Ythnmekieanndgaa
