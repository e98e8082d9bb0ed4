/-
  The statement's own walk: what any number is mixed to, a state's word, the next one, so many words, and a jump of up to 300 steps are as the document says.
-/
import Derived.Test.YteldmnjgjijocaaMixApartW
import Derived.Test.YteldmnjgjijocaaGfpTc
import Derived.Deep.AppendLies
namespace Go.Proofs.Yteldmnjgjijocaa
open Go.RowKit G
set_option linter.unusedVariables false

theorem sameL_self (us : List Nat) : sameL us us = true := by unfold sameL; simp
set_option maxRecDepth 100000 in
set_option maxHeartbeats 2000000 in
theorem mixTells (s : Nat) (many : Int) (n : Nat) (h : s < 18446744073709551616) (hn : n < 65536) (w : World) :
    Calls Try.prog 3 #[.int .u64 (s : Int), .int .i64 many, .int .u16 (n : Int)] w (Bl true w) := by
  have hB : Below w.heap.size w w := Below.refl _ _
  obtain ⟨i0, hi, hz0, hz1, hz2⟩ := info_parts infoW
  have HI := Lib.hid hi
  have HZ0 := Lib.hid hz0
  have HZ1 := Lib.hid hz1
  have HZ2 := Lib.hid hz2
  clear hi hz0 hz1 hz2
  go_enter Try.func3, Try.ntmps3
  go_wp2_with fail
  refine (awake6 _).mono ?_
  rintro e w' ⟨rfl, hb⟩
  replace hB := below_then hB hb
  clear hb
  by_cases hm : many < 0 ∨ 256 < many
  · go_wp2_with fail
    refine (wordsNo s many hm _).mono ?_
    rintro e w' ⟨rfl, rfl⟩
    by_cases h0 : many < 0
    · clear hm
      go_wp2_with fail
      refine (cMix s h _).mono ?_
      rintro e w' ⟨rfl, hb⟩
      replace hB := below_then hB hb
      clear hb
      go_wp2_with fail
      refine (rMix s h _).mono ?_
      rintro e w' ⟨rfl, rfl⟩
      go_wp2_with fail
      refine (cWord s h _).mono ?_
      rintro e w' ⟨rfl, hb⟩
      replace hB := below_then hB hb
      clear hb
      go_wp2_with fail
      refine (rWord s _).mono ?_
      rintro e w' ⟨rfl, rfl⟩
      go_wp2_with fail
      refine (cStep s _).mono ?_
      rintro e w' ⟨rfl, rfl⟩
      go_wp2_with fail
      refine (rStep s _).mono ?_
      rintro e w' ⟨rfl, rfl⟩
      by_cases hx : n ≤ 300
      · have hx1 : ¬ ((n : Int) > 300) := by omega
        go_wp2_with fail
        refine (ofWord n (by omega) _).mono ?_
        rintro e w' ⟨rfl, hb⟩
        replace hB := below_then hB hb
        clear hb
        go_wp2_with fail
        refine (cJump s h 0 n _).mono ?_
        rintro e w' ⟨rfl, hb⟩
        replace hB := below_then hB hb
        clear hb
        go_wp2_with fail
        refine (rJump s n h (by omega) _).mono ?_
        rintro e w' ⟨rfl, rfl⟩
        go_wp2
        go_ret
        exact ⟨rfl, hB⟩
      · have hx1 : (n : Int) > 300 := by omega
        go_wp2
        go_ret
        exact ⟨rfl, hB⟩
    · have h1 : many > 256 := by omega
      clear hm
      go_wp2_with fail
      refine (cMix s h _).mono ?_
      rintro e w' ⟨rfl, hb⟩
      replace hB := below_then hB hb
      clear hb
      go_wp2_with fail
      refine (rMix s h _).mono ?_
      rintro e w' ⟨rfl, rfl⟩
      go_wp2_with fail
      refine (cWord s h _).mono ?_
      rintro e w' ⟨rfl, hb⟩
      replace hB := below_then hB hb
      clear hb
      go_wp2_with fail
      refine (rWord s _).mono ?_
      rintro e w' ⟨rfl, rfl⟩
      go_wp2_with fail
      refine (cStep s _).mono ?_
      rintro e w' ⟨rfl, rfl⟩
      go_wp2_with fail
      refine (rStep s _).mono ?_
      rintro e w' ⟨rfl, rfl⟩
      by_cases hx : n ≤ 300
      · have hx1 : ¬ ((n : Int) > 300) := by omega
        go_wp2_with fail
        refine (ofWord n (by omega) _).mono ?_
        rintro e w' ⟨rfl, hb⟩
        replace hB := below_then hB hb
        clear hb
        go_wp2_with fail
        refine (cJump s h 0 n _).mono ?_
        rintro e w' ⟨rfl, hb⟩
        replace hB := below_then hB hb
        clear hb
        go_wp2_with fail
        refine (rJump s n h (by omega) _).mono ?_
        rintro e w' ⟨rfl, rfl⟩
        go_wp2
        go_ret
        exact ⟨rfl, hB⟩
      · have hx1 : (n : Int) > 300 := by omega
        go_wp2
        go_ret
        exact ⟨rfl, hB⟩
  · obtain ⟨k, rfl⟩ := Int.eq_ofNat_of_zero_le (show 0 ≤ many by omega)
    have hk : k ≤ 256 := by omega
    have h0 : ¬ ((k : Int) < 0) := by omega
    have h1 : ¬ ((k : Int) > 256) := by omega
    clear hm
    go_wp2_with fail
    refine (wordsYes s k h hk _).mono ?_
    rintro e w' ⟨A, cap, rfl, P, hb⟩
    rw [row_len]
    replace hB := below_then hB hb
    clear hb
    obtain ⟨V, hV⟩ : ∃ V : World, V = w' := ⟨_, rfl⟩
    subst hV
    have HP := Lib.hid P
    have HB := Lib.hid hB
    clear P hB
    go_wp2_with fail
    go_loopg [10, 11, 41] k (fun g v z i wr => ∃ j : Nat, j + g = k ∧ i = .int .i64 j ∧ z = .int .u64 ((iterN s j : Nat) : Int) ∧ Hid (GrowW V v (rowN s j) wr))
    case atStart => exact ⟨0, by omega, rfl, rfl, Lib.hid (GrowW.start V)⟩
    case round =>
      obtain ⟨j, hg, rfl, rfl, GR⟩ := hrel
      by_cases hlt : j < k
      · have pl : (j : Int) < (k : Int) := by omega
        have HW := Lib.hid (fun W => (rWord (iterN s j) W).mono (fun e w' (q : e = .returned (.int .u64 ((mixN (stepN (iterN s j)) : Nat) : Int)) ∧ w' = W) => And.intro q.1 q.2.symm))
        have HS := Lib.hid (rStep (iterN s j))
        have E2 := Lib.hid (show iterN s (j + 1) = stepN (iterN s j) from rfl)
        have T := Lib.hid (row_succ s j)
        have xw := mix_lt (stepN (iterN s j))
        have LT := Lib.hid (row_len s j)
        generalize iterN s j = z at HW HS E2 T xw ⊢
        generalize mixN (stepN z) = x at HW T xw
        generalize rowN s j = us at GR T LT
        have kb : j ≤ 900000 := by omega
        have SZ := GR.out.below.size
        go_wp2_with (first
          | (go_at_call 9; ((with_reducible refine (HW.out _).mono ?_); rintro e w' ⟨rfl, rfl⟩))

          | (at_builtin; refine wpList_append_own _ rfl _ _ 25 rfl V.heap.size 22 i0 (.int .u64 0) 1 8 Try.underlying25 HI.out HZ0.out HZ1.out HZ2.out rfl (by decide) _ _ _ rfl (GR.out.own.alloc _) ⟨wr.heap.size, 0, none⟩ 1 1 [.int .u64 (x : Int)] rfl rfl (new1 wr _ _) (by simp [Value.oneCell']) (by rw [LT.out]; unfold maxLen; omega) (by rw [LT.out]; omega) (by simp; omega) ?_; intro v' w2 hown hgrow _; have G2 := Lib.hid ((GR.out.far (w' := wr.alloc _) (below_alloc (Below.refl _ _) (.cells #[.int .u64 (x : Int)] 22))).step (ys := [x]) (fun y hy => by rw [List.mem_singleton.1 hy]; exact xw) hown hgrow); rw [← T.out] at G2; clear hown hgrow))
        clear GR
        go_wp2_with fail
        refine (HS.out _).mono ?_
        rintro e w' ⟨rfl, rfl⟩
        go_wp2
        go_roundg (gk - 1)
        case measure => omega
        case rel => exact ⟨j + 1, by omega, by go_num, by rw [E2.out], G2⟩
      · obtain rfl : j = k := by omega
        have pl : ¬ ((j : Int) < (j : Int)) := by omega
        have own := GR.out.own
        obtain ⟨A2, c2, rfl, P2⟩ := Pol.of_owns (row_wds s j) own
        rw [row_len]
        have hB := below_then HB.out GR.out.below
        have P1 := HP.out.below GR.out.below
        clear own GR HB HP
        go_wp2_with fail
        refine (gWords true P1 P2 (row_len s j) (row_len s j) (sameL_self _) (by omega)).mono ?_
        rintro e w' ⟨rfl, hb⟩
        replace hB := below_then hB hb
        clear hb P1 P2
        go_wp2_with fail
        refine (cMix s h _).mono ?_
        rintro e w' ⟨rfl, hb⟩
        replace hB := below_then hB hb
        clear hb
        go_wp2_with fail
        refine (rMix s h _).mono ?_
        rintro e w' ⟨rfl, rfl⟩
        go_wp2_with fail
        refine (cWord s h _).mono ?_
        rintro e w' ⟨rfl, hb⟩
        replace hB := below_then hB hb
        clear hb
        go_wp2_with fail
        refine (rWord s _).mono ?_
        rintro e w' ⟨rfl, rfl⟩
        go_wp2_with fail
        refine (cStep s _).mono ?_
        rintro e w' ⟨rfl, rfl⟩
        go_wp2_with fail
        refine (rStep s _).mono ?_
        rintro e w' ⟨rfl, rfl⟩
        by_cases hx : n ≤ 300
        · have hx1 : ¬ ((n : Int) > 300) := by omega
          go_wp2_with fail
          refine (ofWord n (by omega) _).mono ?_
          rintro e w' ⟨rfl, hb⟩
          replace hB := below_then hB hb
          clear hb
          go_wp2_with fail
          refine (cJump s h 0 n _).mono ?_
          rintro e w' ⟨rfl, hb⟩
          replace hB := below_then hB hb
          clear hb
          go_wp2_with fail
          refine (rJump s n h (by omega) _).mono ?_
          rintro e w' ⟨rfl, rfl⟩
          go_wp2
          go_ret
          exact ⟨rfl, hB⟩
        · have hx1 : (n : Int) > 300 := by omega
          go_wp2
          go_ret
          exact ⟨rfl, hB⟩
end Go.Proofs.Yteldmnjgjijocaa
