/-
  What the call Mul of package gfp answers, for all lists of words (of up to 50000).
-/
import Derived.Test.YtfpbfibnkknhdaaDoorGfpF
namespace Go.Proofs.YtfpbfibnkknhdaaDoor
open Go.RowKit G
set_option linter.unusedVariables false

/-- What the row of Mul holds after i rows, and j words of the next one. -/
def MulTo (i j : Nat) (xs ys : List Nat) (Y : Nat) (ps : List Nat) : Prop := leN ps = clm (leN (xs.take i)) Y ^^^ clm (xs.getD i 0 * 2 ^ (64 * i)) (leN (ys.take j))
theorem MulTo.start (n : Nat) (xs ys : List Nat) (Y : Nat) : MulTo 0 0 xs ys Y (List.replicate n 0) := by
  unfold MulTo
  rw [leN_zero (fun i => getD_zero n i), List.take_zero, List.take_zero]
  show 0 = clm 0 Y ^^^ clm _ 0
  rw [clm_zero_left, clm_zero]; rfl
theorem MulTo.row {i : Nat} {xs ys : List Nat} {Y : Nat} {ps : List Nat} (n : Nat) (h : MulTo i n xs ys Y ps) (hx : Wds xs) (hn : leN (ys.take n) = Y) : MulTo (i + 1) 0 xs ys Y ps := by
  unfold MulTo at *
  rw [h, hn, leN_take_succ xs i hx, clm_xor_left, List.take_zero]
  show _ = _ ^^^ clm _ 0
  rw [clm_zero, Nat.xor_zero]
theorem MulTo.skip {i j : Nat} {xs ys : List Nat} {Y : Nat} {ps : List Nat} (h : MulTo i j xs ys Y ps) (hx : Wds xs) (h0 : xs.getD i 0 = 0) : MulTo (i + 1) 0 xs ys Y ps := by
  unfold MulTo at *
  rw [h, leN_take_succ xs i hx, h0, Nat.zero_mul, clm_zero_left, Nat.xor_zero, Nat.xor_zero, List.take_zero]
  show _ = _ ^^^ clm _ 0
  rw [clm_zero, Nat.xor_zero]
theorem MulTo.step {i j t u : Nat} {xs ys : List Nat} {Y : Nat} {ps : List Nat} (h : MulTo i j xs ys Y ps) (hx : Wds xs) (hy : Wds ys) (hp : Wds ps) (ht : t = i + j) (hu : u = i + j + 1) (hl : u < ps.length) (v : Nat) (hv : v = clm (xs.getD i 0) (ys.getD j 0)) (hv2 : v / 18446744073709551616 < 18446744073709551616) :
    MulTo i (j + 1) xs ys Y ((ps.set t (ps.getD t 0 ^^^ v % 18446744073709551616)).set u ((ps.set t (ps.getD t 0 ^^^ v % 18446744073709551616)).getD u 0 ^^^ v / 18446744073709551616)) := by
  have l2 : v % 18446744073709551616 < 18446744073709551616 := Nat.mod_lt _ (by decide)
  have hp1 := hp.set t _ (word_xor (hp.get t) l2)
  unfold MulTo at *
  rw [leN_set_xor _ u _ hp1 (by rw [List.length_set]; exact hl) hv2, leN_set_xor _ t _ hp (by omega) l2, h, leN_take_succ ys j hy, clm_xor, Nat.xor_assoc, Nat.xor_assoc]
  congr 2
  rw [clm_shift, clm_shift_left, ← hv, Nat.xor_comm, hu, ht, two_words, Nat.mul_assoc, ← Nat.pow_add]
  congr 2
  omega
theorem MulTo.done {m : Nat} {xs ys : List Nat} {X Y : Nat} {ps : List Nat} (h : MulTo m 0 xs ys Y ps) (hm : leN (xs.take m) = X) : leN ps = clm X Y := by
  unfold MulTo at h
  rw [h, hm, List.take_zero]
  show _ ^^^ clm _ 0 = _
  rw [clm_zero, Nat.xor_zero]

set_option maxRecDepth 100000 in
set_option maxHeartbeats 4000000 in
theorem mulWalk (A B : Option Addr) (ca cb L K m n M X Y : Nat) (xs ys : List Nat) (hL : Hid (xs.length = L)) (hK : Hid (ys.length = K)) (bl : L ≤ 50000) (bk : K ≤ 50000) (hm : m ≤ L) (hn : n ≤ K) (hM : Hid (m + n = M)) (hX : Hid (leN (xs.take m) = X)) (hY : Hid (leN (ys.take n) = Y)) (w : World) (P : Hid (Pol w A ca xs)) (Q : Hid (Pol w B cb ys)) (Z : Nat) (hZ : Hid (clm X Y = Z))
    (s1 : Hid (Calls Tryd.prog 28 #[.slice A L ca] w (fun e w' => e = .returned (.int .i64 (m : Int)) ∧ w = w')))
    (s2 : Hid (Calls Tryd.prog 28 #[.slice B K cb] w (fun e w' => e = .returned (.int .i64 (n : Int)) ∧ w = w'))) :
    Calls Tryd.prog 22 #[.slice A L ca, .slice B K cb] w (Ans Z w) := by
  have bM : M ≤ 100000 := by have := hM.out; omega
  have hmk := run_make_row' (P := Tryd.prog) 23 50 (.int .u64 0) 8 Tryd.underlying23 infoW rfl .i64 .i64 M (by omega) (by omega)
  have e3 : (m : Int) + (n : Int) = (M : Int) := by have := hM.out; omega
  go_enter Tryd.func22, Tryd.ntmps22
  go_wp2
  go_step3
  go_wp2_with (first
        | (go_at_call 28; ((with_reducible refine (s1.out).mono ?_); rintro e w' ⟨rfl, rfl⟩))
        | (go_at_call 28; ((with_reducible refine (s2.out).mono ?_); rintro e w' ⟨rfl, rfl⟩)))
  go_step3
  go_wp2
  clear hmk e3
  have F0 := Fill.start w M
  have Z0 := Lib.hid (MulTo.start M xs ys Y)
  generalize hps : List.replicate M 0 = ps0 at F0 Z0
  clear hps
  go_loopg [29] m (fun g i wr => ∃ (k : Nat) (ps : List Nat), k + g = m ∧ i = .int .i64 k ∧ Hid (MulTo k 0 xs ys Y ps) ∧ Hid (Fill w w.heap.size M ps wr))
  case atStart => exact ⟨0, ps0, by omega, rfl, Z0, Lib.hid F0⟩
  case round =>
    obtain ⟨i, ps, hi, rfl, hp, F⟩ := hrel
    clear F0 Z0
    by_cases hlt : i < m
    · have il : (i : Int) < (m : Int) := by omega
      have i0 : (0 : Int) ≤ (i : Int) := by omega
      have hx := P.out.word.get i
      obtain ⟨go, rfl⟩ : ∃ go, go = gk := ⟨_, rfl⟩
      go_wp2
      go_loopg [33] n (fun g s wr => ∃ (j : Nat) (ps : List Nat), j + g = n ∧ s = .int .i64 j ∧ Hid (MulTo i j xs ys Y ps) ∧ Hid (Fill w w.heap.size M ps wr))
      case atStart => exact ⟨0, ps, by omega, rfl, hp, F⟩
      case round =>
        clear hp F ps
        obtain ⟨j, ps, hj, rfl, hp, F⟩ := hrel
        by_cases hlt2 : j < n
        · have jl : (j : Int) < (n : Int) := by omega
          have j0 : (0 : Int) ≤ (j : Int) := by omega
          have hy := Q.out.word.get j
          have P' := Lib.hid (P.out.far F.out.below)
          have Q' := Lib.hid (Q.out.far F.out.below)
          have W1 := cWord A ca xs i _ rfl wr P'.out
          have W2 := cWord B cb ys j _ rfl wr Q'.out
          rw [hL.out] at W1
          rw [hK.out] at W2
          by_cases hz : xs.getD i 0 = 0
          · have H1 := Lib.hid (hp.out.skip P.out.word hz)
            rw [hz] at W1
            generalize ys.getD j 0 = y at W2 hy
            have HW1 := Lib.hid W1
            have HW2 := Lib.hid W2
            clear W1 W2 hz hx
            go_wp2_with (first
              | (go_at_call 31; ((with_reducible refine (HW1.out).mono ?_); rintro e w' ⟨rfl, rfl⟩))
              | (go_at_call 31; ((with_reducible refine (HW2.out).mono ?_); rintro e w' ⟨rfl, rfl⟩)))
            go_roundg (go - 1)
            case measure => omega
            case rel => exact ⟨i + 1, ps, by omega, by go_num, H1, F⟩
          · obtain ⟨t, ht⟩ : ∃ t, t = i + j := ⟨_, rfl⟩
            obtain ⟨u, hu⟩ : ∃ u, u = i + j + 1 := ⟨_, rfl⟩
            have uM : u < M := by have := hM.out; omega
            have tM : t < M := by have := hM.out; omega
            obtain ⟨c1, c2⟩ := F.out.cell t tM
            have hl := high_lt hx hy
            have l2 : clm (xs.getD i 0) (ys.getD j 0) % 18446744073709551616 < 18446744073709551616 := Nat.mod_lt _ (by decide)
            have pt := F.out.wds.get t
            have F1 := F.out.set t (ps.getD t 0 ^^^ clm (xs.getD i 0) (ys.getD j 0) % 18446744073709551616) tM (word_xor pt l2)
            obtain ⟨c3, c4⟩ := F1.cell u uM
            have pu := F1.wds.get u
            have F2 := Lib.hid (F1.set u ((ps.set t (ps.getD t 0 ^^^ clm (xs.getD i 0) (ys.getD j 0) % 18446744073709551616)).getD u 0 ^^^ clm (xs.getD i 0) (ys.getD j 0) / 18446744073709551616) uM (word_xor pu hl))
            have H1 := Lib.hid (hp.out.step P.out.word Q.out.word F.out.wds ht hu (by rw [F.out.len]; exact uM) _ rfl hl)
            have W3 := cWords _ _ hx hy wr
            clear F1
            generalize (ps.set t (ps.getD t 0 ^^^ clm (xs.getD i 0) (ys.getD j 0) % 18446744073709551616)).set u ((ps.set t (ps.getD t 0 ^^^ clm (xs.getD i 0) (ys.getD j 0) % 18446744073709551616)).getD u 0 ^^^ clm (xs.getD i 0) (ys.getD j 0) / 18446744073709551616) = ps' at F2 H1
            generalize (ps.set t (ps.getD t 0 ^^^ clm (xs.getD i 0) (ys.getD j 0) % 18446744073709551616)).getD u 0 = pv at F2 c3 pu
            generalize clm (xs.getD i 0) (ys.getD j 0) / 18446744073709551616 = h at F2 W3 hl
            generalize clm (xs.getD i 0) (ys.getD j 0) % 18446744073709551616 = l at F2 W3 c3 c4 l2
            generalize ys.getD j 0 = y at W2 hy W3
            generalize ps.getD t 0 = p at c1 c3 c4 F2 pt
            have X1 := xor_int p l pt l2
            have X2 := xor_int pv h pu hl
            generalize p ^^^ l = pl at F2 c3 c4 X1
            generalize pv ^^^ h = pvh at F2 X2
            generalize xs.getD i 0 = x at W1 hx W3 hz
            have hz1 : (x == 0) = false := by simpa using hz
            have hz2 : ((x : Int) == 0) = false := by
              have : (x : Int) ≠ 0 := by omega
              simpa using this
            have HW1 := Lib.hid W1
            have HW2 := Lib.hid W2
            have HW3 := Lib.hid W3
            clear W1 W2 W3 hz
            have r1 : (i : Int) + (j : Int) = (t : Int) := by omega
            have r2 : (t : Int) + 1 = (u : Int) := by omega
            have r4 : (t : Int) < (M : Int) := by omega
            have r5 : (0 : Int) ≤ (t : Int) := by omega
            have r6 : (u : Int) < (M : Int) := by omega
            have r7 : (0 : Int) ≤ (u : Int) := by omega
            clear ht hu
            go_wp2_with (first
              | (go_at_call 31; ((with_reducible refine (HW1.out).mono ?_); rintro e w' ⟨rfl, rfl⟩))
              | (go_at_call 31; ((with_reducible refine (HW2.out).mono ?_); rintro e w' ⟨rfl, rfl⟩))
              | (go_at_call 32; ((with_reducible refine (HW3.out).mono ?_); rintro e w' ⟨rfl, rfl⟩)))
            go_roundg (gk - 1)
            case measure => omega
            case rel => exact ⟨j + 1, ps', by omega, by go_num, H1, F2⟩
        · obtain rfl : j = n := by omega
          have H1 := Lib.hid (hp.out.row j P.out.word hY.out)
          have jl : ¬ ((j : Int) < (j : Int)) := by omega
          go_wp2
          go_roundg (go - 1)
          case measure => omega
          case rel => exact ⟨i + 1, ps, by omega, by go_num, H1, F⟩
    · obtain rfl : i = m := by omega
      have hs' : leN ps = Z := by rw [hp.out.done hX.out]; exact hZ.out
      have O := cOwn (some ⟨w.heap.size, 0, none⟩) M ps Z hs' (by rw [F.out.len]; omega) wr (F.out.pol (by omega))
      rw [F.out.len] at O
      have HO := Lib.hid O
      clear O hs'
      go_wp2_with (go_at_call 33; ((with_reducible refine (HO.out).mono ?_); rintro e w' ⟨A', c', rfl, PA, hb⟩))
      try rw [Exit.noGoto_ret]
      go_ret
      exact ⟨A', c', rfl, PA, below_then F.out.below hb⟩
theorem cMul (A B : Option Addr) (ca cb : Nat) (xs ys : List Nat) (Z : Nat) (hZ : clm (leN xs) (leN ys) = Z) (hl : xs.length ≤ 50000) (hk : ys.length ≤ 50000) (w : World) (P : Pol w A ca xs) (Q : Pol w B cb ys) :
    Calls Tryd.prog 22 #[.slice A xs.length ca, .slice B ys.length cb] w (Ans Z w) := by
  obtain ⟨e1, e2⟩ := own_take xs _ P.word rfl
  obtain ⟨f1, f2⟩ := own_take ys _ Q.word rfl
  exact mulWalk A B ca cb _ _ _ _ _ _ _ xs ys (Lib.hid rfl) (Lib.hid rfl) hl hk e2 f2 (Lib.hid rfl) (Lib.hid (by rw [e1, leN_wordsOf])) (Lib.hid (by rw [f1, leN_wordsOf])) w (Lib.hid P) (Lib.hid Q) Z (Lib.hid hZ) (Lib.hid (cSize A ca xs _ rfl w P)) (Lib.hid (cSize B cb ys _ rfl w Q))
end Go.Proofs.YtfpbfibnkknhdaaDoor
