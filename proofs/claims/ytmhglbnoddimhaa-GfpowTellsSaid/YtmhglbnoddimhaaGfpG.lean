/-
  What the call Square of package gfp answers, for all lists of words (of up to 50000).
-/
import Derived.Test.YtmhglbnoddimhaaGfpF
namespace Go.Proofs.Ytmhglbnoddimhaa
open Go.RowKit G
set_option linter.unusedVariables false

theorem leN_set_new (ps : List Nat) (k v : Nat) (hw : Wds ps) (hk : k < ps.length) (hv : v < 18446744073709551616) (h0 : ps.getD k 0 = 0) : leN (ps.set k v) = leN ps ^^^ v * 2 ^ (64 * k) := by
  have := leN_set_xor ps k v hw hk hv
  rwa [h0, Nat.zero_xor] at this
/-- What the row of Square holds after k rounds. -/
structure SqTo (k : Nat) (xs ps : List Nat) : Prop where
  val : leN ps = clm (leN (xs.take k)) (leN (xs.take k))
  zero : ∀ i, 2 * k ≤ i → ps.getD i 0 = 0
theorem SqTo.start (n : Nat) (xs : List Nat) : SqTo 0 xs (List.replicate n 0) :=
  ⟨by rw [leN_zero (fun i => getD_zero n i), List.take_zero]; exact (clm_zero 0).symm, fun i _ => getD_zero n i⟩
theorem SqTo.step {k t u : Nat} {xs ps : List Nat} (h : SqTo k xs ps) (hx : Wds xs) (hp : Wds ps) (hk : k < xs.length) (ht : t = 2 * k) (hu : u = 2 * k + 1) (hl : u < ps.length) (v : Nat) (hv : v = clm (xs.getD k 0) (xs.getD k 0)) (hv2 : v / 18446744073709551616 < 18446744073709551616) :
    SqTo (k + 1) xs ((ps.set u (v / 18446744073709551616)).set t (v % 18446744073709551616)) := by
  have l2 : v % 18446744073709551616 < 18446744073709551616 := Nat.mod_lt _ (by decide)
  have hp1 := hp.set u _ hv2
  have g1 : (ps.set u (v / 18446744073709551616)).getD t 0 = 0 := by rw [getD_set _ _ _ _ hl, if_neg (by omega)]; exact h.zero t (by omega)
  refine ⟨?_, fun i hi => ?_⟩
  · rw [leN_set_new _ t _ hp1 (by rw [List.length_set]; omega) l2 g1, leN_set_new _ u _ hp hl hv2 (h.zero u (by omega)), h.val, leN_take_succ xs k hx, sq_xor, Nat.xor_assoc]
    congr 1
    rw [clm_shift, clm_shift_left, ← hv, hu, ht, two_words, Nat.mul_assoc, ← Nat.pow_add]
    congr 2
    omega
  · rw [getD_set _ _ _ _ (by rw [List.length_set]; omega), if_neg (by omega), getD_set _ _ _ _ hl, if_neg (by omega)]
    exact h.zero i (by omega)
set_option maxRecDepth 100000 in
set_option maxHeartbeats 2000000 in
theorem squareWalk (A : Option Addr) (ca L M : Nat) (xs : List Nat) (hL : Hid (xs.length = L)) (bl : L ≤ 50000) (hM : Hid (2 * L = M)) (w : World) (P : Hid (Pol w A ca xs)) (Z : Nat) (hZ : Hid (clm (leN xs) (leN xs) = Z)) :
    Calls Try.prog 57 #[.slice A L ca] w (Ans Z w) := by
  have bM : M ≤ 100000 := by have := hM.out; omega
  have hmk := run_make_row' (P := Try.prog) 23 24 (.int .u64 0) 8 Try.underlying23 infoW rfl .i64 .i64 M (by omega) (by omega)
  have e3 : 2 * (L : Int) = (M : Int) := by have := hM.out; omega
  go_enter Try.func57, Try.ntmps57
  go_wp2
  clear hmk e3
  have F0 := Fill.start w M
  have Z0 := Lib.hid (SqTo.start M xs)
  generalize hps : List.replicate M 0 = ps0 at F0 Z0
  clear hps
  go_loopg [14] L (fun g i wr => ∃ (k : Nat) (ps : List Nat), k + g = L ∧ i = .int .i64 k ∧ Hid (SqTo k xs ps) ∧ Hid (Fill w w.heap.size M ps wr))
  case atStart => exact ⟨0, ps0, by omega, rfl, Z0, Lib.hid F0⟩
  case round =>
    obtain ⟨k, ps, hk, rfl, hp, F⟩ := hrel
    clear F0 Z0
    by_cases hlt : k < L
    · have kl : (k : Int) < (L : Int) := by omega
      have k0 : (0 : Int) ≤ (k : Int) := by omega
      obtain ⟨t, ht⟩ : ∃ t, t = 2 * k := ⟨_, rfl⟩
      obtain ⟨u, hu⟩ : ∃ u, u = 2 * k + 1 := ⟨_, rfl⟩
      have uM : u < M := by have := hM.out; omega
      have tM : t < M := by have := hM.out; omega
      obtain ⟨c1, c2⟩ := F.out.cell u uM
      have P' := Lib.hid (P.out.far F.out.below)
      have hx := P.out.word.get k
      have W1 := cWord A ca xs k _ rfl wr P'.out
      rw [hL.out] at W1
      have hl := high_lt hx hx
      have F1 := F.out.set u (clm (xs.getD k 0) (xs.getD k 0) / 18446744073709551616) uM hl
      obtain ⟨c3, c4⟩ := F1.cell t tM
      have F2 := Lib.hid (F1.set t (clm (xs.getD k 0) (xs.getD k 0) % 18446744073709551616) tM (Nat.mod_lt _ (by decide)))
      have H1 := Lib.hid (hp.out.step P.out.word F.out.wds (by rw [hL.out]; exact hlt) ht hu (by rw [F.out.len]; exact uM) _ rfl hl)
      have W2 := cWords _ _ hx hx wr
      clear F1
      generalize (ps.set u (clm (xs.getD k 0) (xs.getD k 0) / 18446744073709551616)).getD t 0 = p2 at c3
      generalize (ps.set u (clm (xs.getD k 0) (xs.getD k 0) / 18446744073709551616)).set t (clm (xs.getD k 0) (xs.getD k 0) % 18446744073709551616) = ps' at F2 H1
      generalize clm (xs.getD k 0) (xs.getD k 0) / 18446744073709551616 = h at F2 c3 c4 W2 hl
      generalize clm (xs.getD k 0) (xs.getD k 0) % 18446744073709551616 = l at F2 W2
      generalize xs.getD k 0 = x at W1 hx W2
      generalize ps.getD u 0 = p at c1
      have HW1 := Lib.hid W1
      have HW2 := Lib.hid W2
      clear W1 W2
      have r1 : 2 * (k : Int) = (t : Int) := by omega
      have r2 : (t : Int) + 1 = (u : Int) := by omega
      have r4 : (t : Int) < (M : Int) := by omega
      have r5 : (0 : Int) ≤ (t : Int) := by omega
      have r6 : (u : Int) < (M : Int) := by omega
      have r7 : (0 : Int) ≤ (u : Int) := by omega
      clear ht hu
      go_wp2_with (first
        | (go_at_call 48; ((with_reducible refine (HW1.out).mono ?_); rintro e w' ⟨rfl, rfl⟩))
        | (go_at_call 49; ((with_reducible refine (HW2.out).mono ?_); rintro e w' ⟨rfl, rfl⟩)))
      go_roundg (gk - 1)
      case measure => omega
      case rel => exact ⟨k + 1, ps', by omega, by go_num, H1, F2⟩
    · obtain rfl : k = L := by omega
      have hs' : leN ps = Z := by
        have h1 := hp.out.val
        rw [← hL.out, List.take_length] at h1
        rw [h1]; exact hZ.out
      have O := cOwn (some ⟨w.heap.size, 0, none⟩) M ps Z hs' (by rw [F.out.len]; omega) wr (F.out.pol (by omega))
      rw [F.out.len] at O
      have HO := Lib.hid O
      clear O hs'
      go_wp2_with (go_at_call 34; ((with_reducible refine (HO.out).mono ?_); rintro e w' ⟨A', c', rfl, PA, hb⟩))
      go_ret
      exact ⟨A', c', rfl, PA, below_then F.out.below hb⟩
theorem cSquare (A : Option Addr) (ca : Nat) (xs : List Nat) (Z : Nat) (hZ : clm (leN xs) (leN xs) = Z) (hl : xs.length ≤ 50000) (w : World) (P : Pol w A ca xs) :
    Calls Try.prog 57 #[.slice A xs.length ca] w (Ans Z w) :=
  squareWalk A ca _ _ xs (Lib.hid rfl) hl (Lib.hid rfl) w (Lib.hid P) Z (Lib.hid hZ)
section
variable {A B : Option Addr} {L K ca cb : Nat} {xs ys : List Nat} {w : World}
theorem gSquare (Z : Nat) (P : Pol w A ca xs) (hL : xs.length = L) (hZ : clm (leN xs) (leN xs) = Z) (hl : L ≤ 50000) :
    Calls Try.prog 57 #[.slice A L ca] w (Ans Z w) := by
  subst hL; exact cSquare A ca xs Z hZ (by omega) w P
end
end Go.Proofs.Ytmhglbnoddimhaa
