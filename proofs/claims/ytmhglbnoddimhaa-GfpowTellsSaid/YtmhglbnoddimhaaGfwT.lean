/-
  What the calls List and Len of the reference of layer 1, and Pow, Plain and Irreducible of that of layer 4, answer.
-/
import Derived.Test.YtmhglbnoddimhaaGfdTb
import Derived.Test.YtmhglbnoddimhaaGfwD
import Derived.Deep.AppendLies
import Derived.Deep.RegionHeld3
namespace Go.Proofs.Ytmhglbnoddimhaa
open Go.RowKit G
set_option linter.unusedVariables false

/-- An answer that is a new list of bits, which may grow. -/
def RowB (xs : List Nat) (w : World) (e : Ending) (w' : World) : Prop :=
  ∃ g cap : Nat, e = .returned (.slice (some ⟨g, 0, none⟩) xs.length cap) ∧ Grow w (.slice (some ⟨g, 0, none⟩) xs.length cap) xs w'
theorem rBitsR (n : Nat) (xs : List Nat) (hx : bitsK 64 n = xs) (hn : n < 18446744073709551616) (w : World) : Calls Try.prog 38 #[.int .u64 (n : Int)] w (RowB xs w) := by
  subst hx
  refine (rBitsG n hn w).mono ?_
  rintro e w' ⟨v, rfl, G⟩
  have l := bitsK_length 64 n
  obtain ⟨hl, h2⟩ := id G.own
  rcases h2 with ⟨rfl, hn⟩ | ⟨g, cap, cur, rfl, hg, hh, hc, hm, rest⟩
  · omega
  · exact ⟨g, cap, rfl, G⟩

set_option maxRecDepth 100000 in
set_option maxHeartbeats 1000000 in
theorem rListWalk (h l : Nat) (xl xh : List Nat) (el : Hid (bitsK 64 l = xl)) (eh : Hid (bitsK 64 h = xh)) (ll : Hid (xl.length = 64)) (lh : Hid (xh.length = 64)) (h1 : h < 18446744073709551616) (l1 : l < 18446744073709551616) (w : World) :
    Calls Try.prog 41 #[.agg #[.int .u64 (h : Int), .int .u64 (l : Int)]] w (AnsB (xl ++ xh) w) := by
  obtain ⟨i0, hi, hz0, hz1, hz2⟩ := info_parts infoI
  have HI := Lib.hid hi
  have HZ0 := Lib.hid hz0
  have HZ1 := Lib.hid hz1
  have HZ2 := Lib.hid hz2
  clear hi hz0 hz1 hz2
  go_enter Try.func41, Try.ntmps41
  go_wp2_with fail
  have K0 := Lib.hid (cells_new w (.int .u64 (h : Int)) (.int .u64 (l : Int)) 39)
  have hB := below_alloc (Below.refl _ _) (w := w) (W := w) (.cells #[.int .u64 (h : Int), .int .u64 (l : Int)] 39)
  generalize hW0 : World.alloc w _ = W0 at K0 hB ⊢
  clear hW0
  have hX : Below W0.heap.size W0 W0 := Below.refl _ _
  obtain ⟨c0, c1⟩ := K0.out
  go_region_held3 (fun w' => w'.cell? ⟨w.heap.size, 0, none⟩ = some (.int .u64 (h : Int)) ∧ w'.cell? ⟨w.heap.size, 1, none⟩ = some (.int .u64 (l : Int))) (go_keep)
    (first
      | (go_at_call 38; ((with_reducible refine (rBitsR l xl el.out l1 _).mono ?_); rintro e x ⟨g, cap, rfl, G1⟩; clear c0 c1; replace hX := below_then (by first | exact hX | exact hX.drew) G1.below; obtain ⟨c0, c1⟩ := two_below K0.out hX; have OWN1 : Hid (x.ownsRow W0.heap.size 3 1 (.slice (some ⟨g, 0, none⟩) xl.length cap) xl.length (ints xl)) := Lib.hid G1.own; have ex := hX.size; have BT1 := Lib.hid G1.bit; clear G1))
      | (go_at_call 38; ((with_reducible refine (rBitsR h xh eh.out h1 _).mono ?_); rintro e y ⟨g2, cap2, rfl, G2⟩; clear c0 c1; replace hX := below_then (by first | exact hX | exact hX.drew) G2.below; obtain ⟨c0, c1⟩ := two_below K0.out hX; replace OWN1 := Lib.hid (owns_below OWN1.out G2.below); have OWN2 := Lib.hid G2.own; have ey := hX.size; have BT2 := Lib.hid G2.bit; clear G2))
      | (refine step_append_lies _ (by rfl) _ _ _ (by rfl) W0.heap.size 3 i0 (.int .i64 0) 1 8 Try.underlying34 HI.out HZ0.out HZ1.out HZ2.out rfl (by omega) (.slice (some ⟨g, 0, none⟩) xl.length cap) xl.length (ints xl) (by rfl) OWN1.out ⟨g2, 0, none⟩ xh.length cap2 (ints xh) (by rfl) (by simp) (OWN2.out.cells rfl) (one_ints xh) (by rw [lh.out]; omega) (by rw [ll.out, lh.out]; decide) (by rw [ll.out, lh.out]; omega) ey y.heap.size rfl ?_; intro gg cap' w1 hown1 hgrow hat hlt; clear c0 c1; replace hX := hX.grown hgrow ey (fun k hk => (OWN1.out.lt k hk).1); obtain ⟨c0, c1⟩ := two_below K0.out hX; have OWN3 := Lib.hid hown1; clear hown1 hgrow))
  go_wp2
  go_ret
  have GG : Grow W0 (.slice (some ⟨gg, 0, none⟩) (xl.length + xh.length) cap') (xl ++ xh) w1 := ⟨by rw [List.length_append, ints, List.map_append]; exact OWN3.out, BT1.out.append BT2.out, hX⟩
  obtain ⟨A, c, e, L⟩ := GG.lst
  exact ⟨A, c, by rw [← e]; rfl, L, below_then hB hX⟩
theorem leB_two (h l : Nat) (l1 : l < 18446744073709551616) (h1 : h < 18446744073709551616) : leB (bitsK 64 l ++ bitsK 64 h) = h * 18446744073709551616 + l := by
  rw [leB_append, bitsK_length, leB_bitsK 64 l (by rw [show (2 : Nat) ^ 64 = 18446744073709551616 from rfl]; exact l1), leB_bitsK 64 h (by rw [show (2 : Nat) ^ 64 = 18446744073709551616 from rfl]; exact h1), show (2 : Nat) ^ 64 = 18446744073709551616 from rfl]
  omega
/-- The 128 bits of a number. -/
theorem rList {h l : Int} {N : Nat} (i : Wn h l N) (w : World) : Calls Try.prog 41 #[.agg #[.int .u64 h, .int .u64 l]] w (fun e w' => ∃ (A : Option Addr) (cap : Nat) (xs : List Nat), e = .returned (.slice A 128 cap) ∧ xs.length = 128 ∧ leB xs = N ∧ Lst w' A cap xs ∧ Below w.heap.size w w') := by
  obtain ⟨h', rfl⟩ := Int.eq_ofNat_of_zero_le i.h0
  obtain ⟨l', rfl⟩ := Int.eq_ofNat_of_zero_le i.l0
  have h1 : h' < 18446744073709551616 := by have := i.h1; omega
  have l1 : l' < 18446744073709551616 := by have := i.l1; omega
  refine (rListWalk h' l' _ _ (Lib.hid rfl) (Lib.hid rfl) (Lib.hid (bitsK_length 64 l')) (Lib.hid (bitsK_length 64 h')) h1 l1 w).mono ?_
  rintro e w' ⟨A, c, rfl, L, hb⟩
  have ln : (bitsK 64 l' ++ bitsK 64 h').length = 128 := by rw [List.length_append, bitsK_length, bitsK_length]
  exact ⟨A, c, _, by rw [ln], ln, by rw [leB_two _ _ l1 h1]; have := i.eq; omega, L, hb⟩
theorem len_mod (N k : Nat) : len (N % 2 ^ (k + 1)) = if N / 2 ^ k % 2 = 1 then k + 1 else len (N % 2 ^ k) := by
  have e : N % 2 ^ (k + 1) = N % 2 ^ k + 2 ^ k * (N / 2 ^ k % 2) := by rw [Nat.pow_succ, Nat.mod_mul]
  have b := Nat.mod_lt N (Nat.two_pow_pos k)
  split
  · next z =>
    rw [e, z]
    exact len_of (by omega) (by rw [Nat.pow_succ]; omega)
  · next z =>
    rw [e, show N / 2 ^ k % 2 = 0 from by omega]
    simp

set_option maxRecDepth 100000 in
set_option maxHeartbeats 1000000 in
theorem rLen {h l : Int} {N : Nat} (E : Nat) (i : Wn h l N) (hE : len N = E) (w : World) : Calls Try.prog 18 #[.agg #[.int .u64 h, .int .u64 l]] w (AnsI (E : Int) w) := by
  have HI := Lib.hid i
  have HE := Lib.hid (show len (N % 2 ^ 128) = E from by rw [Nat.mod_eq_of_lt (show N < 2 ^ 128 from i.lt)]; exact hE)
  clear i hE
  go_enter Try.func18, Try.ntmps18
  go_wp2_with fail
  refine (rList HI.out _).mono ?_
  rintro e w1 ⟨A, c, xs, rfl, hl, hv, L, hb⟩
  have HL := Lib.hid hl
  have HV := Lib.hid hv
  have LL := Lib.hid L
  have HB := Lib.hid (below_then (below_alloc (Below.refl _ _) _) hb)
  clear hl hv L hb
  go_wp2_with fail
  go_loop [3, 5] (fun u i => ∃ k t : Nat, k ≤ 128 ∧ i = .int .i64 k ∧ u = .int .i64 (t : Int) ∧ Hid (len (N % 2 ^ k) = t)) (fun _ i => 128 - (intOf i).toNat)
  case atStart => exact ⟨0, 0, by omega, rfl, rfl, Lib.hid (by simp [Nat.mod_one, len_zero])⟩
  case round =>
    obtain ⟨k, t, hk, rfl, rfl, ht⟩ := hrel
    by_cases hlt : k < 128
    · have kl : (k : Int) < 128 := by omega
      have kb : decide ((k : Int) < 128) = true := by simp; omega
      have k0 : (0 : Int) ≤ (k : Int) := by omega
      obtain ⟨b, o, rfl, cl⟩ := LL.out.cell k (by rw [HL.out]; exact hlt)
      have ey := leB_get xs k LL.out.bit
      rw [HV.out] at ey
      have st := len_mod N k
      rw [ey, ht.out] at st
      have ST := Lib.hid st
      have HK := Lib.hid hlt
      have kk : k ≤ 1000 := by omega
      clear ey st hlt hk
      generalize xs.getD k 0 = y at cl ST
      by_cases hy : y = 1
      · subst hy
        have S2 := Lib.hid (ST.out.trans (if_pos rfl))
        clear ST
        go_wp2
        go_round
        case rel => exact ⟨k + 1, k + 1, by have := HK.out; omega, by go_num, by go_num, S2⟩
        case measure => have := HK.out; simp [intOf]; omega
      · have hyb : (y == 1) = false := by simpa using hy
        have hyc : ((y : Int) == 1) = false := by simp; omega
        have S2 := Lib.hid (ST.out.trans (if_neg hy))
        clear ST hy
        go_wp2
        go_round
        case rel => exact ⟨k + 1, t, by have := HK.out; omega, by go_num, rfl, S2⟩
        case measure => have := HK.out; simp [intOf]; omega
    · obtain rfl : k = 128 := by omega
      obtain rfl : t = E := ht.out.symm.trans HE.out
      go_wp2
      go_ret
      exact ⟨rfl, HB.out⟩
end Go.Proofs.Ytmhglbnoddimhaa
