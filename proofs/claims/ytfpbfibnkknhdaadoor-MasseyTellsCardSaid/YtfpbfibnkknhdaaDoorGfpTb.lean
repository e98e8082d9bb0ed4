/-
  What the calls Trim, Parts and Of of the reference of layer 2, and Word of the reference of layer 1, answer.
-/
import Derived.Test.YtfpbfibnkknhdaaDoorGfpTa
namespace Go.Proofs.YtfpbfibnkknhdaaDoor
open Go.RowKit G
set_option linter.unusedVariables false

theorem nil_appendI (g c : Nat) (w : World) (hg : w.heap[g]? = some (.cells #[] 3 (0, 0))) : (Builtin.append_ #[26, 26] 26 #[.slice (some ⟨g, 0, none⟩) 0 0, .slice none 0 c]).run Tryd.prog w = .ok (.slice (some ⟨g, 0, none⟩) 0 0) w := by
  obtain ⟨i0, hi, hz0, hz1, hz2⟩ := info_parts infoI
  simp [Builtin.append_, run_underlying Tryd.underlying26, sizeOf, typeInfo, hi, Builtin.lenOf, Builtin.firstCells, storeCells]

set_option maxHeartbeats 1000000 in
theorem trimSome (a : Addr) (cap : Nat) (xs : List Nat) (L N : Nat) (hL : Hid (xs.length = L)) (hN : Hid (leB xs = N)) (hl : L ≤ 1000000) (w : World) (H : Hid (Lst w (some a) cap xs)) :
    Calls Tryd.prog 24 #[.slice (some a) L cap] w (AnsB (bitsOf N) w) := by
  obtain ⟨i0, hi, hz0, hz1, hz2⟩ := info_parts infoI
  have HI := Lib.hid hi
  have HZ0 := Lib.hid hz0
  have HZ1 := Lib.hid hz1
  have HZ2 := Lib.hid hz2
  clear hi hz0 hz1 hz2
  have hc1 : L ≤ cap := by rw [← hL.out]; exact H.out.cap1
  have hc2 := H.out.cap2
  go_enter Tryd.func24, Tryd.ntmps24
  go_wp2
  go_loopg [3] L (fun g i wr => ∃ k : Nat, k ≤ L ∧ k = g ∧ i = .int .i64 k ∧ Hid (∀ j, k ≤ j → xs.getD j 0 = 0) ∧ wr = w)
  case atStart => exact ⟨L, Nat.le_refl _, rfl, rfl, Lib.hid (fun j hj => by rw [List.getD_eq_getElem?_getD, List.getElem?_eq_none (by rw [hL.out]; exact hj)]; rfl), rfl⟩
  case round =>
    obtain ⟨k, hk, rfl, rfl, hz, rfl⟩ := hrel
    have stop : ∀ (hh : k = 0 ∨ xs.getD (k - 1) 0 ≠ 0), xs.take k = bitsOf N := fun hh => take_ownB xs k N H.out.bit hN.out (by rw [hL.out]; exact hk) hz.out hh
    have STOP := Lib.hid stop
    clear stop
    have n0 : (0 : Int) ≤ (k : Int) := by omega
    have n1 : (k : Int) ≤ (cap : Int) := by omega
    by_cases h0 : k = 0
    · subst h0
      have E := Lib.hid (STOP.out (.inl rfl))
      clear STOP
      go_wp2_with (at_builtin; refine wpList_append_own _ rfl _ _ 26 rfl wr.heap.size 3 i0 (.int .i64 0) 1 8 Tryd.underlying26 HI.out HZ0.out HZ1.out HZ2.out rfl (by decide) _ _ _ rfl (Grow.start wr).own a 0 cap (ints (xs.take 0)) rfl rfl ((H.out.alloc _).news 0) (one_ints _) (by unfold maxLen; decide) (by decide) (by simp) ?_; intro v w1 hown hgrow _; have GR := Lib.hid ((Grow.start wr).step (ys := xs.take 0) (fun x hx => by cases hx) (by simpa using hown) hgrow); clear hown hgrow)
      go_ret
      have := GR.out.ans
      rw [List.nil_append, E.out] at this
      exact this
    · obtain ⟨j, rfl⟩ : ∃ j, k = j + 1 := ⟨k - 1, by omega⟩
      obtain ⟨b, o, ea, hc⟩ := H.out.cell j (by rw [hL.out]; omega)
      obtain rfl : a = ⟨b, o, none⟩ := by simpa using ea
      have j1 : (0 : Int) < ((j + 1 : Nat) : Int) := by omega
      have j2 : (((j + 1 : Nat) : Int) - 1) = (j : Int) := by omega
      have j3 : (j : Int) < (L : Int) := by omega
      have j4 : (0 : Int) ≤ (j : Int) := by omega
      by_cases hx : xs.getD j 0 = 0
      · rw [hx] at hc
        have HX := Lib.hid hx
        clear hx
        go_wp2
        go_roundg j
        case measure => omega
        case rel => exact ⟨j, by omega, rfl, rfl, Lib.hid (fun i hi => by
          by_cases e : i = j
          · rw [e]; exact HX.out
          · exact hz.out i (by omega)), rfl⟩
      · have E := Lib.hid (STOP.out (.inr (by simpa using hx)))
        clear STOP
        generalize xs.getD j 0 = x at hc hx
        have hx' : (x == 0) = false := by simpa using hx
        have hx2 : ((x : Int) == 0) = false := by
          have : (x : Int) ≠ 0 := by omega
          simpa using this
        obtain ⟨t, ht⟩ : ∃ t, t = j + 1 := ⟨_, rfl⟩
        rw [← ht] at E n0 n1 j1 j2 ⊢
        have tL : t ≤ L := by omega
        clear hk
        have lt : (ints (xs.take t)).length = t * 1 := by rw [List.length_map, List.length_take, hL.out]; omega
        have LT := Lib.hid lt
        clear lt ht
        go_wp2_with (at_builtin; refine wpList_append_own _ rfl _ _ 26 rfl wr.heap.size 3 i0 (.int .i64 0) 1 8 Tryd.underlying26 HI.out HZ0.out HZ1.out HZ2.out rfl (by decide) _ _ _ rfl (Grow.start wr).own ⟨b, o, none⟩ t cap (ints (xs.take t)) rfl LT.out ((H.out.alloc _).news t) (one_ints _) (by unfold maxLen; simp; omega) (by simp; omega) (by simp) ?_; intro v w1 hown hgrow _; have GR := Lib.hid ((Grow.start wr).step (ys := xs.take t) (fun x hx => H.out.bit x (List.mem_of_mem_take hx)) (by have q := LT.out; rw [List.length_map, Nat.mul_one] at q; rw [q]; simpa using hown) hgrow); clear hown hgrow)
        go_ret
        have := GR.out.ans
        rw [List.nil_append, E.out] at this
        exact this
set_option maxHeartbeats 1000000 in
theorem trimNone (cap : Nat) (hc : cap ≤ 9223372036854775807) (w : World) :
    Calls Tryd.prog 24 #[.slice none 0 cap] w (AnsB [] w) := by
  have hap := nil_appendI w.heap.size cap (w.alloc (.cells #[] 3)) (heap_alloc_new w _)
  have n1 : (0 : Int) ≤ (cap : Int) := by omega
  go_enter Tryd.func24, Tryd.ntmps24
  go_wp2
  go_loopg [3] 0 (fun g i wr => i = .int .i64 0 ∧ wr = w)
  case atStart => exact ⟨rfl, rfl⟩
  case round =>
    obtain ⟨rfl, rfl⟩ := hrel
    go_wp2
    go_ret
    exact ⟨some ⟨wr.heap.size, 0, none⟩, 0, rfl, Lst.nil _ _ _ (by decide), below_alloc (Below.refl _ _) _⟩
theorem rTrim {A : Option Addr} {cap L : Nat} {xs : List Nat} {w : World} (N : Nat) (h : Lst w A cap xs) (hL : xs.length = L) (hN : leB xs = N) (hl : L ≤ 1000000) :
    Calls Tryd.prog 24 #[.slice A L cap] w (AnsB (bitsOf N) w) := by
  cases A with
  | some a => exact trimSome a cap xs L N (Lib.hid hL) (Lib.hid hN) hl w (Lib.hid h)
  | none =>
    have e0 : xs = [] := by
      cases xs with
      | nil => rfl
      | cons x r => obtain ⟨b, o, e, _⟩ := h.cell 0 (by simp); cases e
    subst e0
    subst hL hN
    have : bitsOf (leB []) = [] := bitsOf_zero
    rw [this]
    exact trimNone cap h.cap2 w

set_option maxHeartbeats 1000000 in
theorem wordWalk (A : Option Addr) (cap L f N : Nat) (xs : List Nat) (hL : Hid (xs.length = L)) (hN : Hid (leB xs = N)) (hl : L ≤ 1000000) (hf : f ≤ 1000000) (w : World) (H : Hid (Lst w A cap xs)) :
    Calls Tryd.prog 27 #[.slice A L cap, .int .i64 (f : Int)] w (fun e w' => e = .returned (.int .u64 ((N / 2 ^ f % 18446744073709551616 : Nat) : Int)) ∧ w = w') := by
  go_enter Tryd.func27, Tryd.ntmps27
  go_wp2
  go_loopg [5, 6] 64 (fun g v i wr => ∃ (m : Nat) (z : Int), z + 1 = (g : Int) ∧ g ≤ 64 ∧ i = .int .i64 z ∧ v = .int .u64 (m : Int) ∧ Hid (m = N / 2 ^ (f + g) % 2 ^ (64 - g)) ∧ wr = w)
  case atStart => exact ⟨0, 63, by omega, by omega, rfl, rfl, Lib.hid (by simp [Nat.mod_one]), rfl⟩
  case round =>
    obtain ⟨m, z, hz, hg, rfl, rfl, HM, rfl⟩ := hrel
    cases gk with
    | zero =>
      obtain rfl : z = -1 := by omega
      go_wp2
      go_ret
      exact ⟨by rw [HM.out]; rfl, rfl⟩
    | succ t =>
      obtain rfl : z = (t : Int) := by omega
      have bm : m < 9223372036854775808 := by
        rw [HM.out]
        exact Nat.lt_of_lt_of_le (Nat.mod_lt _ (Nat.two_pow_pos _)) (Nat.pow_le_pow_right (n := 2) (by decide) (show 64 - (t + 1) ≤ 63 by omega))
      obtain ⟨s, hs⟩ : ∃ s, s = f + t := ⟨_, rfl⟩
      have e1 : (f : Int) + (t : Int) = (s : Int) := by omega
      have s0 : (0 : Int) ≤ (s : Int) := by omega
      have ms : 2 * m + xs.getD s 0 = N / 2 ^ (f + t) % 2 ^ (64 - t) := by
        have h := half_step N (f + t) (64 - (t + 1))
        rw [show 64 - (t + 1) + 1 = 64 - t from by omega] at h
        rw [h, HM.out, hs, ← leB_get xs (f + t) H.out.bit, hN.out, Nat.add_assoc f t 1]
        omega
      have hb := H.out.bit.get s
      have MS := Lib.hid ms
      clear ms
      by_cases hlt : s < L
      · have sl : (s : Int) < (L : Int) := by omega
        obtain ⟨b, o, rfl, hc⟩ := H.out.cell s (by rw [hL.out]; exact hlt)
        generalize xs.getD s 0 = x at hc MS hb
        have HS := Lib.hid hs
        clear hs hz
        go_wp2
        go_roundg t
        case measure => omega
        case rel => exact ⟨m * 2 + x, (t : Int) - 1, by omega, by omega, rfl, by go_num, Lib.hid (by rw [← MS.out]; omega), rfl⟩
      · have sl : ¬ ((s : Int) < (L : Int)) := by omega
        have hx : xs.getD s 0 = 0 := by rw [List.getD_eq_getElem?_getD, List.getElem?_eq_none (by rw [hL.out]; omega)]; rfl
        rw [hx] at MS
        have HS := Lib.hid hs
        clear hs hz hx hb
        go_wp2
        go_roundg t
        case measure => omega
        case rel => exact ⟨m * 2, (t : Int) - 1, by omega, by omega, rfl, by go_num, Lib.hid (by rw [← MS.out]; omega), rfl⟩
theorem rBitsAt (n : Nat) (hn : n < 18446744073709551616) (w : World) : Calls Tryd.prog 23 #[.int .u64 (n : Int)] w (fun e w' => ∃ b o cap, e = .returned (.slice (some ⟨b, o, none⟩) 64 cap) ∧ Lst w' (some ⟨b, o, none⟩) cap (bitsK 64 n) ∧ Below w.heap.size w w') := by
  refine (rBits n hn w).mono ?_
  rintro e w' ⟨A, cap, rfl, l, hb⟩
  obtain ⟨b, o, rfl, _⟩ := l.cell 0 (by rw [bitsK_length]; decide)
  exact ⟨b, o, cap, by rw [bitsK_length], l, hb⟩
set_option maxHeartbeats 1000000 in
theorem partsWalk (A : Option Addr) (cap L N : Nat) (xs : List Nat) (hL : Hid (xs.length = L)) (hN : Hid (leN xs = N)) (hl : L ≤ 10000) (w : World) (P : Hid (Pol w A cap xs)) :
    Calls Tryd.prog 8 #[.slice A L cap] w (AnsB (bitsOf N) w) := by
  obtain ⟨i0, hi, hz0, hz1, hz2⟩ := info_parts infoI
  have HI := Lib.hid hi
  have HZ0 := Lib.hid hz0
  have HZ1 := Lib.hid hz1
  have HZ2 := Lib.hid hz2
  clear hi hz0 hz1 hz2
  go_enter Tryd.func8, Tryd.ntmps8
  go_wp2
  go_loopg [3, 4] L (fun g v i wr => ∃ k : Nat, k + g = L ∧ i = .int .i64 k ∧ Hid (Grow w v (wbits (xs.take k)) wr))
  case atStart => exact ⟨0, by omega, rfl, Lib.hid (Grow.start w)⟩
  case round =>
    obtain ⟨k, hk, rfl, GR⟩ := hrel
    by_cases hlt : k < L
    · have kl : (k : Int) < (L : Int) := by omega
      have k0 : (0 : Int) ≤ (k : Int) := by omega
      obtain ⟨b, o, rfl, hc⟩ := (P.out.below GR.out.below).cell k (by rw [hL.out]; exact hlt)
      have hx := P.out.word.get k
      have W := Lib.hid (wbits_take xs k (by rw [hL.out]; exact hlt))
      have ln : (wbits (xs.take k)).length = 64 * k := by rw [wbits_length, List.length_take, hL.out]; omega
      have LN := Lib.hid ln
      clear ln
      generalize xs.getD k 0 = x at hc hx W
      go_wp2_with fail
      refine (rBitsAt x hx _).mono ?_
      rintro e w1 ⟨b1, o1, c1, rfl, L1, hb⟩
      have G1 := Lib.hid (GR.out.far hb)
      have HL1 := Lib.hid L1
      have T1 := Lib.hid (List.take_length (l := bitsK 64 x))
      rw [bitsK_length] at T1
      have S1 := G1.out.below.size
      clear hb L1
      go_wp2_with (at_builtin; refine wpList_append_own _ rfl _ _ 26 rfl w.heap.size 3 i0 (.int .i64 0) 1 8 Tryd.underlying26 HI.out HZ0.out HZ1.out HZ2.out rfl (by decide) _ _ _ rfl G1.out.own ⟨b1, o1, none⟩ 64 c1 (ints (bitsK 64 x)) rfl (by rw [List.length_map, bitsK_length]) (by have q := HL1.out.news 64; rw [T1.out] at q; exact q) (one_ints _) (by rw [LN.out]; unfold maxLen; omega) (by rw [LN.out]; omega) S1 ?_; intro v w2 hown hgrow _; have G2 := Lib.hid (G1.out.step (bts_bitsK 64 x) (by rw [bitsK_length]; exact hown) hgrow); rw [← W.out] at G2; clear hown hgrow)
      go_roundg (gk - 1)
      case measure => omega
      case rel => exact ⟨k + 1, by omega, by go_num, G2⟩
    · obtain rfl : k = L := by omega
      have kl : ¬ ((k : Int) < (k : Int)) := by omega
      have e : leB (wbits (xs.take k)) = N := by
        rw [← hL.out, List.take_length, leB_wbits xs P.out.word]; exact hN.out
      have ln : (wbits (xs.take k)).length ≤ 1000000 := by rw [wbits_length, List.length_take, hL.out]; omega
      obtain ⟨A', c', rfl, l⟩ := GR.out.lst
      have T := Lib.hid (rTrim N l rfl e ln)
      clear e ln
      go_wp2_with (go_at_call 24; ((with_reducible refine (T.out).mono ?_); rintro e w1 ⟨A1, c1, rfl, l1, hb⟩))
      go_ret
      exact ⟨A1, c1, rfl, l1, below_then GR.out.below hb⟩
theorem rParts {A : Option Addr} {cap L : Nat} {xs : List Nat} {w : World} (N : Nat) (P : Pol w A cap xs) (hL : xs.length = L) (hN : leN xs = N) (hl : L ≤ 10000) :
    Calls Tryd.prog 8 #[.slice A L cap] w (AnsB (bitsOf N) w) := partsWalk A cap L N xs (Lib.hid hL) (Lib.hid hN) hl w (Lib.hid P)
end Go.Proofs.YtfpbfibnkknhdaaDoor
