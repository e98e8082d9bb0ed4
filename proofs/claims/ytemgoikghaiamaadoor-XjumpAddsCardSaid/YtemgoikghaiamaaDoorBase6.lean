/-
  Part 6 of what the statements of this seat stand on: XxjS XxjK XxjP BrA XshB XshC XjR XxjQ XxjV XxjU XshP.
-/
import Derived.Test.YtemgoikghaiamaaDoorBase2
import Derived.Test.YtemgoikghaiamaaDoorBase3
import Derived.Test.YtemgoikghaiamaaDoorBase4
import Derived.Test.YtemgoikghaiamaaDoorBase5
import Derived.Deep.RegionHeld3
import Derived.Test.YtemgoikghaiamaaDoorBase1
import Derived.Deep.OwnRows
import Derived.Deep.DeepCutAuto
import Derived.Deep.RegionWith
import Derived.Laws.IdiomArrays
/-
  A state of four words and its number of 256 bits: steps, sums and polynomials of states are those of numbers.
-/
namespace Go.Proofs.YtemgoikghaiamaaDoor
open Go.RowKit G
set_option linter.unusedVariables false

def pkS (s : St) : Nat := pk s.a s.b s.c s.d
theorem pkS_zero : pkS St.zero = 0 := by unfold pkS St.zero pk; simp
theorem pkS_add (s t : St) : pkS (addS s t) = pkS s ^^^ pkS t := pk_xor _ _ _ _ _ _ _ _
theorem pkS_lt {s : St} (h : s.Ok) : pkS s < 2 ^ 256 := pk_lt h.a h.b h.c h.d
/-- The bits of a number of four words. -/
theorem pk_bit {a b c d : Nat} (ha : a < 2 ^ 64) (hb : b < 2 ^ 64) (hc : c < 2 ^ 64) (hd : d < 2 ^ 64) (i r : Nat) (hr : r < 64) :
    (pk a b c d).testBit (64 * i + r) = if i = 0 then a.testBit r else if i = 1 then b.testBit r else if i = 2 then c.testBit r else if i = 3 then d.testBit r else false := by
  have out : ∀ x, x < 2 ^ 64 → ∀ k, 64 ≤ k → x.testBit k = false := fun x hx k hk => bit_word hx hk
  unfold pk
  rw [Nat.testBit_xor, Nat.testBit_xor, Nat.testBit_xor, bit_shift, bit_shift, bit_shift]
  by_cases h0 : i = 0
  · subst h0
    rw [if_pos rfl, Nat.mul_zero, Nat.zero_add, decide_eq_false (show ¬ 64 ≤ r by omega), decide_eq_false (show ¬ 128 ≤ r by omega), decide_eq_false (show ¬ 192 ≤ r by omega)]
    simp
  · rw [if_neg h0, out a ha _ (by omega)]
    by_cases h1 : i = 1
    · subst h1
      rw [if_pos rfl, decide_eq_true (show 64 ≤ 64 * 1 + r by omega), decide_eq_false (show ¬ 128 ≤ 64 * 1 + r by omega), decide_eq_false (show ¬ 192 ≤ 64 * 1 + r by omega), show 64 * 1 + r - 64 = r by omega]
      simp
    · rw [if_neg h1, out b hb _ (by omega)]
      by_cases h2 : i = 2
      · subst h2
        rw [if_pos rfl, decide_eq_true (show 128 ≤ 64 * 2 + r by omega), decide_eq_false (show ¬ 192 ≤ 64 * 2 + r by omega), show 64 * 2 + r - 128 = r by omega]
        simp
      · rw [if_neg h2, out c hc _ (by omega)]
        by_cases h3 : i = 3
        · subst h3
          rw [if_pos rfl, decide_eq_true (show 192 ≤ 64 * 3 + r by omega), show 64 * 3 + r - 192 = r by omega]
          simp
        · rw [if_neg h3, out d hd _ (by omega)]
          simp
theorem wd_of_bits {x y i : Nat} (hy : y < 2 ^ 64) (h : ∀ r, r < 64 → x.testBit (64 * i + r) = y.testBit r) : wd i x = y := by
  refine Nat.eq_of_testBit_eq (fun r => ?_)
  unfold wd
  rw [show (18446744073709551616 : Nat) = 2 ^ 64 from rfl, Nat.testBit_mod_two_pow, Nat.testBit_div_two_pow]
  by_cases hr : r < 64
  · rw [decide_eq_true hr, Nat.add_comm, h r hr]; rfl
  · rw [decide_eq_false hr, bit_word hy (by omega)]; rfl
theorem wd_pk {s : St} (h : s.Ok) : wd 0 (pkS s) = s.a ∧ wd 1 (pkS s) = s.b ∧ wd 2 (pkS s) = s.c ∧ wd 3 (pkS s) = s.d := by
  refine ⟨wd_of_bits h.a (fun r hr => ?_), wd_of_bits h.b (fun r hr => ?_), wd_of_bits h.c (fun r hr => ?_), wd_of_bits h.d (fun r hr => ?_)⟩ <;>
    (unfold pkS; rw [pk_bit h.a h.b h.c h.d _ r hr]; rfl)
theorem pkS_inj {s t : St} (h : s.Ok) (k : t.Ok) (e : pkS s = pkS t) : s = t := by
  obtain ⟨a, b, c, d⟩ := wd_pk h
  obtain ⟨a', b', c', d'⟩ := wd_pk k
  rw [e] at a b c d
  exact St.same (a.symm.trans a') (b.symm.trans b') (c.symm.trans c') (d.symm.trans d')
theorem tn_rot {x : Nat} (h : x < 18446744073709551616) : tn 45 x = rot45 x := by
  refine Nat.eq_of_testBit_eq (fun i => ?_)
  have e := sl_bit 45 x i
  unfold sl at e
  rw [tn_bit (by decide) (by decide) h]
  unfold rot45
  rw [Nat.testBit_xor, e, Nat.testBit_div_two_pow]
  by_cases i0 : i < 64
  · by_cases i1 : 45 ≤ i
    · rw [if_pos i1, bit_word h (i := i + 19) (by omega)]
      simp [i0, i1]
    · rw [if_neg i1, show 64 - 45 + i = i + 19 by omega]
      simp [i0, i1]
  · rw [bit_word h (i := i + 19) (by omega)]
    simp [i0]
theorem pkS_step {s : St} (h : s.Ok) : pkS (stepS s) = stp (pkS s) := by
  obtain ⟨a, b, c, d⟩ := wd_pk h
  unfold stp nxt
  rw [a, b, c, d]
  unfold pkS stepS
  rw [← tn_rot (word_xor h.d h.b)]
  rfl
theorem pkS_iter {s : St} (h : s.Ok) : ∀ n, pkS (iterS s n) = itr n (pkS s)
  | 0 => rfl
  | n + 1 => by
    show pkS (stepS (iterS s n)) = stp (itr n (pkS s))
    rw [pkS_step (h.iter n), pkS_iter h n]
theorem pkS_at (N : Nat) {s : St} (h : s.Ok) : ∀ n, pkS (atS N s n) = actN N (pkS s) n
  | 0 => pkS_zero
  | n + 1 => by
    unfold atS
    rw [actN, Nat.testBit_eq_decide_div_mod_eq]
    by_cases hb : N / 2 ^ n % 2 = 1
    · rw [if_pos hb, pkS_add, pkS_at N h n, pkS_iter h n, decide_eq_true hb]; rfl
    · rw [if_neg hb, pkS_at N h n, decide_eq_false hb]; exact (Nat.xor_zero _).symm
/-- A polynomial of a state. -/
def polS (N : Nat) (s : St) : St := atS N s (len N)
theorem polS_ok (N : Nat) {s : St} (h : s.Ok) : (polS N s).Ok := atS_ok N s h _
theorem polS_pk (N : Nat) {s : St} (h : s.Ok) : pkS (polS N s) = act N (pkS s) := pkS_at N h _
theorem polS_rule {s : St} (h : s.Ok) : polS rP s = St.zero := pkS_inj (polS_ok rP h) St.Ok.zero (by rw [polS_pk rP h, rule_all (pkS_lt h), pkS_zero])
theorem polS_rest (N : Nat) {s : St} (h : s.Ok) : polS (rt N rP) s = polS N s := pkS_inj (polS_ok _ h) (polS_ok _ h) (by rw [polS_pk _ h, polS_pk _ h, act_rt (pkS_lt h)])
theorem polS_steps (n : Nat) {s : St} (h : s.Ok) : polS (pr 2 n rP) s = iterS s n := pkS_inj (polS_ok _ h) (h.iter n) (by rw [polS_pk _ h, jump_steps (pkS_lt h), pkS_iter h])
theorem steps_apart {s : St} (h : s.Ok) (h0 : s ≠ St.zero) {m n : Nat} (hmn : m < n) (hn : n ≤ 340282366920938463463374607431768211456) : iterS s m ≠ iterS s n := fun e =>
  apart (pkS_lt h) (fun z => h0 (pkS_inj h St.Ok.zero (by rw [z, pkS_zero]))) hmn hn (by rw [← pkS_iter h, ← pkS_iter h, e])
end Go.Proofs.YtemgoikghaiamaaDoor
/-
  What the calls of package xjump answer, as the statements of layer 8 need it: said here, shown of the program elsewhere.
-/
namespace Go.Proofs.YtemgoikghaiamaaDoor
open Go.RowKit G
set_option linter.unusedVariables false

/-- An answer that is a state and an error's number. -/
def AnsSE (s : St) (k : Int) (w : World) (e : Ending) (w' : World) : Prop := e = .returned (.tuple #[s.val, .int .i64 k]) ∧ Below w.heap.size w w'
structure JX : Prop where
  jumpY : ∀ (s : St) (h l : Int) (n : Nat) (W : World), s.Ok → s ≠ St.zero → Wn h l n → Tab W → Calls Tryd.prog 9 #[s.val, .agg #[.int .u64 h, .int .u64 l]] W (AnsSE (iterS s n) 0 W)
  jumpZ : ∀ (h l : Int) (n : Nat) (W : World), Wn h l n → Tab W → Calls Tryd.prog 9 #[St.zero.val, .agg #[.int .u64 h, .int .u64 l]] W (AnsSE St.zero 3 W)
  powY : ∀ (s : St) (n : Nat) (W : World), s.Ok → s ≠ St.zero → n ≤ 2048 → Tab W → Calls Tryd.prog 10 #[s.val, .int .i64 (n : Int)] W (AnsSE (iterS s (2 ^ n)) 0 W)
  powA : ∀ (s : St) (n : Int) (W : World), s.Ok → s ≠ St.zero → n < 0 ∨ 2048 < n → Tab W → Calls Tryd.prog 10 #[s.val, .int .i64 n] W (AnsSE St.zero 1 W)
  powZ : ∀ (n : Int) (W : World), Tab W → Calls Tryd.prog 10 #[St.zero.val, .int .i64 n] W (AnsSE St.zero 3 W)
  at_ : ∀ (s : St) (A : Option Addr) (ca L : Nat) (xs : List Nat) (W : World), s.Ok → Pol W A ca xs → xs.length = L → L ≤ 1000 → Tab W → Calls Tryd.prog 11 #[.slice A L ca, s.val] W (AnsS (polS (leN xs) s) W)
  rule : ∀ (W : World), Tab W → Calls Tryd.prog 22 #[] W (Ans rP W)
  poly : ∀ (h l : Int) (n : Nat) (W : World), Wn h l n → Tab W → Calls Tryd.prog 31 #[.agg #[.int .u64 h, .int .u64 l]] W (Ans (pr 2 n rP) W)
/-- Behind a call that tells a state and an error: the state is laid. -/
def CutJ (W0 : World) (Y : St) (k : Int) (p e : Value) (wr : World) : Prop := ∃ b, p = .pointer (some ⟨b, 0, none⟩) ∧ e = .int .i64 k ∧ Bx 24 wr b Y ∧ Below W0.heap.size W0 wr
theorem CutJ.of {W0 x : World} {Y : St} {k : Int} (hb : Below W0.heap.size W0 x) : CutJ W0 Y k (.pointer (some ⟨x.heap.size, 0, none⟩)) (.int .i64 k) (x.alloc (.cells #[.int .u64 (Y.a : Int), .int .u64 (Y.b : Int), .int .u64 (Y.c : Int), .int .u64 (Y.d : Int)] 24)) :=
  ⟨x.heap.size, rfl, rfl, Bx.new x Y _, below_alloc hb _⟩
end Go.Proofs.YtemgoikghaiamaaDoor
/-
  What the call At of package xjump answers: a polynomial of a state.
-/
namespace Go.Proofs.YtemgoikghaiamaaDoor
open Go.RowKit G
set_option linter.unusedVariables false
set_option maxRecDepth 100000

set_option maxHeartbeats 8000000 in
theorem xAt (s : St) (hs : s.Ok) (N L : Nat) (A : Option Addr) (ca : Nat) (xs : List Nat) (w : World) (P : Pol w A ca xs) (hL : xs.length = L) (hl : L ≤ 1000) (hN : leN xs = N) : Calls Tryd.prog 11 #[.slice A L ca, s.val] w (AnsS (atS N s (len N)) w) := by
  have TN := Lib.hid (three_new w s 24)
  have HS := Lib.hid hs
  have HP := Lib.hid P
  have CD : Hid (∀ w', Below w.heap.size w w' → Calls Tryd.prog 29 #[.slice A L ca] w' (fun e w2 => e = .returned (.int .i64 ((len N : Int) - 1)) ∧ w' = w2)) := Lib.hid (fun w' hb => by
    have := gDeg ((len N : Int) - 1) (HP.out.below hb) hL (by rw [hN]) (by omega)
    exact this)
  have CB : Hid (∀ (k : Nat) (y : Int) (w' : World), Below w.heap.size w w' → ((N / 2 ^ k % 2 : Nat) : Int) = y → k ≤ 9223372036854775807 → Calls Tryd.prog 32 #[.slice A L ca, .int .i64 (k : Int)] w' (fun e w2 => e = .returned (.int .i64 y) ∧ w' = w2)) := Lib.hid (fun k y w' hb hy hk => by
    have := gBit k y (HP.out.below hb) hL (by rw [hN]; exact hy) hk
    exact this)
  have hLN : len N ≤ 64000 := by
    have h1 := leN_lt xs P.1
    have h2 := len_le h1
    rw [hN] at h2
    omega
  clear hs P hN HP hL hl
  have L2 : Hid (Below w.heap.size w ((w.alloc (.cells #[.int .u64 (s.a : Int), .int .u64 (s.b : Int), .int .u64 (s.c : Int), .int .u64 (s.d : Int)] 24)).alloc (.cells #[.int .u64 0, .int .u64 0, .int .u64 0, .int .u64 0] 24))) := Lib.hid (below_alloc (below_alloc (Below.refl _ _) _) _)
  obtain ⟨M, hM⟩ : ∃ M : Int, M = (len N : Int) - 1 := ⟨_, rfl⟩
  have HM := Lib.hid hM
  rw [← hM] at CD
  clear hM
  go_enter Tryd.func11, Tryd.ntmps11
  go_wp2_with fail
  go_step3
  go_wp2_with fail
  refine (CD.out _ L2.out).mono ?_
  rintro e w2 ⟨rfl, rfl⟩
  clear CD L2
  go_wp2_with fail
  go_step3
  go_wp2_with fail
  generalize World.alloc (World.alloc (World.alloc w _) _) _ = W1 at TN ⊢
  have F0 : Hid (Bx 24 W1 w.heap.size (iterS s 0) ∧ Bx 24 W1 (w.heap.size + 1) St.zero ∧ Bx 24 W1 (w.heap.size + 1 + 1) (atS N s 0) ∧ Below w.heap.size w W1) := TN
  clear TN
  go_loopg [7] (len N) (fun g z wr => ∃ j : Nat, j + g = len N ∧ z = .int .i64 j ∧ Hid (Bx 24 wr w.heap.size (iterS s j) ∧ Bx 24 wr (w.heap.size + 1) St.zero ∧ Bx 24 wr (w.heap.size + 1 + 1) (atS N s j) ∧ Below w.heap.size w wr))
  case atStart => exact ⟨0, by omega, rfl, F0⟩
  case round =>
    obtain ⟨j, hg, rfl, F⟩ := hrel
    clear F0
    have k0 : (0 : Int) ≤ (j : Int) := by omega
    by_cases hlt : j < len N
    · have kl : ¬ ((j : Int) > M) := by have := HM.out; omega
      have HB := Lib.hid hlt
      have jb : j ≤ 9223372036854775807 := by omega
      clear hlt
      rcases Nat.mod_two_eq_zero_or_one (N / 2 ^ j) with hm | hm
      · have EA := Lib.hid (show atS N s (j + 1) = atS N s j by rw [atS, hm]; rfl)
        have CC := Lib.hid (CB.out j 0 wr F.out.2.2.2 (by rw [hm]; rfl) jb)
        clear hm
        have CS := Lib.hid (fun W => xStep (iterS s j) (HS.out.iter j) W)
        have E2 := Lib.hid (show iterS s (j + 1) = stepS (iterS s j) from rfl)
        generalize hI : iterS s j = I0 at CS E2 F
        clear hI
        generalize stepS I0 = T at CS E2
        obtain ⟨i0, i1, i2, i3⟩ := I0
        obtain ⟨t0, t1, t2, t3⟩ := T
        obtain ⟨p0, p1, p2, p3⟩ := F.out.1.cells
        go_wp2_with fail
        refine (CC.out).mono ?_
        rintro e w4 ⟨rfl, rfl⟩
        clear CC
        go_wp2_with fail
        refine (CS.out _).mono ?_
        rintro e w5 ⟨rfl, hb⟩
        clear CS p0 p1 p2 p3
        have K5 := Lib.hid (And.intro (F.out.1.below hb) (And.intro (F.out.2.1.below hb) (And.intro (F.out.2.2.1.below hb) (below_then F.out.2.2.2 hb))))
        clear hb F
        obtain ⟨c0, c1, c2, c3⟩ := K5.out.1.cells
        obtain ⟨f0, f1, f2, f3⟩ := K5.out.1.free
        go_wp2_with fail
        go_roundg (gk - 1)
        case measure => have := HB.out; omega
        case rel => exact ⟨j + 1, by have := HB.out; omega, by go_num, Lib.hid ⟨by rw [E2.out]; exact K5.out.1.put ⟨t0, t1, t2, t3⟩, K5.out.2.1.far4 (by omega) _ _ _ _, by rw [EA.out]; exact K5.out.2.2.1.far4 (by omega) _ _ _ _, below_put K5.out.2.2.2 (Nat.le_refl _)⟩⟩
      · have EA := Lib.hid (show atS N s (j + 1) = addS (atS N s j) (iterS s j) by rw [atS, hm]; rfl)
        have CC := Lib.hid (CB.out j 1 wr F.out.2.2.2 (by rw [hm]; rfl) jb)
        clear hm
        have CA := Lib.hid (fun W => xAdd (atS N s j) (iterS s j) (atS_ok N s HS.out j) (HS.out.iter j) W)
        have CS := Lib.hid (fun W => xStep (iterS s j) (HS.out.iter j) W)
        have E2 := Lib.hid (show iterS s (j + 1) = stepS (iterS s j) from rfl)
        generalize hA : addS (atS N s j) (iterS s j) = A1 at CA EA
        generalize hI : iterS s j = I0 at CS E2 CA F
        generalize hO : atS N s j = O at CA F
        clear hI hO hA
        generalize stepS I0 = T at CS E2
        obtain ⟨i0, i1, i2, i3⟩ := I0
        obtain ⟨t0, t1, t2, t3⟩ := T
        obtain ⟨o0, o1, o2, o3⟩ := O
        obtain ⟨a0, a1, a2, a3⟩ := A1
        obtain ⟨p0, p1, p2, p3⟩ := F.out.1.cells
        obtain ⟨c0, c1, c2, c3⟩ := F.out.2.2.1.cells
        go_wp2_with fail
        refine (CC.out).mono ?_
        rintro e w3 ⟨rfl, rfl⟩
        clear CC
        go_wp2_with fail
        refine (CA.out _).mono ?_
        rintro e w4 ⟨rfl, hb⟩
        clear CA p0 p1 p2 p3 c0 c1 c2 c3
        have G4 := Lib.hid (And.intro (F.out.1.below hb) (And.intro (F.out.2.1.below hb) (And.intro (F.out.2.2.1.below hb) (below_then F.out.2.2.2 hb))))
        clear F hb
        obtain ⟨c0, c1, c2, c3⟩ := G4.out.2.2.1.cells
        obtain ⟨f0, f1, f2, f3⟩ := G4.out.2.2.1.free
        go_upto_region 7 with fail
        have G5 := Lib.hid (And.intro (G4.out.1.far4 (x := w.heap.size + 1 + 1) (by omega) (.int .u64 (a0 : Int)) (.int .u64 (a1 : Int)) (.int .u64 (a2 : Int)) (.int .u64 (a3 : Int))) (And.intro (G4.out.2.1.far4 (x := w.heap.size + 1 + 1) (by omega) (.int .u64 (a0 : Int)) (.int .u64 (a1 : Int)) (.int .u64 (a2 : Int)) (.int .u64 (a3 : Int))) (And.intro (G4.out.2.2.1.put ⟨a0, a1, a2, a3⟩) (below_put (b := w.heap.size + 1 + 1) (x := .int .u64 (a0 : Int)) (y := .int .u64 (a1 : Int)) (z := .int .u64 (a2 : Int)) (u := .int .u64 (a3 : Int)) G4.out.2.2.2 (by omega)))))
        clear G4 c0 c1 c2 c3 f0 f1 f2 f3
        generalize World.setCell (World.setCell (World.setCell (World.setCell w4 _ _) _ _) _ _) _ _ = V4 at G5 ⊢
        obtain ⟨p0, p1, p2, p3⟩ := G5.out.1.cells
        go_wp2_with fail
        refine (CS.out _).mono ?_
        rintro e w5 ⟨rfl, hb⟩
        clear CS p0 p1 p2 p3
        have K5 := Lib.hid (And.intro (G5.out.1.below hb) (And.intro (G5.out.2.1.below hb) (And.intro (G5.out.2.2.1.below hb) (below_then G5.out.2.2.2 hb))))
        clear hb G5
        obtain ⟨c0, c1, c2, c3⟩ := K5.out.1.cells
        obtain ⟨f0, f1, f2, f3⟩ := K5.out.1.free
        go_wp2_with fail
        go_roundg (gk - 1)
        case measure => have := HB.out; omega
        case rel => exact ⟨j + 1, by have := HB.out; omega, by go_num, Lib.hid ⟨by rw [E2.out]; exact K5.out.1.put ⟨t0, t1, t2, t3⟩, K5.out.2.1.far4 (by omega) _ _ _ _, by rw [EA.out]; exact K5.out.2.2.1.far4 (by omega) _ _ _ _, below_put K5.out.2.2.2 (Nat.le_refl _)⟩⟩
    · obtain rfl : j = len N := by omega
      have kl : ((len N : Nat) : Int) > M := by have := HM.out; omega
      clear hlt
      obtain ⟨B1, B2, B3, L⟩ := F.out
      generalize hO : atS N s (len N) = O at B3
      have HO := Lib.hid hO
      clear hO B1 F
      obtain ⟨o0, o1, o2, o3⟩ := O
      obtain ⟨p0, p1, p2, p3⟩ := B3.cells
      clear B3
      have R := B2.put ⟨o0, o1, o2, o3⟩
      obtain ⟨r0, r1, r2, r3⟩ := R.cells
      have LL := below_put (x := .int .u64 (o0 : Int)) (y := .int .u64 (o1 : Int)) (z := .int .u64 (o2 : Int)) (u := .int .u64 (o3 : Int)) L (Nat.le_succ w.heap.size)
      have HL := Lib.hid (And.intro LL (And.intro r0 (And.intro r1 (And.intro r2 r3))))
      obtain ⟨z0, z1, z2, z3⟩ := B2.cells
      obtain ⟨f0, f1, f2, f3⟩ := B2.free
      simp only [St.zero] at z0 z1 z2 z3
      clear R LL r0 r1 r2 r3 B2 L
      go_wp2_with fail
      generalize World.setCell (World.setCell (World.setCell (World.setCell wr _ _) _ _) _ _) _ _ = V at HL ⊢
      obtain ⟨LL, r0, r1, r2, r3⟩ := HL.out
      clear HL z0 z1 z2 z3
      try simp only [Exit.inBlock, Exit.then, Exit.noGoto]
      refine bodyPost_ret (by simp [results, Tryd.results11, go_sem, r0, r1, r2, r3]; try rfl) rfl ?_
      exact ⟨by rw [HO.out], LL⟩
end Go.Proofs.YtemgoikghaiamaaDoor
/-
  Lists of bools, where massey is: all of it stands in MsyF and what it imports.
-/
namespace Go.Proofs.YtemgoikghaiamaaDoor
end Go.Proofs.YtemgoikghaiamaaDoor
/-
  What the calls Words and Bits of package xosh answer, for all states and numbers.
-/
namespace Go.Proofs.YtemgoikghaiamaaDoor
open Go.RowKit G
set_option linter.unusedVariables false

/-- What a loop keeps that steps a caught state and fills a new list: the state, the list's cells; what was there is as it was. -/
structure KSt (w : World) (b g n : Nat) (T : TypeId) (s : St) (F : Nat → Value) (wr : World) : Prop where
  bx : Bx 24 wr b s
  row : wr.rowIs g T n F
  below : Below w.heap.size w wr
  hb : w.heap.size ≤ b
  hg : w.heap.size ≤ g
  ne : b ≠ g
theorem KSt.next {w wr w' : World} {b g n : Nat} {T : TypeId} {s s' : St} {F : Nat → Value} (h : KSt w b g n T s F wr) (hx : Bx 24 w' b s') (hb : But1 b wr w') : KSt w b g n T s' F w' :=
  ⟨hx, World.rowIs.of_block h.row (hb.block g (World.rowIs.lt h.row) (Ne.symm h.ne)), h.below.trans (hb.low h.hb h.below.size), h.hb, h.hg, h.ne⟩
theorem KSt.far {w wr w' : World} {b g n : Nat} {T : TypeId} {s : St} {F : Nat → Value} (h : KSt w b g n T s F wr) (hb : Below wr.heap.size wr w') : KSt w b g n T s F w' :=
  ⟨h.bx.below hb, World.rowIs.of_block h.row (hb.block g (World.rowIs.lt h.row)), below_then h.below hb, h.hb, h.hg, h.ne⟩
theorem KSt.set {w wr : World} {b g n : Nat} {T : TypeId} {s : St} {F : Nat → Value} (h : KSt w b g n T s F wr) (i : Nat) (v : Value) {G : Nat → Value} (e : ∀ j, j < n → (if j = i then v else F j) = G j) : KSt w b g n T s G (wr.setCell ⟨g, i, none⟩ v) :=
  ⟨h.bx.far (by show b ≠ g; exact h.ne) v, (World.rowIs.set h.row i v).congr e, h.below.setCell h.hg v, h.hb, h.hg, h.ne⟩
/-- The words so far. -/
def fW (us : List Nat) (i : Nat) : Value := .int .u64 ((us.getD i 0 : Nat) : Int)
def fB (us : List Bool) (i : Nat) : Value := .bool (us.getD i false)
theorem getD_next {α : Type} (us : List α) (x z : α) (i : Nat) : (us ++ [x]).getD i z = if i = us.length then x else us.getD i z := by
  simp only [List.getD_eq_getElem?_getD, List.getElem?_append]
  by_cases h : i < us.length
  · rw [if_pos h, if_neg (by omega)]
  · rw [if_neg h]
    by_cases e : i = us.length
    · subst e; simp
    · rw [if_neg e, List.getElem?_eq_none (by simp; omega), List.getElem?_eq_none (by omega)]
theorem fW_next (us : List Nat) (x k : Nat) (hk : us.length = k) (j : Nat) : (if j = k then .int .u64 (x : Int) else fW us j) = fW (us ++ [x]) j := by
  subst hk
  unfold fW
  rw [getD_next]
  split <;> rfl
theorem fB_next (us : List Bool) (x : Bool) (k : Nat) (hk : us.length = k) (j : Nat) : (if j = k then .bool x else fB us j) = fB (us ++ [x]) j := by
  subst hk
  unfold fB
  rw [getD_next]
  split <;> rfl
theorem KSt.pol {w wr : World} {b g n : Nat} {s : St} {us : List Nat} (h : KSt w b g n 22 s (fW us) wr) (hl : us.length = n) (hw : Wds us) (hn : n ≤ 9223372036854775807) : Pol wr (some ⟨g, 0, none⟩) n us :=
  ⟨hw, by omega, hn, fun i hi => ⟨g, 0, rfl, by rw [Nat.zero_add]; exact World.rowIs.cell h.row (by omega)⟩⟩
theorem KSt.polOff {w wr : World} {b g n x : Nat} {s : St} {us : List Nat} (h : KSt w b g n 22 s (fW us) wr) (hl : us.length = n) (hw : Wds us) (hn : n ≤ 9223372036854775807) (hx : g ≠ x) (u v y z : Value) : Pol ((((wr.setCell ⟨x, 0, none⟩ u).setCell ⟨x, 1, none⟩ v).setCell ⟨x, 2, none⟩ y).setCell ⟨x, 3, none⟩ z) (some ⟨g, 0, none⟩) n us :=
  ⟨hw, by omega, hn, fun i hi => ⟨g, 0, rfl, by rw [Nat.zero_add]; exact World.rowIs.cell (World.rowIs.setOther (World.rowIs.setOther (World.rowIs.setOther (World.rowIs.setOther h.row (a := ⟨x, 0, none⟩) hx u) (a := ⟨x, 1, none⟩) hx v) (a := ⟨x, 2, none⟩) hx y) (a := ⟨x, 3, none⟩) hx z) (by omega)⟩⟩
theorem KSt.brs {w wr : World} {b g n : Nat} {s : St} {us : List Bool} (h : KSt w b g n 4 s (fB us) wr) (hl : us.length = n) (hn : n ≤ 9223372036854775807) : Brs wr (some ⟨g, 0, none⟩) n us :=
  ⟨by omega, hn, fun i hi => ⟨g, 0, rfl, by rw [Nat.zero_add]; exact World.rowIs.cell h.row (by omega)⟩⟩
/-- Once the state is caught and the list is made: in either order. -/
def CutK (w : World) (n : Nat) (T : TypeId) (s : St) (F : Nat → Value) (f v : Value) (wr : World) : Prop :=
  ∃ b g, f = .func (.func 64) #[] #[.pointer (some ⟨b, 0, none⟩)] ∧ v = .slice (some ⟨g, 0, none⟩) n n ∧ KSt w b g n T s F wr
theorem CutK.first {w W x : World} {n bB : Nat} {T : TypeId} {s : St} {F : Nat → Value} (z : Value) (hF : ∀ j, j < n → z = F j) (hB : Below w.heap.size w W) (e : W.heap.size ≤ bB) (B : Bx 24 x bB s) (hb : Below W.heap.size W x) :
    CutK w n T s F (.func (.func 64) #[] #[.pointer (some ⟨bB, 0, none⟩)]) (.slice (some ⟨x.heap.size, 0, none⟩) n n) (x.alloc (.cells (madeCells #[z] n) T)) :=
  ⟨bB, x.heap.size, rfl, rfl, B.alloc _, (World.rowIs_made x z n T).congr hF, below_alloc (below_then hB hb) _, Nat.le_trans hB.size e, (below_then hB hb).size, Nat.ne_of_lt B.lt⟩
theorem below_undrew {B : Nat} {w w' : World} (h : Below B w.drew w') : Below B w w' := ⟨h.os, h.tape, h.output, h.size, h.block⟩
theorem CutK.last {w W x : World} {n : Nat} {T : TypeId} {s : St} {F : Nat → Value} (z : Value) (hF : ∀ j, j < n → z = F j) (hB : Below w.heap.size w W) (B : Bx 24 x (W.alloc (.cells (madeCells #[z] n) T)).heap.size s) (hb : Below (W.alloc (.cells (madeCells #[z] n) T)).heap.size (W.alloc (.cells (madeCells #[z] n) T)) x) :
    CutK w n T s F (.func (.func 64) #[] #[.pointer (some ⟨W.heap.size + 1, 0, none⟩)]) (.slice (some ⟨W.heap.size, 0, none⟩) n n) x := by
  have hs : (W.alloc (.cells (madeCells #[z] n) T)).heap.size = W.heap.size + 1 := Array.size_push _
  have R := (World.rowIs_made W z n T).congr hF
  have L := below_then (below_alloc hB _) hb
  rw [hs] at B hb
  exact ⟨W.heap.size + 1, W.heap.size, rfl, rfl, B, World.rowIs.of_block R (hb.block _ (Nat.lt_succ_self _)), L, by have := hB.size; omega, hB.size, by omega⟩
/-- The answer of Words: a list, the state behind it, and OK. -/
def AnsRS (xs : List Nat) (s : St) (w : World) (e : Ending) (w' : World) : Prop := ∃ (a : Addr) (cap : Nat), e = .returned (.tuple #[.slice (some a) xs.length cap, s.val, .int .i64 0]) ∧ Pol w' (some a) cap xs ∧ Below w.heap.size w w'
/-- No words, and why. -/
def NoS (n : Int) (w : World) (e : Ending) (w' : World) : Prop := e = .returned (.tuple #[.slice none 0 0, St.zero.val, .int .i64 n]) ∧ Below w.heap.size w w'
end Go.Proofs.YtemgoikghaiamaaDoor
/-
  What the call Bits of package xosh answers, for all states and numbers.
-/
namespace Go.Proofs.YtemgoikghaiamaaDoor
open Go.RowKit G
set_option linter.unusedVariables false

theorem bit_and {s : St} {m : Nat} (h : s.Ok) (hm : s.a % 2 = m) : bits .and .u64 (s.a : Int) 1 = (m : Int) := by
  have := u64_and_nat s.a 1 h.a (by decide)
  rw [Nat.and_one_is_mod, hm] at this
  exact this
/-- No bits, and why. -/
def NoB (n : Int) (w : World) (e : Ending) (w' : World) : Prop := e = .returned (.tuple #[.slice none 0 0, .int .i64 n]) ∧ Below w.heap.size w w'
/-- The answer of Bits: a list, and OK. -/
def AnsBS (l : List Bool) (w : World) (e : Ending) (w' : World) : Prop := ∃ (A : Option Addr) (cap : Nat), e = .returned (.tuple #[.slice A l.length cap, .int .i64 0]) ∧ Brs w' A cap l ∧ Below w.heap.size w w'
theorem bitsArg (s : St) (many : Int) (h : many < 0 ∨ 2048 < many) (w : World) : Calls Tryd.prog 41 #[s.val, .int .i64 many] w (NoB 1 w) := by
  obtain ⟨a, b, c, d⟩ := s
  go_enter Tryd.func41, Tryd.ntmps41
  by_cases h0 : many < 0
  · clear h
    go_wp2
    go_returns
    exact ⟨rfl, below_alloc (Below.refl _ _) _⟩
  · have h1 : many > 2048 := by omega
    clear h
    go_wp2
    go_returns
    exact ⟨rfl, below_alloc (Below.refl _ _) _⟩
set_option maxHeartbeats 4000000 in
theorem bitsYesW (q : St) (a b c d n : Nat) (hq : Hid (q = ⟨a, b, c, d⟩)) (hs : Hid (∀ k, (iterS q k).Ok)) (hn : n ≤ 2048) (w : World) : Calls Tryd.prog 41 #[.agg #[.int .u64 (a : Int), .int .u64 (b : Int), .int .u64 (c : Int), .int .u64 (d : Int)], .int .i64 n] w (AnsBS (bitsS q n) w) := by
  have CF : Hid (∀ w, Calls Tryd.prog 56 #[.agg #[.int .u64 (a : Int), .int .u64 (b : Int), .int .u64 (c : Int), .int .u64 (d : Int)]] w (fun e w' => e = .returned (.func (.func 64) #[] #[.pointer (some ⟨w.heap.size, 0, none⟩)]) ∧ Bx 24 w' w.heap.size q ∧ Below w.heap.size w w')) := Lib.hid (fun w => by rw [hq.out]; exact xFrom ⟨a, b, c, d⟩ w)
  have HN := Lib.hid (fun k => xNext (iterS q k) (hs.out k))
  have hmk := run_make_row' (P := Tryd.prog) 73 4 (.bool false) 1 Tryd.underlying73 infoB rfl .i64 .i64 n (by omega) (by omega)
  have n0 : ¬ (n : Int) < 0 := by omega
  have n1 : ¬ (n : Int) > 2048 := by omega
  clear hq
  have B1 := Bx.new w ⟨a, b, c, d⟩ 24
  have L1 := below_alloc (Below.refl w.heap.size w) (.cells #[.int .u64 (a : Int), .int .u64 (b : Int), .int .u64 (c : Int), .int .u64 (d : Int)] 24)
  change Bx _ (w.alloc (.cells #[.int .u64 (a : Int), .int .u64 (b : Int), .int .u64 (c : Int), .int .u64 (d : Int)] 24)) _ _ at B1
  have HB := Lib.hid (And.intro B1 L1)
  clear B1 L1
  go_enter Tryd.func41, Tryd.ntmps41
  go_wp2_with fail
  generalize hW : w.alloc _ = w1 at HB ⊢
  clear hW
  obtain ⟨p0, p1, p2, p3⟩ := HB.out.1.cells
  have lt := HB.out.1.lt
  go_cut [6, 7] (CutK w1 n 4 q (fB []))
  case first =>
    go_region_with (go_at_call 56; (with_reducible refine (CF.out _).mono ?_); rintro e x1 ⟨rfl, BX, hb⟩; have HX := Lib.hid (And.intro BX hb); clear BX hb)
    all_goals
      go_wp2_with fail
      go_meet
      first
        | exact CutK.first (W := w1.drew) (.bool false) (fun _ _ => rfl) (Below.refl _ _).drew (Nat.le_refl _) HX.out.1 HX.out.2
        | exact CutK.last (W := w1) (.bool false) (fun _ _ => rfl) (Below.refl _ _) HX.out.1 (below_undrew HX.out.2)
  obtain ⟨bB, g, rfl, rfl, K⟩ := hcut
  have HK := Lib.hid K
  clear K p0 p1 p2 p3 lt
  go_wp2_with fail
  go_loopg [21] n (fun g' i wr => ∃ k : Nat, k + g' = n ∧ i = .int .i64 k ∧ Hid (KSt w1 bB g n 4 (iterS q k) (fB (bitsS q k)) wr))
  case atStart => exact ⟨0, by omega, rfl, HK⟩
  case round =>
    obtain ⟨k, hk, rfl, K⟩ := hrel
    clear HK
    by_cases hlt : k < n
    · have kl : (k : Int) < (n : Int) := by omega
      have k0 : (0 : Int) ≤ (k : Int) := by omega
      rcases Nat.mod_two_eq_zero_or_one (iterS q k).a with hm | hm
      · skip
        have C1 := Lib.hid (HN.out k bB wr K.out.bx)
        have hl := bitsS_len q k
        have E1 := Lib.hid (show bitsS q (k + 1) = bitsS q k ++ [bitS (iterS q k)] from rfl)
        have E2 := Lib.hid (show iterS q (k + 1) = stepS (iterS q k) from rfl)
        have hx : bitS (iterS q k) = false := by unfold bitS; rw [hm]; rfl
        rw [hx] at E1
        have e0 := bit_and (hs.out k) hm
        clear hx hm
        generalize iterS q k = S at C1 E2 K e0
        generalize bitsS q k = us at K hl E1
        generalize stepS S = S' at C1 E2
        obtain ⟨i0, i1, i2, i3⟩ := S
        go_wp2_with fail
        refine (C1.out).mono ?_
        rintro e w2 ⟨rfl, bx2, hb2⟩
        have K3 := Lib.hid (K.out.next bx2 hb2)
        clear bx2 hb2 C1 K
        have I0 := (idx (i0 : Int) i1 i2 i3 w2).1.1
        have c1 := World.rowIs.cell K3.out.row hlt
        have c2 := World.rowIs.frozen K3.out.row k
        have K4 := Lib.hid (K3.out.set k (.bool false) (fun j _ => fB_next us false k hl j))
        clear K3
        generalize fB us k = old at c1
        go_wp2_with fail
        go_roundg (gk - 1)
        case measure => omega
        case rel => exact ⟨k + 1, by omega, by go_num, by rw [E1.out, E2.out]; exact K4⟩
      · skip
        have C1 := Lib.hid (HN.out k bB wr K.out.bx)
        have hl := bitsS_len q k
        have E1 := Lib.hid (show bitsS q (k + 1) = bitsS q k ++ [bitS (iterS q k)] from rfl)
        have E2 := Lib.hid (show iterS q (k + 1) = stepS (iterS q k) from rfl)
        have hx : bitS (iterS q k) = true := by unfold bitS; rw [hm]; rfl
        rw [hx] at E1
        have e0 := bit_and (hs.out k) hm
        clear hx hm
        generalize iterS q k = S at C1 E2 K e0
        generalize bitsS q k = us at K hl E1
        generalize stepS S = S' at C1 E2
        obtain ⟨i0, i1, i2, i3⟩ := S
        go_wp2_with fail
        refine (C1.out).mono ?_
        rintro e w2 ⟨rfl, bx2, hb2⟩
        have K3 := Lib.hid (K.out.next bx2 hb2)
        clear bx2 hb2 C1 K
        have I0 := (idx (i0 : Int) i1 i2 i3 w2).1.1
        have c1 := World.rowIs.cell K3.out.row hlt
        have c2 := World.rowIs.frozen K3.out.row k
        have K4 := Lib.hid (K3.out.set k (.bool true) (fun j _ => fB_next us true k hl j))
        clear K3
        generalize fB us k = old at c1
        go_wp2_with fail
        go_roundg (gk - 1)
        case measure => omega
        case rel => exact ⟨k + 1, by omega, by go_num, by rw [E1.out, E2.out]; exact K4⟩
    · obtain rfl : k = n := by omega
      have kl : ¬ (k : Int) < (k : Int) := by omega
      have hl := bitsS_len q k
      go_wp2_with fail
      go_returns
      refine ⟨some ⟨g, 0, none⟩, k, by rw [hl]; rfl, K.out.brs hl (by omega), below_then HB.out.2 K.out.below⟩
theorem bitsYes (s : St) (hs : s.Ok) (n : Nat) (hn : n ≤ 2048) (w : World) : Calls Tryd.prog 41 #[s.val, .int .i64 n] w (AnsBS (bitsS s n) w) := by
  obtain ⟨a, b, c, d⟩ := s
  exact bitsYesW ⟨a, b, c, d⟩ a b c d n (Lib.hid rfl) (Lib.hid hs.iter) hn w
end Go.Proofs.YtemgoikghaiamaaDoor
/-
  The least rule of the lowest bits of 512 states of xoshiro256**, from one whose lowest bit is 1 on, is the rule. Plain mathematics; nothing of the program but the name of the least rule.
-/
namespace Go.Proofs.YtemgoikghaiamaaDoor
open G
set_option linter.unusedVariables false

theorem odN_act (s p i : Nat) : ∀ n, odN (fun j => (itr j s).testBit 0) p i n = (actN p (itr i s) n).testBit 0 := by
  intro n
  induction n with
  | zero => simp [odN, actN]
  | succ n ih =>
    rw [odN, actN, ih, Nat.testBit_xor, ← itr_add, Nat.add_comm n i]
    cases p.testBit n <;> simp
theorem od_act (s p i : Nat) : od (fun j => (itr j s).testBit 0) p i = (act p (itr i s)).testBit 0 := odN_act s p i _
theorem rl_same {s t : Nat → Bool} {m p : Nat} (h : ∀ i, i < m → s i = t i) (k : Rl s m p) : Rl t m p :=
  ⟨k.1, fun i hi => by rw [← k.2 i hi]; exact (od_ext (fun j hj => h _ (by omega))).symm⟩
theorem br_rule {s : Nat} (h : s < 2 ^ 256) (h1 : s.testBit 0 = true) (l : List Bool) (hl : l.length = 512) (hb : ∀ i, i < 512 → rw_ l i = (itr i s).testBit 0) : br l = rP := by
  obtain ⟨f, B⟩ := br_ok l
  rw [hl] at B
  have r : Rl (rw_ l) 512 rP := rl_same (s := fun j => (itr j s).testBit 0) (fun i hi => (hb i hi).symm) ⟨rP_ne, fun i hi => by
    rw [od_act, rule_all (itr_lt h i)]; rfl⟩
  have z := rule_parts B.lst r B.rule rfl (by rw [rP_len]; decide) (by rw [rP_len]; decide)
  rcases rP_irr.2 _ ((dv_rt B.rule.1).2 z) with e | e
  · exfalso
    have := B.rule.2 0 (by rw [e, len_one]; decide)
    rw [e] at this
    have o : od (rw_ l) 1 0 = rw_ l 0 := by
      unfold od; rw [len_one, odN, odN]; simp
    rw [o, hb 0 (by decide)] at this
    have : s.testBit 0 = false := this
    rw [h1] at this; cases this
  · exact e
end Go.Proofs.YtemgoikghaiamaaDoor
/-
  What the calls Rule and Poly of package xjump answer: the rule of all states, and the rest of a power of x by it.
-/
namespace Go.Proofs.YtemgoikghaiamaaDoor
open Go.RowKit G
set_option linter.unusedVariables false
set_option maxRecDepth 100000

def sOne : St := ⟨1, 0, 0, 0⟩
theorem sOne_ok : sOne.Ok := ⟨by decide, by decide, by decide, by decide⟩
theorem bit_pk {s : St} (h : s.Ok) : bitS s = (pkS s).testBit 0 := by
  have e := pk_bit h.a h.b h.c h.d 0 0 (by decide)
  rw [if_pos rfl] at e
  unfold pkS
  rw [e, Nat.testBit_zero]
  unfold bitS
  rfl
theorem rule_is : br (bitsS sOne 512) = rP :=
  br_rule (s := pkS sOne) (pkS_lt sOne_ok) (by rw [← bit_pk sOne_ok]; rfl) _ (bitsS_len _ _) (fun i hi => by
    show (bitsS sOne 512).getD i false = _
    rw [bitsS_get _ _ _ hi, bit_pk (sOne_ok.iter i), pkS_iter sOne_ok])
set_option maxHeartbeats 1000000 in
theorem ruleW (R : Nat) (l : List Bool) (hl : Hid (l = bitsS sOne 512)) (hR : Hid (br l = R)) (h2 : Hid (2 * len R ≤ 514)) (w : World) (T : Tab w) : Calls Tryd.prog 22 #[] w (Ans R w) := by
  have CB : Hid (Calls Tryd.prog 41 #[.agg #[.int .u64 1, .int .u64 0, .int .u64 0, .int .u64 0], .int .i64 512] w (AnsBS l w)) := Lib.hid (by
    have := bitsYes sOne sOne_ok 512 (by decide) w
    rw [← hl.out] at this
    exact this)
  have HL := Lib.hid (show l.length = 512 by rw [hl.out]; exact bitsS_len _ _)
  have HT := Lib.hid T
  clear T hl
  go_enter Tryd.func22, Tryd.ntmps22
  go_wp2_with fail
  refine (CB.out).mono ?_
  rintro e w1 ⟨A, cap, rfl, RB, hb⟩
  clear CB
  have HB := Lib.hid (And.intro RB hb)
  clear RB hb
  have LR := Lib.hid (gLeastYes (M := 512) R HB.out.1 (HT.out.below HB.out.2) HL.out (by decide) hR.out h2.out)
  rw [HL.out]
  clear hR h2 HL
  go_wp2_with fail
  refine (LR.out).mono ?_
  rintro e w2 ⟨A2, c2, rfl, P, hb⟩
  clear LR
  go_wp2_with fail
  go_returns
  exact ⟨A2, c2, rfl, P, below_then HB.out.2 hb⟩
theorem xRule (w : World) (T : Tab w) : Calls Tryd.prog 22 #[] w (Ans rP w) :=
  ruleW rP _ (Lib.hid rfl) (Lib.hid rule_is) (Lib.hid (by rw [rP_len]; decide)) w T
/-- Behind a call that tells a polynomial and an error. -/
def CutQ (W0 : World) (R : Nat) (p e : Value) (wr : World) : Prop := ∃ (A : Option Addr) (cap : Nat), p = .slice A (wordsOf R).length cap ∧ e = .int .i64 0 ∧ Pol wr A cap (wordsOf R) ∧ Below W0.heap.size W0 wr
theorem CutQ.of {W0 wr : World} {R cap : Nat} {A : Option Addr} (P : Pol wr A cap (wordsOf R)) (hb : Below W0.heap.size W0 wr) : CutQ W0 R (.slice A (wordsOf R).length cap) (.int .i64 0) wr := ⟨A, cap, rfl, rfl, P, hb⟩
set_option maxHeartbeats 2000000 in
theorem polyW (R Q : Nat) (h l : Int) (w : World) (CR : Hid (∀ W, Below w.heap.size w W → Calls Tryd.prog 22 #[] W (Ans R W)))
    (CX : Hid (∀ (A : Option Addr) (c : Nat) (W : World), Pol W A c (wordsOf R) → Calls Tryd.prog 54 #[.agg #[.int .u64 h, .int .u64 l], .slice A (wordsOf R).length c] W (AnsE Q 0 W))) :
    Calls Tryd.prog 31 #[.agg #[.int .u64 h, .int .u64 l]] w (Ans Q w) := by
  go_enter Tryd.func31, Tryd.ntmps31
  go_wp2_with fail
  have K0 := cells_new w (.int .u64 h) (.int .u64 l) 26
  have hB := below_alloc (Below.refl _ _) (w := w) (W := w) (.cells #[.int .u64 h, .int .u64 l] 26)
  generalize hW0 : World.alloc w _ = W0 at K0 hB ⊢
  obtain ⟨k0, k1⟩ := K0
  have HK := Lib.hid (And.intro k0 k1)
  have HB := Lib.hid hB
  clear hW0 hB
  go_cut [3, 4] (CutQ w Q)
  case first =>
    have hX : Below w.heap.size w W0 := HB.out
    go_region_with (first
      | (go_at_call 22; (refine (CR.out _ (by first | exact hX | exact hX.drew | exact hX.drew.drew)).mono ?_); rintro e v1 ⟨A1, c1, rfl, P1, hb⟩; have q0 := (hb.cell (p := ⟨w.heap.size, 0, none⟩) (World.block_lt_of_cell? _ _ HK.out.1)).trans HK.out.1; have q1 := (hb.cell (p := ⟨w.heap.size, 1, none⟩) (World.block_lt_of_cell? _ _ HK.out.2)).trans HK.out.2; replace hX := (show Below w.heap.size w v1 from below_then (by first | exact hX | exact hX.drew) hb); clear hb)
      | (go_at_call 54; (with_reducible refine (CX.out _ _ _ P1).mono ?_); rintro e v2 ⟨A2, c2, rfl, P2, hb⟩; replace hX := below_then hX hb; clear hb))
    all_goals
      go_wp2_with fail
      go_meet
      with_reducible exact CutQ.of P2 hX
  obtain ⟨A, cap, rfl, rfl, P, hb⟩ := hcut
  clear HK HB CR CX k0 k1
  go_wp2_with fail
  go_returns
  exact ⟨A, cap, rfl, P, hb⟩
theorem rP0 : leN (wordsOf rP) ≠ 0 := by rw [leN_wordsOf]; exact rP_ne
theorem rP_words : (wordsOf rP).length ≤ 20000 := Nat.le_trans (wlm (k := 5) (by rw [rP_len]; decide)) (by decide)
theorem xPoly (h l : Int) (n : Nat) (w : World) (i : Wn h l n) (T : Tab w) : Calls Tryd.prog 31 #[.agg #[.int .u64 h, .int .u64 l]] w (Ans (pr 2 n rP) w) :=
  polyW rP _ h l w (Lib.hid fun W hW => xRule W (T.below hW)) (Lib.hid fun A c W P => gXp _ i P rfl (by rw [leN_wordsOf]) rP_words rP0)
end Go.Proofs.YtemgoikghaiamaaDoor
/-
  What the calls Jump and Powers of package xjump answer: the state behind so many steps.
-/
namespace Go.Proofs.YtemgoikghaiamaaDoor
open Go.RowKit G
set_option linter.unusedVariables false
set_option maxRecDepth 100000

theorem three_box (w : World) (s : St) (h l : Int) (t u : TypeId) :
    Bx t (((w.alloc (.cells #[.int .u64 (s.a : Int), .int .u64 (s.b : Int), .int .u64 (s.c : Int), .int .u64 (s.d : Int)] t)).alloc (.cells #[.int .u64 h, .int .u64 l] u)).alloc (.cells #[.int .u64 0, .int .u64 0, .int .u64 0, .int .u64 0] t)) w.heap.size s ∧
    ((((w.alloc (.cells #[.int .u64 (s.a : Int), .int .u64 (s.b : Int), .int .u64 (s.c : Int), .int .u64 (s.d : Int)] t)).alloc (.cells #[.int .u64 h, .int .u64 l] u)).alloc (.cells #[.int .u64 0, .int .u64 0, .int .u64 0, .int .u64 0] t)).cell? ⟨w.heap.size + 1, 0, none⟩ = some (.int .u64 h) ∧
    (((w.alloc (.cells #[.int .u64 (s.a : Int), .int .u64 (s.b : Int), .int .u64 (s.c : Int), .int .u64 (s.d : Int)] t)).alloc (.cells #[.int .u64 h, .int .u64 l] u)).alloc (.cells #[.int .u64 0, .int .u64 0, .int .u64 0, .int .u64 0] t)).cell? ⟨w.heap.size + 1, 1, none⟩ = some (.int .u64 l)) ∧
    Bx t (((w.alloc (.cells #[.int .u64 (s.a : Int), .int .u64 (s.b : Int), .int .u64 (s.c : Int), .int .u64 (s.d : Int)] t)).alloc (.cells #[.int .u64 h, .int .u64 l] u)).alloc (.cells #[.int .u64 0, .int .u64 0, .int .u64 0, .int .u64 0] t)) (w.heap.size + 1 + 1) St.zero ∧
    Below w.heap.size w (((w.alloc (.cells #[.int .u64 (s.a : Int), .int .u64 (s.b : Int), .int .u64 (s.c : Int), .int .u64 (s.d : Int)] t)).alloc (.cells #[.int .u64 h, .int .u64 l] u)).alloc (.cells #[.int .u64 0, .int .u64 0, .int .u64 0, .int .u64 0] t)) := by
  have B1 := Bx.new w s t
  have L1 := below_alloc (Below.refl w.heap.size w) (.cells #[.int .u64 (s.a : Int), .int .u64 (s.b : Int), .int .u64 (s.c : Int), .int .u64 (s.d : Int)] t)
  have S1 : (w.alloc (.cells #[.int .u64 (s.a : Int), .int .u64 (s.b : Int), .int .u64 (s.c : Int), .int .u64 (s.d : Int)] t)).heap.size = w.heap.size + 1 := Array.size_push _
  generalize w.alloc _ = W1 at B1 L1 S1 ⊢
  have B2 := cells_new W1 (.int .u64 h) (.int .u64 l) u
  have S2 : (W1.alloc (.cells #[.int .u64 h, .int .u64 l] u)).heap.size = w.heap.size + 1 + 1 := (Array.size_push _).trans (by rw [S1])
  rw [S1] at B2
  replace B1 := B1.alloc (.cells #[.int .u64 h, .int .u64 l] u)
  replace L1 := below_alloc L1 (.cells #[.int .u64 h, .int .u64 l] u)
  generalize W1.alloc _ = W2 at B1 B2 L1 S2 ⊢
  have B3 := Bx.new W2 St.zero t
  rw [S2] at B3
  exact ⟨B1.alloc _, two_below B2 (below_alloc (Below.refl _ _) _), B3, below_alloc L1 _⟩
/-- Behind the last region: the answer's state and the error. -/
def CutV (W0 : World) (b : Nat) (Y : St) (e : Value) (wr : World) : Prop := e = .int .i64 0 ∧ Bx 24 wr b Y ∧ Below W0.heap.size W0 wr
theorem CutV.of {W0 x : World} {b : Nat} (y0 y1 y2 y3 : Nat) (z : Bx 24 x b St.zero) (hb : Below W0.heap.size W0 x) (h : W0.heap.size ≤ b) : CutV W0 b ⟨y0, y1, y2, y3⟩ (.int .i64 0) ((((x.setCell ⟨b, 0, none⟩ (.int .u64 (y0 : Int))).setCell ⟨b, 1, none⟩ (.int .u64 (y1 : Int))).setCell ⟨b, 2, none⟩ (.int .u64 (y2 : Int))).setCell ⟨b, 3, none⟩ (.int .u64 (y3 : Int))) :=
  ⟨rfl, z.put ⟨y0, y1, y2, y3⟩, below_put hb h⟩
set_option maxHeartbeats 4000000 in
theorem jumpW (R : Nat) (a b c d y0 y1 y2 y3 : Nat) (h l : Int) (h0 : (⟨a, b, c, d⟩ : St) ≠ St.zero) (w : World)
    (CP : Hid (∀ W, Below w.heap.size w W → Calls Tryd.prog 31 #[.agg #[.int .u64 h, .int .u64 l]] W (Ans R W)))
    (CA : Hid (∀ (A : Option Addr) (cap : Nat) (W : World), Pol W A cap (wordsOf R) → Calls Tryd.prog 11 #[.slice A (wordsOf R).length cap, .agg #[.int .u64 (a : Int), .int .u64 (b : Int), .int .u64 (c : Int), .int .u64 (d : Int)]] W (AnsS ⟨y0, y1, y2, y3⟩ W))) :
    Calls Tryd.prog 9 #[.agg #[.int .u64 (a : Int), .int .u64 (b : Int), .int .u64 (c : Int), .int .u64 (d : Int)], .agg #[.int .u64 h, .int .u64 l]] w (AnsSE ⟨y0, y1, y2, y3⟩ 0 w) := by
  have CR : Hid (∀ W, Calls Tryd.prog 21 #[.agg #[.int .u64 (a : Int), .int .u64 (b : Int), .int .u64 (c : Int), .int .u64 (d : Int)]] W (fun e w' => e = .returned (.bool true) ∧ Below W.heap.size W w')) := Lib.hid (fun W => by
    have := xRight ⟨a, b, c, d⟩ W
    rwa [decide_eq_false h0] at this)
  have TN := Lib.hid (three_box w ⟨a, b, c, d⟩ h l 24 26)
  clear h0
  go_enter Tryd.func9, Tryd.ntmps9
  go_upto_region 1 with fail
  generalize World.alloc (World.alloc (World.alloc w _) _) _ = W1 at TN ⊢
  obtain ⟨p0, p1, p2, p3⟩ := TN.out.1.cells
  simp only at p0 p1 p2 p3
  go_wp2_with fail
  refine (CR.out _).mono ?_
  rintro e W2 ⟨rfl, hb⟩
  clear p0 p1 p2 p3 CR
  have HX := Lib.hid (And.intro (TN.out.1.below hb) (And.intro (two_below TN.out.2.1 hb) (And.intro (TN.out.2.2.1.below hb) (below_then TN.out.2.2.2 hb))))
  clear TN hb
  obtain ⟨p0, p1, p2, p3⟩ := HX.out.1.cells
  obtain ⟨k0, k1⟩ := HX.out.2.1
  simp only at p0 p1 p2 p3
  go_upto_region 3 with fail
  go_cut [5] (CutV w (w.heap.size + 1 + 1) ⟨y0, y1, y2, y3⟩)
  case first =>
    have hX : Below w.heap.size w W2 := HX.out.2.2.2
    go_region_with (first
      | (go_at_call 31; (with_reducible refine (CP.out _ (by first | exact hX | exact hX.drew | exact hX.drew.drew)).mono ?_); rintro e v1 ⟨A1, c1, rfl, P1, hb⟩; have z := Bx.below (w := World.drew W2) HX.out.2.2.1 hb; obtain ⟨s0, s1, s2, s3⟩ := (Bx.below (w := World.drew W2) HX.out.1 hb).cells; simp only at s0 s1 s2 s3; replace hX := (show Below w.heap.size w v1 from below_then (by first | exact hX | exact hX.drew) hb); clear hb)
      | (go_at_call 11; (with_reducible refine (CA.out _ _ _ P1).mono ?_); rintro e v2 ⟨rfl, hb⟩; replace z := z.below hb; obtain ⟨z0, z1, z2, z3⟩ := z.cells; obtain ⟨f0, f1, f2, f3⟩ := z.free; simp only [St.zero] at z0 z1 z2 z3; replace hX := below_then hX hb; clear hb))
    all_goals
      go_wp2_with fail
      go_meet
      with_reducible exact CutV.of y0 y1 y2 y3 z hX (by omega)
  obtain ⟨rfl, BX, hb⟩ := hcut
  obtain ⟨r0, r1, r2, r3⟩ := BX.cells
  simp only at r0 r1 r2 r3
  clear HX CP CA p0 p1 p2 p3 k0 k1 BX
  go_wp2_with fail
  try simp only [Exit.inBlock, Exit.then, Exit.noGoto]
  refine bodyPost_ret (by simp [results, Tryd.results9, go_sem, r0, r1, r2, r3]; try rfl) rfl ?_
  exact ⟨rfl, hb⟩
end Go.Proofs.YtemgoikghaiamaaDoor
/-
  What the calls Jump and Powers of package xjump answer for the state of all 0, and what Powers answers: so JX holds.
-/
namespace Go.Proofs.YtemgoikghaiamaaDoor
open Go.RowKit G
set_option linter.unusedVariables false
set_option maxRecDepth 100000

theorem zero_right {a b c d : Nat} (h : (⟨a, b, c, d⟩ : St) = St.zero) (W : World) : Calls Tryd.prog 21 #[.agg #[.int .u64 (a : Int), .int .u64 (b : Int), .int .u64 (c : Int), .int .u64 (d : Int)]] W (fun e w' => e = .returned (.bool false) ∧ Below W.heap.size W w') := by
  have := xRight ⟨a, b, c, d⟩ W
  rwa [decide_eq_true h] at this
set_option maxHeartbeats 2000000 in
theorem jumpZeroW (a b c d : Nat) (h0 : (⟨a, b, c, d⟩ : St) = St.zero) (h l : Int) (w : World) : Calls Tryd.prog 9 #[.agg #[.int .u64 (a : Int), .int .u64 (b : Int), .int .u64 (c : Int), .int .u64 (d : Int)], .agg #[.int .u64 h, .int .u64 l]] w (AnsSE St.zero 3 w) := by
  have TN := Lib.hid (three_box w ⟨a, b, c, d⟩ h l 24 26)
  have CR := Lib.hid (zero_right h0)
  clear h0
  go_enter Tryd.func9, Tryd.ntmps9
  go_upto_region 1 with fail
  generalize World.alloc (World.alloc (World.alloc w _) _) _ = W1 at TN ⊢
  obtain ⟨p0, p1, p2, p3⟩ := TN.out.1.cells
  simp only at p0 p1 p2 p3
  go_wp2_with fail
  refine (CR.out _).mono ?_
  rintro e W2 ⟨rfl, hb⟩
  clear p0 p1 p2 p3 CR
  have HX := Lib.hid (And.intro (TN.out.2.2.1.below hb) (below_then TN.out.2.2.2 hb))
  clear TN hb
  obtain ⟨z0, z1, z2, z3⟩ := HX.out.1.cells
  obtain ⟨f0, f1, f2, f3⟩ := HX.out.1.free
  simp only [St.zero] at z0 z1 z2 z3
  have LL := below_put (b := w.heap.size + 1 + 1) (x := .int .u64 0) (y := .int .u64 0) (z := .int .u64 0) (u := .int .u64 0) HX.out.2 (by omega)
  have R := HX.out.1.put St.zero
  simp only [St.zero] at R
  have HL := Lib.hid (And.intro LL R)
  clear LL R
  go_wp2_with fail
  generalize World.setCell (World.setCell (World.setCell (World.setCell W2 _ _) _ _) _ _) _ _ = V at HL ⊢
  obtain ⟨r0, r1, r2, r3⟩ := HL.out.2.cells
  try simp only [Exit.inBlock, Exit.then, Exit.noGoto]
  refine bodyPost_ret (by simp [results, Tryd.results9, go_sem, r0, r1, r2, r3]; try rfl) rfl ?_
  exact ⟨rfl, HL.out.1⟩
/-- A state, and a place for one. -/
theorem two_box (w : World) (s : St) (t : TypeId) :
    Bx t ((w.alloc (.cells #[.int .u64 (s.a : Int), .int .u64 (s.b : Int), .int .u64 (s.c : Int), .int .u64 (s.d : Int)] t)).alloc (.cells #[.int .u64 0, .int .u64 0, .int .u64 0, .int .u64 0] t)) w.heap.size s ∧
    Bx t ((w.alloc (.cells #[.int .u64 (s.a : Int), .int .u64 (s.b : Int), .int .u64 (s.c : Int), .int .u64 (s.d : Int)] t)).alloc (.cells #[.int .u64 0, .int .u64 0, .int .u64 0, .int .u64 0] t)) (w.heap.size + 1) St.zero ∧
    Below w.heap.size w ((w.alloc (.cells #[.int .u64 (s.a : Int), .int .u64 (s.b : Int), .int .u64 (s.c : Int), .int .u64 (s.d : Int)] t)).alloc (.cells #[.int .u64 0, .int .u64 0, .int .u64 0, .int .u64 0] t)) := by
  have B1 := Bx.new w s t
  have L1 := below_alloc (Below.refl w.heap.size w) (.cells #[.int .u64 (s.a : Int), .int .u64 (s.b : Int), .int .u64 (s.c : Int), .int .u64 (s.d : Int)] t)
  have S1 : (w.alloc (.cells #[.int .u64 (s.a : Int), .int .u64 (s.b : Int), .int .u64 (s.c : Int), .int .u64 (s.d : Int)] t)).heap.size = w.heap.size + 1 := Array.size_push _
  generalize w.alloc _ = W1 at B1 L1 S1 ⊢
  have B2 := Bx.new W1 St.zero t
  rw [S1] at B2
  exact ⟨B1.alloc _, B2, below_alloc L1 _⟩
set_option maxHeartbeats 2000000 in
theorem powZeroW (a b c d : Nat) (h0 : (⟨a, b, c, d⟩ : St) = St.zero) (n : Int) (w : World) : Calls Tryd.prog 10 #[.agg #[.int .u64 (a : Int), .int .u64 (b : Int), .int .u64 (c : Int), .int .u64 (d : Int)], .int .i64 n] w (AnsSE St.zero 3 w) := by
  have TN := Lib.hid (two_box w ⟨a, b, c, d⟩ 24)
  have CR := Lib.hid (zero_right h0)
  clear h0
  go_enter Tryd.func10, Tryd.ntmps10
  go_upto_region 1 with fail
  generalize World.alloc (World.alloc w _) _ = W1 at TN ⊢
  obtain ⟨p0, p1, p2, p3⟩ := TN.out.1.cells
  simp only at p0 p1 p2 p3
  go_wp2_with fail
  refine (CR.out _).mono ?_
  rintro e W2 ⟨rfl, hb⟩
  clear p0 p1 p2 p3 CR
  have HX := Lib.hid (And.intro (TN.out.2.1.below hb) (below_then TN.out.2.2 hb))
  clear TN hb
  obtain ⟨z0, z1, z2, z3⟩ := HX.out.1.cells
  obtain ⟨f0, f1, f2, f3⟩ := HX.out.1.free
  simp only [St.zero] at z0 z1 z2 z3
  have LL := below_put (b := w.heap.size + 1) (x := .int .u64 0) (y := .int .u64 0) (z := .int .u64 0) (u := .int .u64 0) HX.out.2 (by omega)
  have R := HX.out.1.put St.zero
  simp only [St.zero] at R
  have HL := Lib.hid (And.intro LL R)
  clear LL R
  go_wp2_with fail
  generalize World.setCell (World.setCell (World.setCell (World.setCell W2 _ _) _ _) _ _) _ _ = V at HL ⊢
  obtain ⟨r0, r1, r2, r3⟩ := HL.out.2.cells
  try simp only [Exit.inBlock, Exit.then, Exit.noGoto]
  refine bodyPost_ret (by simp [results, Tryd.results10, go_sem, r0, r1, r2, r3]; try rfl) rfl ?_
  exact ⟨rfl, HL.out.1⟩
set_option maxHeartbeats 4000000 in
theorem powW (R Q : Nat) (a b c d y0 y1 y2 y3 : Nat) (n : Int) (h0 : (⟨a, b, c, d⟩ : St) ≠ St.zero) (w : World)
    (CU : Hid (∀ W, Below w.heap.size w W → Calls Tryd.prog 22 #[] W (Ans R W)))
    (CS : Hid (∀ (A B : Option Addr) (ca cb : Nat) (W : World), Pol W A ca (wordsOf 2) → Pol W B cb (wordsOf R) → Calls Tryd.prog 24 #[.slice A (wordsOf 2).length ca, .int .i64 n, .slice B (wordsOf R).length cb] W (AnsE Q 0 W)))
    (CA : Hid (∀ (A : Option Addr) (cap : Nat) (W : World), Pol W A cap (wordsOf Q) → Calls Tryd.prog 11 #[.slice A (wordsOf Q).length cap, .agg #[.int .u64 (a : Int), .int .u64 (b : Int), .int .u64 (c : Int), .int .u64 (d : Int)]] W (AnsS ⟨y0, y1, y2, y3⟩ W))) :
    Calls Tryd.prog 10 #[.agg #[.int .u64 (a : Int), .int .u64 (b : Int), .int .u64 (c : Int), .int .u64 (d : Int)], .int .i64 n] w (AnsSE ⟨y0, y1, y2, y3⟩ 0 w) := by
  have CR : Hid (∀ W, Calls Tryd.prog 21 #[.agg #[.int .u64 (a : Int), .int .u64 (b : Int), .int .u64 (c : Int), .int .u64 (d : Int)]] W (fun e w' => e = .returned (.bool true) ∧ Below W.heap.size W w')) := Lib.hid (fun W => by
    have := xRight ⟨a, b, c, d⟩ W
    rwa [decide_eq_false h0] at this)
  have CX := Lib.hid (fun W => cX 1 (by decide) W)
  have TN := Lib.hid (two_box w ⟨a, b, c, d⟩ 24)
  clear h0
  go_enter Tryd.func10, Tryd.ntmps10
  go_upto_region 1 with fail
  generalize World.alloc (World.alloc w _) _ = W1 at TN ⊢
  obtain ⟨p0, p1, p2, p3⟩ := TN.out.1.cells
  simp only at p0 p1 p2 p3
  go_wp2_with fail
  refine (CR.out _).mono ?_
  rintro e W2 ⟨rfl, hb⟩
  clear p0 p1 p2 p3 CR
  have HX := Lib.hid (And.intro (TN.out.1.below hb) (And.intro (TN.out.2.1.below hb) (below_then TN.out.2.2 hb)))
  clear TN hb
  go_wp2_with fail
  refine (CX.out _).mono ?_
  rintro e W3 ⟨A, ca, rfl, P, hb⟩
  have HY := Lib.hid (And.intro (HX.out.1.below hb) (And.intro (HX.out.2.1.below hb) (And.intro (below_then HX.out.2.2 hb) P)))
  clear HX hb P CX
  go_wp2_with fail
  refine (CU.out _ HY.out.2.2.1).mono ?_
  rintro e W4 ⟨B, cb, rfl, P, hb⟩
  have HZ := Lib.hid (And.intro (HY.out.1.below hb) (And.intro (HY.out.2.1.below hb) (And.intro (below_then HY.out.2.2.1 hb) (And.intro (HY.out.2.2.2.below hb) P))))
  clear HY hb P CU
  go_wp2_with fail
  refine (CS.out _ _ _ _ _ HZ.out.2.2.2.1 HZ.out.2.2.2.2).mono ?_
  rintro e W5 ⟨C, cc, rfl, P, hb⟩
  have HV := Lib.hid (And.intro (HZ.out.1.below hb) (And.intro (HZ.out.2.1.below hb) (And.intro (below_then HZ.out.2.2.1 hb) P)))
  clear HZ hb P CS
  obtain ⟨p0, p1, p2, p3⟩ := HV.out.1.cells
  simp only at p0 p1 p2 p3
  go_wp2_with fail
  refine (CA.out _ _ _ HV.out.2.2.2).mono ?_
  rintro e W6 ⟨rfl, hb⟩
  clear p0 p1 p2 p3 CA
  have HW := Lib.hid (And.intro (HV.out.2.1.below hb) (below_then HV.out.2.2.1 hb))
  clear HV hb
  obtain ⟨z0, z1, z2, z3⟩ := HW.out.1.cells
  obtain ⟨f0, f1, f2, f3⟩ := HW.out.1.free
  simp only [St.zero] at z0 z1 z2 z3
  have LL := below_put (b := w.heap.size + 1) (x := .int .u64 (y0 : Int)) (y := .int .u64 (y1 : Int)) (z := .int .u64 (y2 : Int)) (u := .int .u64 (y3 : Int)) HW.out.2 (by omega)
  have R := HW.out.1.put ⟨y0, y1, y2, y3⟩
  simp only at R
  have HL := Lib.hid (And.intro LL R)
  clear LL R
  go_wp2_with fail
  generalize World.setCell (World.setCell (World.setCell (World.setCell W6 _ _) _ _) _ _) _ _ = V at HL ⊢
  obtain ⟨r0, r1, r2, r3⟩ := HL.out.2.cells
  simp only at r0 r1 r2 r3
  try simp only [Exit.inBlock, Exit.then, Exit.noGoto]
  refine bodyPost_ret (by simp [results, Tryd.results10, go_sem, r0, r1, r2, r3]; try rfl) rfl ?_
  exact ⟨rfl, HL.out.1⟩
set_option maxHeartbeats 4000000 in
theorem powArgW (R : Nat) (a b c d : Nat) (n : Int) (h0 : (⟨a, b, c, d⟩ : St) ≠ St.zero) (w : World)
    (CU : Hid (∀ W, Below w.heap.size w W → Calls Tryd.prog 22 #[] W (Ans R W)))
    (CS : Hid (∀ (A B : Option Addr) (ca cb : Nat) (W : World), Pol W A ca (wordsOf 2) → Pol W B cb (wordsOf R) → Calls Tryd.prog 24 #[.slice A (wordsOf 2).length ca, .int .i64 n, .slice B (wordsOf R).length cb] W (NilE 1 W))) :
    Calls Tryd.prog 10 #[.agg #[.int .u64 (a : Int), .int .u64 (b : Int), .int .u64 (c : Int), .int .u64 (d : Int)], .int .i64 n] w (AnsSE St.zero 1 w) := by
  have CR : Hid (∀ W, Calls Tryd.prog 21 #[.agg #[.int .u64 (a : Int), .int .u64 (b : Int), .int .u64 (c : Int), .int .u64 (d : Int)]] W (fun e w' => e = .returned (.bool true) ∧ Below W.heap.size W w')) := Lib.hid (fun W => by
    have := xRight ⟨a, b, c, d⟩ W
    rwa [decide_eq_false h0] at this)
  have CX := Lib.hid (fun W => cX 1 (by decide) W)
  have TN := Lib.hid (two_box w ⟨a, b, c, d⟩ 24)
  clear h0
  go_enter Tryd.func10, Tryd.ntmps10
  go_upto_region 1 with fail
  generalize World.alloc (World.alloc w _) _ = W1 at TN ⊢
  obtain ⟨p0, p1, p2, p3⟩ := TN.out.1.cells
  simp only at p0 p1 p2 p3
  go_wp2_with fail
  refine (CR.out _).mono ?_
  rintro e W2 ⟨rfl, hb⟩
  clear p0 p1 p2 p3 CR
  have HX := Lib.hid (And.intro (TN.out.1.below hb) (And.intro (TN.out.2.1.below hb) (below_then TN.out.2.2 hb)))
  clear TN hb
  go_wp2_with fail
  refine (CX.out _).mono ?_
  rintro e W3 ⟨A, ca, rfl, P, hb⟩
  have HY := Lib.hid (And.intro (HX.out.1.below hb) (And.intro (HX.out.2.1.below hb) (And.intro (below_then HX.out.2.2 hb) P)))
  clear HX hb P CX
  go_wp2_with fail
  refine (CU.out _ HY.out.2.2.1).mono ?_
  rintro e W4 ⟨B, cb, rfl, P, hb⟩
  have HZ := Lib.hid (And.intro (HY.out.1.below hb) (And.intro (HY.out.2.1.below hb) (And.intro (below_then HY.out.2.2.1 hb) (And.intro (HY.out.2.2.2.below hb) P))))
  clear HY hb P CU
  go_wp2_with fail
  refine (CS.out _ _ _ _ _ HZ.out.2.2.2.1 HZ.out.2.2.2.2).mono ?_
  rintro e W6 ⟨rfl, hb⟩
  have HW := Lib.hid (And.intro (HZ.out.2.1.below hb) (below_then HZ.out.2.2.1 hb))
  clear HZ hb CS
  obtain ⟨z0, z1, z2, z3⟩ := HW.out.1.cells
  obtain ⟨f0, f1, f2, f3⟩ := HW.out.1.free
  simp only [St.zero] at z0 z1 z2 z3
  have LL := below_put (b := w.heap.size + 1) (x := .int .u64 0) (y := .int .u64 0) (z := .int .u64 0) (u := .int .u64 0) HW.out.2 (by omega)
  have R := HW.out.1.put St.zero
  simp only [St.zero] at R
  have HL := Lib.hid (And.intro LL R)
  clear LL R
  go_wp2_with fail
  generalize World.setCell (World.setCell (World.setCell (World.setCell W6 _ _) _ _) _ _) _ _ = V at HL ⊢
  obtain ⟨r0, r1, r2, r3⟩ := HL.out.2.cells
  try simp only [Exit.inBlock, Exit.then, Exit.noGoto]
  refine bodyPost_ret (by simp [results, Tryd.results10, go_sem, r0, r1, r2, r3]; try rfl) rfl ?_
  exact ⟨rfl, HL.out.1⟩
theorem pr_words (n : Nat) : (wordsOf (pr 2 n rP)).length ≤ 1000 := Nat.le_trans (wlm (k := 5) (by
  have := pr_lt (a := 2) (n := n) rP_ne
  rw [rP_len] at this
  omega)) (by decide)
theorem at_steps (s : St) (hs : s.Ok) (n : Nat) (A : Option Addr) (cap : Nat) (W : World) (P : Pol W A cap (wordsOf (pr 2 n rP))) :
    Calls Tryd.prog 11 #[.slice A (wordsOf (pr 2 n rP)).length cap, s.val] W (AnsS (iterS s n) W) := by
  have := xAt s hs (pr 2 n rP) _ A cap _ W P rfl (pr_words n) (leN_wordsOf _)
  rw [show atS (pr 2 n rP) s (len (pr 2 n rP)) = iterS s n from polS_steps n hs] at this
  exact this
/-- What the calls of package xjump answer. -/
theorem jx : JX where
  jumpY := fun s h l n W hs h0 i T => jumpW (pr 2 n rP) s.a s.b s.c s.d (iterS s n).a (iterS s n).b (iterS s n).c (iterS s n).d h l h0 W (Lib.hid fun W' hW => xPoly h l n W' i (T.below hW)) (Lib.hid fun A cap W' P => at_steps s hs n A cap W' P)
  jumpZ := fun h l n W i T => jumpZeroW 0 0 0 0 rfl h l W
  powY := fun s n W hs h0 hn T => powW rP (pr 2 (2 ^ n) rP) s.a s.b s.c s.d (iterS s (2 ^ n)).a (iterS s (2 ^ n)).b (iterS s (2 ^ n)).c (iterS s (2 ^ n)).d n h0 W (Lib.hid fun W' hW => xRule W' (T.below hW))
    (Lib.hid fun A B ca cb W' P Q => gSquares n _ n rfl P Q rfl rfl (Nat.le_trans (wl 1 (by decide)) (by decide)) rP_words rP0 hn (by rw [leN_wordsOf, leN_wordsOf])) (Lib.hid fun A cap W' P => at_steps s hs (2 ^ n) A cap W' P)
  powA := fun s n W hs h0 hn T => powArgW rP s.a s.b s.c s.d n h0 W (Lib.hid fun W' hW => xRule W' (T.below hW))
    (Lib.hid fun A B ca cb W' P Q => gSquaresArg n P Q rfl rfl (Nat.le_trans (wl 1 (by decide)) (by decide)) rP_words rP0 hn)
  powZ := fun n W T => powZeroW 0 0 0 0 rfl n W
  at_ := fun s A ca L xs W hs P hL hl T => xAt s hs _ L A ca xs W P hL hl rfl
  rule := xRule
  poly := fun h l n W i T => xPoly h l n W i T
end Go.Proofs.YtemgoikghaiamaaDoor
/-
  An argument that is a state (an array of four words), opened and shut.
-/
namespace Go.Proofs.YtemgoikghaiamaaDoor
open Go.ChangeShapes Go.WideShapes Go.ChangeAt Go.RowKit Go.Joins G
set_option linter.unusedVariables false
set_option maxRecDepth 100000

theorem cellsSt : Tryd.prog.cellsOf 24 = 4 := by kernel_rfl
theorem cellsWd : Tryd.prog.cellsOf 22 = 1 := by kernel_rfl
abbrev St.data {H : Type} (s : St) : DataW H := .agg [.lit (.int .u64 (s.a : Int)), .lit (.int .u64 (s.b : Int)), .lit (.int .u64 (s.c : Int)), .lit (.int .u64 (s.d : Int))]
theorem openSt {H : Type} {enc : TypeId × Value → H} {W : World} {base : Nat} {v : Value} {d : DataW H} {p : List MemPlace} (ok : Value.okWide Tryd.prog W .any base 24 v)
    (h : DataW.Trod enc Tryd.prog W 0 (fun _ => true) true 24 v d p) :
    ∃ s : St, s.Ok ∧ v = s.val ∧ d = St.data s ∧ p = [] ∧ ∀ (W' : World) (sp : Nat → Bool), DataW.Trod enc Tryd.prog W' 0 sp true 24 s.val (St.data s) [] := by
  obtain ⟨cs, rfl, hsz, _⟩ : ∃ cs, v = .agg cs ∧ cs.size = Tryd.prog.cellsOf 24 ∧ Row.okWide Tryd.prog W .any base 24 cs := by
    simpa [Value.okWide, Tryd.underlying24] using ok
  rw [cellsSt] at hsz
  obtain ⟨c0, c1, c2, c3, rfl⟩ : ∃ c0 c1 c2 c3, cs = #[c0, c1, c2, c3] := by
    obtain ⟨l⟩ := cs
    match l, hsz with
    | [a, b, c, d], _ => exact ⟨a, b, c, d, rfl⟩
  obtain ⟨fuel, hf⟩ := h
  obtain ⟨y0, y1, y2, y3, m, hx, hy0, hy1, hy2, hy3⟩ := trod_array4 Tryd.underlying24 cellsWd hf
  obtain ⟨x0, e0, rfl, w0⟩ := DataW.trod_int Tryd.underlying22 hy0
  obtain ⟨x1, e1, rfl, w1⟩ := DataW.trod_int Tryd.underlying22 hy1
  obtain ⟨x2, e2, rfl, w2⟩ := DataW.trod_int Tryd.underlying22 hy2
  obtain ⟨x3, e3, rfl, w3⟩ := DataW.trod_int Tryd.underlying22 hy3
  simp at e0 e1 e2 e3
  subst e0 e1 e2 e3
  simp only [Prod.mk.injEq] at hx
  obtain ⟨rfl, rfl⟩ := hx
  have b0 := bounds_u64 w0
  have b1 := bounds_u64 w1
  have b2 := bounds_u64 w2
  have b3 := bounds_u64 w3
  obtain ⟨x0, rfl⟩ := Int.eq_ofNat_of_zero_le b0.1
  obtain ⟨x1, rfl⟩ := Int.eq_ofNat_of_zero_le b1.1
  obtain ⟨x2, rfl⟩ := Int.eq_ofNat_of_zero_le b2.1
  obtain ⟨x3, rfl⟩ := Int.eq_ofNat_of_zero_le b3.1
  refine ⟨⟨x0, x1, x2, x3⟩, ⟨by show x0 < _; omega, by show x1 < _; omega, by show x2 < _; omega, by show x3 < _; omega⟩, rfl, rfl, rfl, fun W' sp => ?_⟩
  exact ⟨2, by simp [DataW.trod, Value.cells, Tryd.underlying24, Tryd.underlying22, cellsSt, cellsWd, w0, w1, w2, w3, show List.range 4 = [0, 1, 2, 3] from rfl]⟩
end Go.Proofs.YtemgoikghaiamaaDoor
