/-
  What the calls Div, Mod, Gcd and Inverse of the reference of layer 3 answer.
-/
import Derived.Test.YtmhglbnoddimhaaGfdTa
namespace Go.Proofs.Ytmhglbnoddimhaa
open Go.RowKit G
set_option linter.unusedVariables false

set_option maxRecDepth 100000 in
set_option maxHeartbeats 2000000 in
theorem divNoneB (B : Option Addr) (ca cb K : Nat) (hK : 0 < K) (hk : K ≤ 100000) (hc : ca ≤ 9223372036854775807) (w : World) :
    Calls Try.prog 43 #[.slice none 0 ca, .slice B K cb] w (Ans2B 0 0 w) := by
  have hap := nil_appendI w.heap.size ca (w.alloc (.cells #[] 3)) (heap_alloc_new w _)
  have n1 : (0 : Int) ≤ (ca : Int) := by omega
  go_enter Try.func43, Try.ntmps43
  go_wp2
  clear hap
  have G1 := Lib.hid (Grow.start w)
  generalize hw1 : w.alloc (.cells #[] 3) = w1 at G1 ⊢
  have e1 : w1.heap.size = w.heap.size + 1 := by rw [← hw1]; simp
  clear hw1
  have G2 := Lib.hid (Grow.start w1)
  rw [e1] at G2
  have HB := Lib.hid (below_then G1.out.below (below_allocs w1 (.cells #[] 3)))
  have G3 := Lib.hid (G1.out.far (below_allocs w1 (.cells #[] 3)))
  generalize w1.alloc (.cells #[] 3) = w2 at G2 G3 HB ⊢
  clear G1
  go_loopg [7, 8] 0 (fun g v i wr => v = .slice (some ⟨w.heap.size + 1, 0, none⟩) 0 0 ∧ i = .int .i64 0 ∧ wr = w2)
  case atStart => exact ⟨rfl, rfl, rfl⟩
  case round =>
    obtain ⟨rfl, rfl, rfl⟩ := hrel
    go_wp2
    go_loopg [9] 0 (fun g z wr' => ∃ i : Int, z = .int .i64 i ∧ i < 0 ∧ wr' = wr)
    case atStart => exact ⟨_, rfl, by omega, rfl⟩
    case round =>
      obtain ⟨i, rfl, hi, rfl⟩ := hrel
      have d1 : ¬ (0 : Int) ≤ i := by omega
      obtain ⟨A2, c2, e2, l2⟩ := G2.out.lst
      obtain ⟨A3, c3, e3, l3⟩ := G3.out.lst
      simp only [List.length_nil, Value.slice.injEq, true_and] at e2 e3
      obtain ⟨rfl, rfl⟩ := e2
      obtain ⟨rfl, rfl⟩ := e3
      have T1 := Lib.hid (rTrim 0 l2 rfl rfl (by decide))
      have L3 := Lib.hid l3
      clear l2 l3
      go_wp2_with fail
      refine (T1.out).mono ?_
      rintro e wq ⟨Aq, cq, rfl, lq, hb⟩
      have HLQ := Lib.hid lq
      have HB1 := Lib.hid (below_then HB.out hb)
      have T2 := Lib.hid (rTrim 0 (L3.out.below hb) rfl rfl (by decide))
      clear lq hb T1
      go_wp2_with fail
      refine (T2.out).mono ?_
      rintro e wq2 ⟨Ar, cr, rfl, lr, hb⟩
      have HLR := Lib.hid lr
      have HLQ2 := Lib.hid (HLQ.out.below hb)
      have HB2 := Lib.hid (below_then HB1.out hb)
      clear lr hb T2
      go_wp2_with fail
      go_ret2
      exact ⟨Aq, Ar, cq, cr, rfl, HLQ2.out, HLR.out, HB2.out⟩
theorem qt_zero (b : Nat) : qt 0 b = 0 := rfl
theorem rDiv {A B : Option Addr} {ca cb L K : Nat} {xs ys : List Nat} {w : World} (X Y : Nat) (P : Lst w A ca xs) (Q : Lst w B cb ys) (hL : xs.length = L) (hK : ys.length = K) (hX : leB xs = X) (hY : ys = bitsOf Y) (hl : L ≤ 100000) (hk : K ≤ 100000) (h0 : Y ≠ 0) :
    Calls Try.prog 43 #[.slice A L ca, .slice B K cb] w (Ans2B (qt X Y) (rt X Y) w) := by
  subst hY
  have p := len_pos h0
  have lk := bitsOf_len Y
  cases A with
  | some a => exact divWalkB a B ca cb L K (len Y - 1) X Y xs _ (Lib.hid hL) (Lib.hid hK) (Lib.hid (by omega)) (Lib.hid hX) (Lib.hid (leB_bitsOf Y)) (Lib.hid (by omega)) hl hk w (Lib.hid P) (Lib.hid Q)
  | none =>
    have e0 : xs = [] := by
      cases xs with
      | nil => rfl
      | cons x r => obtain ⟨b, o, e, _⟩ := P.cell 0 (by simp); cases e
    subst e0
    subst hL
    have e1 : X = 0 := by rw [← hX]; rfl
    subst e1
    rw [qt_zero, rt_zero_left]
    exact divNoneB B ca cb K (by omega) hk P.cap2 w
set_option maxHeartbeats 1000000 in
theorem rMod {A B : Option Addr} {ca cb L K : Nat} {xs ys : List Nat} {w : World} (X Y R : Nat) (P : Lst w A ca xs) (Q : Lst w B cb ys) (hL : xs.length = L) (hK : ys.length = K) (hX : leB xs = X) (hY : ys = bitsOf Y) (hR : rt X Y = R) (hl : L ≤ 100000) (hk : K ≤ 100000) (h0 : Y ≠ 0) :
    Calls Try.prog 19 #[.slice A L ca, .slice B K cb] w (AnsB (bitsOf R) w) := by
  have D := Lib.hid (rDiv X Y P Q hL hK hX hY hl hk h0)
  rw [hR] at D
  clear P Q hL hK hX hY hR h0
  generalize qt X Y = q at D
  go_enter Try.func19, Try.ntmps19
  go_wp2_with fail
  refine (D.out).mono ?_
  rintro e w1 ⟨A1, B1, c1, d1, rfl, P1, Q1, hb⟩
  have HQ := Lib.hid Q1
  have HB := Lib.hid hb
  clear P1 Q1 hb
  go_wp2_with fail
  go_ret
  exact ⟨B1, d1, rfl, HQ.out, HB.out⟩
/-- An answer that is the bits of a number, in a list of its own, and an error's number. -/
def AnsEB (N : Nat) (k : Int) (w : World) (e : Ending) (w' : World) : Prop :=
  ∃ (A : Option Addr) (cap : Nat), e = .returned (.tuple #[.slice A (bitsOf N).length cap, .int .i64 k]) ∧ Lst w' A cap (bitsOf N) ∧ Below w.heap.size w w'
theorem lst_one (w : World) : Lst (w.alloc (.cells #[.int .i64 1] 3)) (some ⟨w.heap.size, 0, none⟩) 1 (bitsOf 1) := by
  have e : bitsOf 1 = [1] := by rw [bitsOf_pos (by decide)]; rw [show (1 : Nat) / 2 = 0 from rfl, bitsOf_zero]
  rw [e]
  exact ⟨fun x hx => (by rw [List.mem_singleton.1 hx]; decide), Nat.le_refl _, by decide, fun i hi => ⟨w.heap.size, 0, rfl, by
    obtain rfl : i = 0 := by simpa using hi
    simp⟩⟩
theorem bits_one : (bitsOf 1).length = 1 := bitsOf_len 1
end Go.Proofs.Ytmhglbnoddimhaa
