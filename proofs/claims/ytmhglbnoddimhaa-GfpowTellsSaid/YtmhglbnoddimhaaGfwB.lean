/-
  What the call fromHighest of package gfpow answers: an iterator over a number's bits, from its highest 1 on.
-/
import Derived.Test.YtmhglbnoddimhaaGfwA
import Derived.RangeFuncNested
import Derived.RangeFuncBound
import Derived.RangeFuncCalls
import Derived.RangeFuncLeaves
import Derived.RangeFuncBox
import Derived.Shelf.Abstract
import Derived.Shelf.RegionOpen
import Derived.OwnWalkIn
import Derived.TacticsInMore
import Derived.LoopNIn
import Derived.LoopIn
import Derived.Sort.CutIn
namespace Go.Proofs.Ytmhglbnoddimhaa
open Go.RowKit G Go.Shelf
set_option linter.unusedVariables false
attribute [local go_sem] Oper.semAt_some

set_option maxRecDepth 100000 in
set_option maxHeartbeats 400000 in
theorem gRounds {a b : Int} {M : Nat} (K : Nat) (i : Wn a b M) (e : len M = K) (w : World) :
    Calls Try.prog 17 #[.agg #[.int .u64 a, .int .u64 b]] w (AnsI (K : Int) w) := by
  have hl := Lib.hid i
  have he := Lib.hid e
  clear i e
  go_enter Try.func17, Try.ntmps17
  go_wp2_with fail
  refine (cLen K hl.out he.out _).mono ?_
  rintro e w1 ⟨rfl, hb⟩
  have HB := Lib.hid (below_then (below_alloc (Below.refl _ _) _) hb)
  clear hb
  go_wp2_with fail
  go_ret
  exact ⟨rfl, HB.out⟩
/-- The bits of a number, k of them, from the highest one on, of L. -/
def hbits (N L : Nat) : Nat → List Bool
  | 0 => []
  | k + 1 => hbits N L k ++ [decide (N / 2 ^ (L - 1 - k) % 2 = 1)]
theorem hbits_length (N L : Nat) : ∀ k, (hbits N L k).length = k
  | 0 => rfl
  | k + 1 => by simp [hbits, hbits_length N L k]
/-- The number that bits tell, from the highest one on. -/
def val (l : List Bool) : Nat := l.foldl (fun v b => 2 * v + b.toNat) 0
theorem val_snoc (l : List Bool) (b : Bool) : val (l ++ [b]) = 2 * val l + b.toNat := by simp [val]
theorem val_hbits (N L : Nat) (h : N < 2 ^ L) : ∀ k, k ≤ L → val (hbits N L k) = N / 2 ^ (L - k)
  | 0, _ => by simp only [hbits, val, List.foldl_nil]; rw [Nat.sub_zero, Nat.div_eq_of_lt h]
  | k + 1, hk => by
    rw [hbits, val_snoc, val_hbits N L h k (by omega), show L - (k + 1) = L - 1 - k from by omega]
    have e : N / 2 ^ (L - k) = N / 2 ^ (L - 1 - k) / 2 := by
      rw [Nat.div_div_eq_div_mul, ← Nat.pow_succ]; congr 2; omega
    rw [e]
    have : (decide (N / 2 ^ (L - 1 - k) % 2 = 1)).toNat = N / 2 ^ (L - 1 - k) % 2 := by
      by_cases z : N / 2 ^ (L - 1 - k) % 2 = 1
      · simp [z]
      · have : N / 2 ^ (L - 1 - k) % 2 = 0 := by omega
        simp [this]
    rw [this]
    omega
/-- What a round of the iterator keeps: the block of the number. -/
def KpU (b : Nat) (o : Obj) (W W' : World) : Prop := W.heap[b]? = some o → W'.heap[b]? = some o
theorem kpU_t {b : Nat} {o : Obj} {A B C : World} (h : KpU b o A B) (k : KpU b o B C) : KpU b o A C := fun x => k (h x)
theorem kpU_b {b : Nat} {o : Obj} {w : World} (hb : b < w.heap.size) (W : World) (l : Nat) (x y : Obj) (hl : w.heap.size ≤ l) (h : W.heap[l]? = some x) (_ : x.isCells = false) (_ : x.isWalk = false) : KpU b o W (W.putObj l y) :=
  fun e => (World.putObj_heap_other (by omega)).trans e
theorem grown_of_below {w w' : World} (h : Below w.heap.size w w') : w.grownBy w' none := ⟨h.os, h.tape, h.output, h.size, fun i hi _ => h.block i hi⟩
theorem cell0_of_block {w : World} {b : Nat} {x y : Value} {t : TypeId} (h : w.heap[b]? = some (.cells #[x, y] t (0, 0))) : w.cell? ⟨b, 0, none⟩ = some x ∧ w.cell? ⟨b, 1, none⟩ = some y := by
  constructor <;> simp [World.cell?, h]

set_option maxRecDepth 100000 in
set_option maxHeartbeats 1000000 in
theorem highest1 (n : Nat) (hn : 1 ≤ n) (l Bn : Nat) (a b : Int) (N L : Nat) (i : Wn a b N) (hL : len N = L) (bL : L ≤ 1000) (J Jx : List Bool → World → Prop) (W : World)
    (hJ : AbidesFrom W.heap.size J)
    (hY : ∀ pre x W1, J pre W1 → pre.length < L → YieldAt Fence.wide (n - 1) Try.prog l #[.bool x] W1 fun e W' =>
      (e = .returned (.bool true) ∧ J (pre ++ [x]) W' ∧ KpU Bn (.cells #[.int .u64 a, .int .u64 b] 26 (0, 0)) W1 W') ∨ (e = .returned (.bool false) ∧ Jx (pre ++ [x]) W'))
    (hB : W.heap[Bn]? = some (.cells #[.int .u64 a, .int .u64 b] 26 (0, 0))) (h0 : J [] W) :
    CallsIn Fence.wide n Try.prog 55 #[.func (.yield l) #[] #[], .pointer (some ⟨Bn, 0, none⟩)] W fun e W' => (∃ v, e = .returned v) ∧
      ((∃ xs, xs = hbits N L L ∧ J xs W') ∨ (∃ pre, True ∧ Jx pre W')) := by
  have HI := Lib.hid i
  have HL := Lib.hid hL
  have HBl := Lib.hid hB
  have HJ := Lib.hid hJ
  have HY := Lib.hid hY
  have H0 := Lib.hid h0
  obtain ⟨c0, c1⟩ := cell0_of_block hB
  clear i hL hB hJ hY h0
  refine callsIn_of_wp Try.func55 rfl trivial ?_ rfl
  simp only [Try.ntmps55, List.size_toArray, List.length_cons, List.length_nil, Nat.reduceAdd, Nat.reduceSub, Array.replicate_succ, Array.replicate_zero, List.push_toArray, List.append_toArray, List.nil_append, List.cons_append]
  gi_wp2_with (refine ⟨trivial, ?_⟩; gi_at_call 17; refine (callsIn_wide.2 (gRounds L HI.out HL.out _)).mono ?_; rintro e w1 ⟨rfl, hb⟩; have HB1 := Lib.hid hb; clear hb)
  clear c0 c1
  gi_loopw [3] (fun i wr => ∃ k : Nat, k ≤ L ∧ i = .int .i64 ((L : Int) - 1 - k) ∧ Hid (J (hbits N L k) wr) ∧ Hid (wr.heap[Bn]? = some (.cells #[.int .u64 a, .int .u64 b] 26 (0, 0)))) (fun i _ => (intOf i + 1).toNat)
  case atStart => exact ⟨0, by omega, by simp, Lib.hid (HJ.out _ _ _ none H0.out (grown_of_below HB1.out) (fun r e => by cases e)), Lib.hid ((HB1.out.block _ (Array.getElem?_eq_some_iff.1 HBl.out).1).trans HBl.out)⟩
  case round =>
    obtain ⟨k, hk, rfl, hJ, hB⟩ := hrel
    by_cases hlt : k < L
    · obtain ⟨j, hj⟩ : ∃ j, j + k + 1 = L := ⟨L - 1 - k, by omega⟩
      have ej : (L : Int) - 1 - (k : Int) = (j : Int) := by omega
      rw [ej]
      have j0 : (0 : Int) ≤ (j : Int) := by omega
      have j1 : (j : Int) ≤ 1000 := by omega
      obtain ⟨c0, c1⟩ := cell0_of_block hB.out
      have jj := Lib.hid hj
      have eb := Lib.hid (show L - 1 - k = j from by omega)
      have hlen := Lib.hid (show (hbits N L k).length < L from by rw [hbits_length]; exact hlt)
      obtain ⟨x, hx⟩ : ∃ x, N / 2 ^ j % 2 = x := ⟨_, rfl⟩
      have HX := Lib.hid hx
      have x2 : x < 2 := by omega
      have hd : ((x : Int) == 1) = decide (x = 1) := by
        by_cases z : x = 1
        · subst z; rfl
        · have : x = 0 := by omega
          subst this; rfl
      clear ej hj hk hlt hx
      gi_wp2_with (refine ⟨trivial, ?_⟩; gi_at_call 56; refine (callsIn_wide.2 (cBitW j x HI.out HX.out _)).mono ?_; rintro e w2 ⟨rfl, hb⟩; have HB2 := Lib.hid hb; clear hb)
      obtain ⟨fn, tmps, assign, body, hy, hR⟩ := HY.out (hbits N L k) (decide (x = 1)) w2 (HJ.out _ _ _ none hJ.out (grown_of_below HB2.out) (fun r e => by cases e)) hlen.out
      have e1 := Lib.hid (show hbits N L k ++ [decide (x = 1)] = hbits N L (k + 1) from by rw [← HX.out, ← eb.out]; rfl)
      have B2 := Lib.hid ((HB2.out.block _ (Array.getElem?_eq_some_iff.1 hB.out).1).trans hB.out)
      clear hd
      rw [hy]
      gi_wp2
      refine hR.mono ?_
      rintro e W3 (⟨rfl, hJ3, hk3⟩ | ⟨rfl, hJx3⟩)
      · rw [e1.out] at hJ3
        have J3 := Lib.hid hJ3
        have B3 := Lib.hid (hk3 B2.out)
        clear hJ3 hk3
        gi_wp2
        go_roundw
        case rel => exact ⟨k + 1, by have := jj.out; omega, by rw [show (j : Int) - 1 = (L : Int) - 1 - ((k + 1 : Nat) : Int) from by have := jj.out; omega], J3, B3⟩
        case measure => simp [intOf]
      · gi_wp2
        refine bodyPost_ret (results_none rfl _ _ _) rfl ?_
        exact ⟨⟨_, rfl⟩, .inr ⟨_, trivial, hJx3⟩⟩
    · obtain rfl : k = L := by omega
      have e1 : (k : Int) - 1 - (k : Int) = -1 := by omega
      rw [e1]
      gi_wp2
      go_end0
      exact ⟨⟨_, rfl⟩, .inl ⟨_, rfl, hJ.out⟩⟩

set_option maxRecDepth 100000 in
set_option maxHeartbeats 1000000 in
theorem gFromHighest (a b : Int) (w : World) :
    Calls Try.prog 36 #[.agg #[.int .u64 a, .int .u64 b]] w (fun e w' => e = .returned (.func (.func 55) #[] #[.pointer (some ⟨w.heap.size, 0, none⟩)]) ∧ w.alloc (.cells #[.int .u64 a, .int .u64 b] 26) = w') := by
  go_enter Try.func36, Try.ntmps36
  go_wp2
  go_ret
  exact ⟨rfl, rfl⟩
theorem highest_stops (n : Nat) (hn : 1 ≤ n) (Bn : Nat) (a b : Int) (N L : Nat) (i : Wn a b N) (hL : len N = L) (bL : L ≤ 1000) (w : World) (hB : w.heap[Bn]? = some (.cells #[.int .u64 a, .int .u64 b] 26 (0, 0))) :
    SeqStopsK Fence.wide n Try.prog 55 #[.pointer (some ⟨Bn, 0, none⟩)] (fun x : Bool => #[Value.bool x]) (KpU Bn (.cells #[.int .u64 a, .int .u64 b] 26 (0, 0))) (fun xs => xs = hbits N L L) (fun _ => True) L w :=
  fun l J Jx W hW hJ _ hY h0 => highest1 n hn l Bn a b N L i hL bL J Jx W hJ hY ((hW.block _ (Array.getElem?_eq_some_iff.1 hB).1).trans hB) h0
end Go.Proofs.Ytmhglbnoddimhaa
