/-
  What Sum of the reference of layer 1 answers: lists of bits that are added as numbers are.
-/
import Derived.Test.YtdmoedjjbhkdmaaWideTp
import Derived.Test.YtdmoedjjbhkdmaaWideRj
import Derived.BigQuiet
namespace Go.Proofs.Ytdmoedjjbhkdmaa.Wd
open Go.RowKit
set_option linter.unusedVariables false
set_option maxRecDepth 100000

/-- What is carried into a place. -/
def car (xs ys : List Int) : Nat → Int
  | 0 => 0
  | k + 1 => (xs.getD k 0 + ys.getD k 0 + car xs ys k) / 2
def sumB (xs ys : List Int) : Nat → List Int
  | 0 => []
  | k + 1 => sumB xs ys k ++ [(xs.getD k 0 + ys.getD k 0 + car xs ys k) % 2]
def sumAll (xs ys : List Int) (k : Nat) : List Int := sumB xs ys k ++ [car xs ys k]
theorem sumB_len (xs ys : List Int) : ∀ k, (sumB xs ys k).length = k
  | 0 => rfl
  | k + 1 => by rw [sumB, List.length_append, sumB_len xs ys k]; rfl
theorem bit_at {xs : List Int} (h : AreBits xs) (k : Nat) : 0 ≤ xs.getD k 0 ∧ xs.getD k 0 ≤ 1 := by
  by_cases hk : k < xs.length
  · rw [List.getD_eq_getElem?_getD, List.getElem?_eq_getElem hk]
    exact h _ (List.getElem_mem hk)
  · rw [List.getD_eq_getElem?_getD, List.getElem?_eq_none (by omega)]
    exact ⟨by decide, by decide⟩
theorem car_bd {xs ys : List Int} (hx : AreBits xs) (hy : AreBits ys) : ∀ k, 0 ≤ car xs ys k ∧ car xs ys k ≤ 1
  | 0 => ⟨Int.le_refl 0, (by decide : (0 : Int) ≤ 1)⟩
  | k + 1 => by
    have := car_bd hx hy k
    have := bit_at hx k
    have := bit_at hy k
    unfold car
    omega
theorem sumB_bits {xs ys : List Int} (hx : AreBits xs) (hy : AreBits ys) : ∀ k, AreBits (sumB xs ys k)
  | 0 => fun x h => by simp [sumB] at h
  | k + 1 => fun x h => by
    simp only [sumB, List.mem_append, List.mem_singleton] at h
    rcases h with h | rfl
    · exact sumB_bits hx hy k x h
    · omega
theorem leB_one (x : Int) : leB [x] = x := by simp [leB]
theorem sumB_val {xs ys : List Int} (hx : AreBits xs) (hy : AreBits ys) (L : Nat) (lx : xs.length = L) (ly : ys.length = L) : ∀ k, k ≤ L → leB (sumB xs ys k) + 2 ^ k * car xs ys k = leB (xs.take k) + leB (ys.take k)
  | 0, _ => by simp [sumB, car, leB]
  | k + 1, h => by
    have ih := sumB_val hx hy L lx ly k (by omega)
    rw [take_next xs k (by omega), take_next ys k (by omega)]
    show leB (sumB xs ys k ++ [(xs.getD k 0 + ys.getD k 0 + car xs ys k) % 2]) + 2 ^ (k + 1) * ((xs.getD k 0 + ys.getD k 0 + car xs ys k) / 2) = _
    rw [leB_append, leB_one, sumB_len, Int.pow_succ, Int.mul_assoc, Int.add_assoc, ← Int.mul_add]
    have e : (xs.getD k 0 + ys.getD k 0 + car xs ys k) % 2 + 2 * ((xs.getD k 0 + ys.getD k 0 + car xs ys k) / 2) = xs.getD k 0 + ys.getD k 0 + car xs ys k := by omega
    rw [e, Int.mul_add, Int.mul_add]
    omega
theorem sumAll_len (xs ys : List Int) (k : Nat) : (sumAll xs ys k).length = k + 1 := by rw [sumAll, List.length_append, sumB_len]; rfl
theorem sumAll_bits {xs ys : List Int} (hx : AreBits xs) (hy : AreBits ys) (k : Nat) : AreBits (sumAll xs ys k) := fun x h => by
  rcases List.mem_append.1 h with h | h
  · exact sumB_bits hx hy k x h
  · rw [List.mem_singleton] at h
    subst h
    exact car_bd hx hy k
theorem sumAll_val {xs ys : List Int} (hx : AreBits xs) (hy : AreBits ys) (L : Nat) (lx : xs.length = L) (ly : ys.length = L) : leB (sumAll xs ys L) = leB xs + leB ys := by
  rw [sumAll, leB_append, leB_one, sumB_len, sumB_val hx hy L lx ly L (Nat.le_refl _), List.take_of_length_le (by omega), List.take_of_length_le (by omega)]
structure SumInv (w : World) (xs ys : List Int) (k : Nat) (v : Value) (wr : World) : Prop where
  own : wr.ownsRow w.heap.size 3 1 v (sumB xs ys k).length ((sumB xs ys k).map (Value.int .i64))
  below : Below w.heap.size w wr
theorem sum_start (w : World) (xs ys : List Int) : SumInv w xs ys 0 (.slice (some ⟨w.heap.size, 0, none⟩) 0 0) (w.alloc (.cells #[] 3)) :=
  ⟨World.ownsRow_made w #[] 0 (Nat.le_refl _) (by decide) rfl, below_alloc (Below.refl _ _) _⟩
theorem SumInv.drewN {w wr : World} {xs ys : List Int} {k : Nat} {v : Value} (h : SumInv w xs ys k v wr) (n : Nat) : SumInv w xs ys k v (wr.drewN n) :=
  ⟨owns_below h.own (below_drewN n), below_drewN' h.below n⟩
theorem sum_step {w : World} {xs ys : List Int} {k : Nat} {v v' : Value} {wr w1 : World} {o : Obj} {t : Int} (inv : SumInv w xs ys k v wr) (ht : (xs.getD k 0 + ys.getD k 0 + car xs ys k) % 2 = t)
    (hown' : w1.ownsRow w.heap.size 3 1 v' ((sumB xs ys k).length + 1) ((sumB xs ys k).map (Value.int .i64) ++ [.int .i64 t])) (hgrow : (wr.alloc o).grownBy w1 v.ownBlock) : SumInv w xs ys (k + 1) v' w1 := by
  subst ht
  refine ⟨?_, (below_alloc inv.below o).grown hgrow (by have := inv.below.size; simp; omega) (fun j hj => (inv.own.lt j hj).1)⟩
  simpa [sumB] using hown'
theorem sum_last {w : World} {xs ys : List Int} {k : Nat} {v v' : Value} {wr w1 : World} {o : Obj} {t : Int} (inv : SumInv w xs ys k v wr) (ht : car xs ys k = t)
    (hown' : w1.ownsRow w.heap.size 3 1 v' ((sumB xs ys k).length + 1) ((sumB xs ys k).map (Value.int .i64) ++ [.int .i64 t])) (hgrow : (wr.alloc o).grownBy w1 v.ownBlock) :
    w1.ownsRow w.heap.size 3 1 v' (sumAll xs ys k).length ((sumAll xs ys k).map (Value.int .i64)) ∧ Below w.heap.size w w1 := by
  subst ht
  refine ⟨?_, (below_alloc inv.below o).grown hgrow (by have := inv.below.size; simp; omega) (fun j hj => (inv.own.lt j hj).1)⟩
  simpa [sumAll] using hown'
set_option maxHeartbeats 4000000 in
theorem rSumL (ga ca gb cb L : Nat) (xs ys : List Int) (hx : AreBits xs) (hy : AreBits ys) (lx : xs.length = L) (ly : ys.length = L) (hL : L ≤ 1000) (w : World) (ha : ga < w.heap.size) (hb : gb < w.heap.size) (ia : Ints w ga 0 xs) (ib : Ints w gb 0 ys) :
    Calls Try.prog 33 #[.slice (some ⟨ga, 0, none⟩) L ca, .slice (some ⟨gb, 0, none⟩) L cb] w (Row (sumAll xs ys L) w) := by
  obtain ⟨i0, hi, hz0, hz1, hz2⟩ := info_parts infoInt
  have HI := Lib.hid hi
  have HZ0 := Lib.hid hz0
  have HZ1 := Lib.hid hz1
  have HZ2 := Lib.hid hz2
  clear hi hz0 hz1 hz2
  have IA := Lib.hid ia
  have IB := Lib.hid ib
  have HX := Lib.hid hx
  have HY := Lib.hid hy
  have LX := Lib.hid lx
  have LY := Lib.hid ly
  clear ia ib hx hy lx ly
  go_enter Try.func33, Try.ntmps33
  go_wp2
  go_loopw [5, 6, 7] (fun v c i wr => ∃ (k : Nat) (m : Int), k ≤ L ∧ i = .int .i64 k ∧ c = .int .i64 m ∧ car xs ys k = m ∧ SumInv w xs ys k v wr) (fun _ _ i _ => L - (intOf i).toNat)
  case atStart => exact ⟨0, 0, by omega, rfl, rfl, rfl, sum_start w xs ys⟩
  case round =>
    obtain ⟨k, m, hk, rfl, rfl, hm, inv⟩ := hrel
    have cb := car_bd HX.out HY.out k
    rw [hm] at cb
    obtain ⟨m0, m1⟩ := cb
    have HM := Lib.hid hm
    clear hm
    have INV := Lib.hid inv
    have hsz := inv.below.size
    clear inv
    have HL := Lib.hid (sumB_len xs ys k)
    by_cases hlt : k < L
    · have hlt' : (k : Int) < (L : Int) := by omega
      have k0 : (0 : Int) ≤ (k : Int) := by omega
      have cx := (IA.out.below ha INV.out.below) k (by rw [LX.out]; exact hlt)
      have cy := (IB.out.below hb INV.out.below) k (by rw [LY.out]; exact hlt)
      rw [Nat.zero_add] at cx cy
      have bx := bit_at HX.out k
      have by' := bit_at HY.out k
      obtain ⟨x, ex⟩ : ∃ x, xs.getD k 0 = x := ⟨_, rfl⟩
      obtain ⟨y, ey⟩ : ∃ y, ys.getD k 0 = y := ⟨_, rfl⟩
      rw [ex] at cx bx
      rw [ey] at cy by'
      have EX := Lib.hid ex
      have EY := Lib.hid ey
      clear ex ey
      obtain ⟨x0, x1⟩ := bx
      obtain ⟨y0, y1⟩ := by'
      have v1 : IntKind.i64.wrap (x + y) = x + y := by rw [IntKind.wrap_i64]; omega
      have v2 : IntKind.i64.wrap (x + y + m) = x + y + m := by rw [IntKind.wrap_i64]; omega
      go_wp2_with fail
      go_quiet (fail)
      obtain ⟨tt, ht⟩ : ∃ tt, x + y + m = tt := ⟨_, rfl⟩
      rw [ht]
      have t0 : 0 ≤ tt := by omega
      have t1 : tt ≤ 3 := by omega
      have INVQ := Lib.hid (INV.out.drewN nq)
      clear cx cy INV v1 v2 hsz
      have hsz := INVQ.out.below.size
      generalize wr.drewN nq = wq at INVQ hsz ⊢
      obtain ⟨r, hr⟩ : ∃ r, tt % 2 = r := ⟨_, rfl⟩
      obtain ⟨q, hq⟩ : ∃ q, tt / 2 = q := ⟨_, rfl⟩
      have hr' : tt.tmod 2 = r := by rw [Int.tmod_eq_emod_of_nonneg t0]; exact hr
      have hq' : tt.tdiv 2 = q := by rw [Int.tdiv_eq_ediv_of_nonneg t0]; exact hq
      have v1 : IntKind.i64.wrap r = r := by rw [IntKind.wrap_i64]; omega
      have v2 : IntKind.i64.wrap q = q := by rw [IntKind.wrap_i64]; omega
      have HR : Hid ((xs.getD k 0 + ys.getD k 0 + car xs ys k) % 2 = r) := Lib.hid (by rw [EX.out, EY.out, HM.out, ht, hr])
      have HQ : Hid (car xs ys (k + 1) = q) := Lib.hid (by show (xs.getD k 0 + ys.getD k 0 + car xs ys k) / 2 = q; rw [EX.out, EY.out, HM.out, ht, hq])
      clear ht
      go_wp2_with (at_builtin; refine wpList_append_own _ rfl _ _ 68 rfl w.heap.size 3 i0 (.int .i64 0) 1 8 Try.underlying68 HI.out HZ0.out HZ1.out HZ2.out rfl (by decide) _ _ _ rfl (INVQ.out.own.alloc _) ⟨wq.heap.size, 0, none⟩ 1 1 [.int .i64 r] rfl rfl ?c1 ?c2 ?c3 ?c4 ?c5 ?_)
      case c1 => exact new1 wq _ _
      case c2 => simp [Value.oneCell']
      case c3 => rw [HL.out]; unfold maxLen; omega
      case c4 => rw [HL.out]; omega
      case c5 => simp; omega
      intro v' w1 hown' hgrow _
      have INV' := Lib.hid (sum_step INVQ.out HR.out hown' hgrow)
      clear hown' hgrow INVQ
      go_wp2
      go_roundw
      case rel => exact ⟨k + 1, q, by omega, by go_num, rfl, HQ.out, INV'.out⟩
      case measure => simp [intOf]; omega
    · obtain rfl : k = L := by omega
      have hlt' : ¬ (k : Int) < (k : Int) := by omega
      go_wp2_with (at_builtin; refine wpList_append_own _ rfl _ _ 68 rfl w.heap.size 3 i0 (.int .i64 0) 1 8 Try.underlying68 HI.out HZ0.out HZ1.out HZ2.out rfl (by decide) _ _ _ rfl (INV.out.own.alloc _) ⟨wr.heap.size, 0, none⟩ 1 1 [.int .i64 m] rfl rfl ?d1 ?d2 ?d3 ?d4 ?d5 ?_)
      case d2 => first | (simp [Value.oneCell']) | rfl
      case d3 => rw [HL.out]; unfold maxLen; omega
      case d4 => rw [HL.out]; omega
      case d5 => first | omega | (simp; omega)
      intro v' w1 hown' hgrow _
      have END := Lib.hid (sum_last INV.out HM.out hown' hgrow)
      clear hown' hgrow
      go_wp2
      go_ret
      exact ⟨_, rfl, END.out.1, END.out.2⟩
end Go.Proofs.Ytdmoedjjbhkdmaa.Wd
