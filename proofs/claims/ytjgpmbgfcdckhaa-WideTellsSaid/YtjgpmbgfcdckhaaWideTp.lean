/-
  What Put of the reference of layer 1 answers: the 16 bytes of a number.
-/
import Derived.Test.YtjgpmbgfcdckhaaWideTl
import Derived.Test.YtjgpmbgfcdckhaaWideTj
import Derived.Test.YtjgpmbgfcdckhaaWideTe
import Derived.Test.YtjgpmbgfcdckhaaWideTk
import Derived.Test.YtjgpmbgfcdckhaaWideD
import Derived.LoopTactic
import Derived.Deep.LoopGhost
namespace Go.Proofs.Ytjgpmbgfcdckhaa
open Go.RowKit
set_option linter.unusedVariables false

theorem rAddN (n m : Int) (hn : Rng n) (hm : Rng m) (w : World) :
    Calls Try.prog 6 #[.agg #[.int .u64 (hi n), .int .u64 (lo n)], .agg #[.int .u64 (hi m), .int .u64 (lo m)]] w (N2 (md (n + m)) (decide (340282366920938463463374607431768211456 ≤ n + m)) w) := by
  have h := rAdd (hi n) (lo n) (hi m) (lo m) (hi0 hn) (hi1 hn) (lo0 n) (lo1 n) (hi0 hm) (hi1 hm) (lo0 m) (lo1 m) w
  rw [hilo, hilo] at h
  refine h.mono ?_
  rintro e w' ⟨h, l, c, ⟨i, rfl⟩, rfl, hb⟩
  obtain ⟨rfl, rfl⟩ := of_is i
  exact ⟨rfl, hb⟩

/-- The number of eight bits. -/
theorem leB8 (xs : List Int) (hb : AreBits xs) (n : Int) (hn : leB xs = n) (k : Nat) : leB ((xs.drop (8 * k)).take 8) = n / 2 ^ (8 * k) % 256 := by
  rw [(leB_split _ (hb.drop _) 8).1, (leB_split xs hb (8 * k)).2, hn]; rfl
theorem pow8 (k : Nat) : (2 : Int) ^ (8 * k) = 256 ^ k := by rw [Int.pow_mul]; rfl
theorem bytesK_succ : ∀ (k : Nat) (v : Int), bytesK (k + 1) v = bytesK k v ++ [v / 256 ^ k % 256]
  | 0, v => by simp [bytesK]
  | k + 1, v => by
    have hp : (0 : Int) ≤ 256 := by decide
    rw [bytesK, bytesK_succ k (v / 256), bytesK, List.cons_append, Int.ediv_ediv_of_nonneg hp, Int.pow_succ, Int.mul_comm 256 (256 ^ k)]
theorem bl_bytesK : ∀ (k : Nat) (n : Int), bl k n = bytesK k n
  | 0, _ => rfl
  | k + 1, n => by rw [bl, bytesK_succ, bl_bytesK k n, pow8]

/-- A list of ints whose block lies where it lies. -/
structure Kept (g : Nat) (xs : List Int) (wr : World) : Prop where
  ints : Ints wr g 0 xs
  blk : ∃ cur, wr.heap[g]? = some (.cells cur 3 (0, 0))
theorem Kept.of {w w' : World} {g : Nat} {xs : List Int} (h : Kept g xs w) (e : w'.heap[g]? = w.heap[g]?) : Kept g xs w' :=
  ⟨fun i hi => (World.cell?_of_block (w := w) (w' := w') (a := ⟨g, 0 + i, none⟩) e).trans (h.ints i hi), by rw [e]; exact h.blk⟩
theorem Kept.lt {w : World} {g : Nat} {xs : List Int} (h : Kept g xs w) : g < w.heap.size := by
  obtain ⟨cur, hc⟩ := h.blk
  exact (Array.getElem?_eq_some_iff.1 hc).1
theorem Kept.alloc {w : World} {g : Nat} {xs : List Int} (h : Kept g xs w) (o : Obj) : Kept g xs (w.alloc o) := h.of (Below.heap_alloc w o g h.lt)
theorem Kept.row {w : World} {base g n cap : Nat} {xs : List Int} (h : w.ownsRow base 3 1 (.slice (some ⟨g, 0, none⟩) n cap) n (xs.map (Value.int .i64))) : Kept g xs w := by
  refine ⟨ints_of_owns h, ?_⟩
  rcases h.2 with ⟨q, _⟩ | ⟨g', c', cur, q, _, hh, _⟩
  · cases q
  · injection q with q
    injection q with q
    injection q with q
    rw [q]; exact ⟨cur, hh⟩
theorem int_ne_byte : (3 : TypeId) ≠ 5 := by decide
theorem Kept.ne {w : World} {g base k : Nat} {xs : List Int} {v : Value} {ys : List Value} (h : Kept g xs w) (own : w.ownsRow base 5 1 v k ys) : some g ≠ v.ownBlock := by
  intro e
  obtain ⟨cur, hc⟩ := h.blk
  rcases own.2 with ⟨rfl, _⟩ | ⟨g', c', cur', rfl, _, hh, _⟩
  · cases e
  · injection e with e
    rw [e] at hc
    rw [hc] at hh
    injection hh with hh
    injection hh with _ hh
    exact int_ne_byte hh

structure PutAt (W0 : World) (n : Int) (g : Nat) (xs : List Int) (k : Nat) (v : Value) (wr : World) : Prop where
  own : wr.ownsRow W0.heap.size 5 1 v k ((bl k n).map (Value.int .u8))
  far : Below W0.heap.size W0 wr
  kept : Kept g xs wr
theorem PutAt.step {W0 : World} {n : Int} {g k : Nat} {xs : List Int} {v v' : Value} {wr w1 : World} {o : Obj} (inv : PutAt W0 n g xs k v wr)
    (hown' : w1.ownsRow W0.heap.size 5 1 v' (k + 1) ((bl k n).map (Value.int .u8) ++ [.int .u8 (n / 2 ^ (8 * k) % 256)])) (hgrow : (wr.alloc o).grownBy w1 v.ownBlock) : PutAt W0 n g xs (k + 1) v' w1 := by
  have kp := inv.kept.alloc o
  refine ⟨?_, (below_alloc inv.far o).grown hgrow (by have := inv.far.size; simp; omega) (fun j hj => (inv.own.lt j hj).1), kp.of (hgrow.block g kp.lt (inv.kept.ne inv.own))⟩
  rw [bl, List.map_append]
  exact hown'
theorem byte_row {w : World} {base k : Nat} {v : Value} {ys : List Int} (h : w.ownsRow base 5 1 v k (ys.map (Value.int .u8))) (hl : ys.length = k) (h0 : 0 < k) :
    ∃ g cap, v = .slice (some ⟨g, 0, none⟩) k cap ∧ g < w.heap.size ∧ k ≤ cap ∧ Bytes w g 0 ys := by
  obtain ⟨_, h2⟩ := id h
  rcases h2 with ⟨_, q⟩ | ⟨g, cap, cur, rfl, _, hh, hc, _⟩
  · omega
  · refine ⟨g, cap, rfl, (Array.getElem?_eq_some_iff.1 hh).1, hc, fun i hi => ?_⟩
    rw [Nat.zero_add, h.cellAt i (by omega)]
    simp [List.getElem?_eq_getElem hi]

set_option maxRecDepth 100000 in
set_option maxHeartbeats 2000000 in
theorem rPut (n : Int) (xs : List Int) (hx : Hid (bits128 n = xs)) (bx : Hid (AreBits xs)) (lx : Hid (xs.length = 128)) (vx : Hid (leB xs = n)) (h : Rng n) (w : World) :
    Calls Try.prog 27 #[.agg #[.int .u64 (hi n), .int .u64 (lo n)]] w (fun e w' => ∃ g cap, e = .returned (.slice (some ⟨g, 0, none⟩) 16 cap) ∧ Bytes w' g 0 (bytesK 16 n) ∧ g < w'.heap.size ∧ 16 ≤ cap ∧ Below w.heap.size w w') := by
  obtain ⟨i0, hi', hz0, hz1, hz2⟩ := info_parts infoByte
  have HI := Lib.hid hi'
  have HZ0 := Lib.hid hz0
  have HZ1 := Lib.hid hz1
  have HZ2 := Lib.hid hz2
  clear hi' hz0 hz1 hz2
  go_enter Try.func27, Try.ntmps27
  go_wp2_with fail
  refine (rListN n xs hx.out h _).mono ?_
  rintro e w1 ⟨g, cap, rfl, l1, l2, l3, own, hb⟩
  have st : PutAt (w.alloc (.cells #[.int .u64 (hi n), .int .u64 (lo n)] 27)) n g xs 0 (.slice (some ⟨(w.alloc (.cells #[.int .u64 (hi n), .int .u64 (lo n)] 27)).heap.size, 0, none⟩) 0 0) w1 :=
    ⟨owns_below (World.ownsRow_made _ #[] 0 (Nat.le_refl _) (by decide) rfl) hb, below_then (below_alloc (Below.refl _ _) _) hb, Kept.row own⟩
  have hB : Below w.heap.size w (w.alloc (.cells #[.int .u64 (hi n), .int .u64 (lo n)] 27)) := below_alloc (Below.refl _ _) _
  have l4 : xs.length = 128 := lx.out
  have hs : (w.alloc (.cells #[.int .u64 (hi n), .int .u64 (lo n)] 27)).heap.size = w.heap.size + 1 := by simp
  rw [hs] at st
  generalize (w.alloc (.cells #[.int .u64 (hi n), .int .u64 (lo n)] 27)) = W0 at st hB hs ⊢
  have HS := Lib.hid hs
  have ST := Lib.hid st
  have HB := Lib.hid hB
  clear own hb l1 l3 st hB hs
  go_wp2_with fail
  go_loopg [3, 5] 16 (fun q v i wr => ∃ k : Nat, k + q = 16 ∧ i = .int .i64 k ∧ Hid (PutAt W0 n g xs k v wr))
  case atStart => exact ⟨0, by omega, rfl, ST⟩
  case round =>
    clear ST
    obtain ⟨k, hk, rfl, INV⟩ := hrel
    by_cases hlt : k < 16
    · have kl : (k : Int) < 16 := by omega
      obtain ⟨go, rfl⟩ : ∃ go, go = gk := ⟨_, rfl⟩
      have yl : ((xs.drop (8 * k)).take 8).length = 8 := by rw [List.length_take, List.length_drop, l4]; omega
      have yb : AreBits ((xs.drop (8 * k)).take 8) := (bx.out.drop _).take _
      have yg : ∀ j, j < 8 → xs.getD (8 * k + j) 0 = ((xs.drop (8 * k)).take 8).getD j 0 := by
        intro j hj
        simp [hj]
      have yv := leB8 xs bx.out n vx.out k
      generalize (xs.drop (8 * k)).take 8 = ys at yl yb yg yv
      have y8 := leB_bd ys yb
      rw [yl] at y8
      have YB := Lib.hid yb
      have YG := Lib.hid yg
      have YV := Lib.hid yv
      have YL := Lib.hid yl
      clear yl yb yg yv
      go_wp2
      go_loopg [6, 7] 8 (fun q u i wr' => ∃ (m : Int), q ≤ 8 ∧ i = .int .i64 ((q : Int) - 1) ∧ u = .int .i64 m ∧ Hid (m = leB (ys.drop q)) ∧ wr' = wr)
      case atStart => exact ⟨0, by omega, rfl, rfl, Lib.hid (by rw [List.drop_eq_nil_of_le (by rw [YL.out]; omega)]; rfl), rfl⟩
      case round =>
        obtain ⟨m, hq, rfl, rfl, HM, rfl⟩ := hrel
        by_cases h0 : gk = 0
        · subst h0
          have e : m = n / 2 ^ (8 * k) % 256 := by rw [HM.out, List.drop_zero]; exact YV.out
          have m0 : 0 ≤ m := by omega
          have m1 : m < 256 := by omega
          have OWN := Lib.hid INV.out.own
          have hsz := INV.out.far.size
          have E := Lib.hid e
          clear e
          go_wp2_with (at_builtin; refine wpList_append_own _ rfl _ _ 25 rfl W0.heap.size 5 i0 (.int .u8 0) 1 1 Try.underlying25 HI.out HZ0.out HZ1.out HZ2.out rfl (by decide) _ _ _ rfl (OWN.out.alloc _) ⟨wr.heap.size, 0, none⟩ 1 1 [.int .u8 m] rfl rfl ?c1 ?c2 ?c3 ?c4 ?c5 ?_)
          case c1 => exact new1 wr _ _
          case c2 => simp [Value.oneCell']
          case c3 => unfold maxLen; omega
          case c4 => omega
          case c5 => simp; omega
          intro v' w2 hown' hgrow _
          have INV' := Lib.hid (INV.out.step (by rw [← E.out]; exact hown') hgrow)
          clear hown' hgrow OWN
          go_wp2
          go_roundg (go - 1)
          case rel => exact ⟨k + 1, by omega, by go_num, INV'⟩
          case measure => omega
        · obtain ⟨j, rfl⟩ : ∃ j, gk = j + 1 := ⟨gk - 1, by omega⟩
          have j1 : (((j + 1 : Nat) : Int) - 1) = (j : Int) := by omega
          rw [j1]
          have j0 : (0 : Int) ≤ (j : Int) := by omega
          have b1 := leB_bd _ (YB.out.drop (j + 1))
          have hm0 : 0 ≤ m := by rw [HM.out]; exact b1.1
          have hm1 : m < 256 := by
            have e2 : leB (ys.drop (j + 1)) < 2 ^ (8 : Nat) := Int.lt_of_lt_of_le b1.2 (by
              have : (ys.drop (j + 1)).length ≤ 8 := by rw [List.length_drop, YL.out]; omega
              exact_mod_cast Nat.pow_le_pow_right (show 0 < 2 by omega) this)
            rw [HM.out]; exact e2
          obtain ⟨t, ht⟩ : ∃ t, t = 8 * k + j := ⟨_, rfl⟩
          have cl := INV.out.kept.ints t (by omega)
          rw [Nat.zero_add, ht, YG.out j (by omega), ← ht] at cl
          have yb := YB.out (ys.getD j 0) (by
            have h : j < ys.length := by rw [YL.out]; omega
            rw [List.getD_eq_getElem?_getD, List.getElem?_eq_getElem h]
            exact List.getElem_mem h)
          have stp : leB (ys.drop j) = ys.getD j 0 + 2 * leB (ys.drop (j + 1)) := by
            have h : j < ys.length := by rw [YL.out]; omega
            rw [List.drop_eq_getElem_cons h]
            simp [leB, List.getElem?_eq_getElem h]
          rw [← HM.out] at stp
          have STP := Lib.hid stp
          clear stp HM b1
          generalize ys.getD j 0 = y at cl yb STP
          obtain ⟨y0, y1⟩ := yb
          have t1 : 8 * (k : Int) + (j : Int) = (t : Int) := by omega
          have t2 : (t : Int) < (xs.length : Int) := by omega
          have t3 : (0 : Int) ≤ (t : Int) := by omega
          clear ht
          go_wp2
          go_roundg j
          case rel => exact ⟨_, by omega, rfl, rfl, Lib.hid (by rw [STP.out]; first | omega | (simp; omega)), rfl⟩
          case measure => omega
    · obtain rfl : k = 16 := by omega
      go_wp2
      go_ret
      obtain ⟨g', cap', rfl, hg, hc, hby⟩ := byte_row INV.out.own (bl_length 16 n) (by omega)
      exact ⟨g', cap', rfl, by rw [← bl_bytesK]; exact hby, hg, hc, below_then HB.out INV.out.far⟩
end Go.Proofs.Ytjgpmbgfcdckhaa
