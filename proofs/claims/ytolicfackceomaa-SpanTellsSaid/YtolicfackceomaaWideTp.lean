/-
  What Put of the reference of layer 1 answers: the 16 bytes of a number.
-/
import Derived.Test.YtolicfackceomaaWideRj
import Derived.Test.YtolicfackceomaaWideTe
import Derived.Test.YtolicfackceomaaWideD
import Derived.LoopTactic
import Derived.Deep.LoopGhost
namespace Go.Proofs.Ytolicfackceomaa.Wd
open Go.RowKit
set_option linter.unusedVariables false

theorem rAddN (n m : Int) (hn : Rng n) (hm : Rng m) (w : World) :
    Calls Try.prog 37 #[.agg #[.int .u64 (hi n), .int .u64 (lo n)], .agg #[.int .u64 (hi m), .int .u64 (lo m)]] w (N2 (md (n + m)) (decide (340282366920938463463374607431768211456 ≤ n + m)) w) := by
  have h := rAdd (hi n) (lo n) (hi m) (lo m) (hi0 hn) (hi1 hn) (lo0 n) (lo1 n) (hi0 hm) (hi1 hm) (lo0 m) (lo1 m) w
  rw [hilo, hilo] at h
  refine h.mono ?_
  rintro e w' ⟨h, l, c, ⟨i, rfl⟩, rfl, hb⟩
  obtain ⟨rfl, rfl⟩ := of_is i
  exact ⟨rfl, hb⟩

/-- The number of eight bits. -/
theorem leB8 (xs : List Int) (hb : AreBits xs) (n : Int) (hn : leB xs = n) (k : Nat) : leB ((xs.drop (8 * k)).take 8) = n / 2 ^ (8 * k) % 256 := by
  rw [(leB_split _ (hb.drop _) 8).1, (leB_split xs hb (8 * k)).2, hn]; rfl
theorem pow8 (k : Nat) : (2 : Int) ^ (8 * k) = 256 ^ k := by rw [Int.pow_mul]; rfl
theorem bytesK_succ : ∀ (k : Nat) (v : Int), bytesK (k + 1) v = bytesK k v ++ [v / 256 ^ k % 256]
  | 0, v => by simp [bytesK]
  | k + 1, v => by
    have hp : (0 : Int) ≤ 256 := by decide
    rw [bytesK, bytesK_succ k (v / 256), bytesK, List.cons_append, Int.ediv_ediv_of_nonneg hp, Int.pow_succ, Int.mul_comm 256 (256 ^ k)]
theorem bl_bytesK : ∀ (k : Nat) (n : Int), bl k n = bytesK k n
  | 0, _ => rfl
  | k + 1, n => by rw [bl, bytesK_succ, bl_bytesK k n, pow8]

/-- A list of ints whose block lies where it lies. -/
structure Kept (g : Nat) (xs : List Int) (wr : World) : Prop where
  ints : Ints wr g 0 xs
  blk : ∃ cur, wr.heap[g]? = some (.cells cur 3 (0, 0))
theorem Kept.of {w w' : World} {g : Nat} {xs : List Int} (h : Kept g xs w) (e : w'.heap[g]? = w.heap[g]?) : Kept g xs w' :=
  ⟨fun i hi => (World.cell?_of_block (w := w) (w' := w') (a := ⟨g, 0 + i, none⟩) e).trans (h.ints i hi), by rw [e]; exact h.blk⟩
theorem Kept.lt {w : World} {g : Nat} {xs : List Int} (h : Kept g xs w) : g < w.heap.size := by
  obtain ⟨cur, hc⟩ := h.blk
  exact (Array.getElem?_eq_some_iff.1 hc).1
theorem Kept.alloc {w : World} {g : Nat} {xs : List Int} (h : Kept g xs w) (o : Obj) : Kept g xs (w.alloc o) := h.of (Below.heap_alloc w o g h.lt)
theorem Kept.row {w : World} {base g n cap : Nat} {xs : List Int} (h : w.ownsRow base 3 1 (.slice (some ⟨g, 0, none⟩) n cap) n (xs.map (Value.int .i64))) : Kept g xs w := by
  refine ⟨ints_of_owns h, ?_⟩
  rcases h.2 with ⟨q, _⟩ | ⟨g', c', cur, q, _, hh, _⟩
  · cases q
  · injection q with q
    injection q with q
    injection q with q
    rw [q]; exact ⟨cur, hh⟩
theorem int_ne_byte : (3 : TypeId) ≠ 5 := by decide
theorem Kept.ne {w : World} {g base k : Nat} {xs : List Int} {v : Value} {ys : List Value} (h : Kept g xs w) (own : w.ownsRow base 5 1 v k ys) : some g ≠ v.ownBlock := by
  intro e
  obtain ⟨cur, hc⟩ := h.blk
  rcases own.2 with ⟨rfl, _⟩ | ⟨g', c', cur', rfl, _, hh, _⟩
  · cases e
  · injection e with e
    rw [e] at hc
    rw [hc] at hh
    injection hh with hh
    injection hh with _ hh
    exact int_ne_byte hh

structure PutAt (W0 : World) (n : Int) (g : Nat) (xs : List Int) (k : Nat) (v : Value) (wr : World) : Prop where
  own : wr.ownsRow W0.heap.size 5 1 v k ((bl k n).map (Value.int .u8))
  far : Below W0.heap.size W0 wr
  kept : Kept g xs wr
theorem PutAt.step {W0 : World} {n : Int} {g k : Nat} {xs : List Int} {v v' : Value} {wr w1 : World} {o : Obj} (inv : PutAt W0 n g xs k v wr)
    (hown' : w1.ownsRow W0.heap.size 5 1 v' (k + 1) ((bl k n).map (Value.int .u8) ++ [.int .u8 (n / 2 ^ (8 * k) % 256)])) (hgrow : (wr.alloc o).grownBy w1 v.ownBlock) : PutAt W0 n g xs (k + 1) v' w1 := by
  have kp := inv.kept.alloc o
  refine ⟨?_, (below_alloc inv.far o).grown hgrow (by have := inv.far.size; simp; omega) (fun j hj => (inv.own.lt j hj).1), kp.of (hgrow.block g kp.lt (inv.kept.ne inv.own))⟩
  rw [bl, List.map_append]
  exact hown'
theorem byte_row {w : World} {base k : Nat} {v : Value} {ys : List Int} (h : w.ownsRow base 5 1 v k (ys.map (Value.int .u8))) (hl : ys.length = k) (h0 : 0 < k) :
    ∃ g cap, v = .slice (some ⟨g, 0, none⟩) k cap ∧ g < w.heap.size ∧ k ≤ cap ∧ Bytes w g 0 ys := by
  obtain ⟨_, h2⟩ := id h
  rcases h2 with ⟨_, q⟩ | ⟨g, cap, cur, rfl, _, hh, hc, _⟩
  · omega
  · refine ⟨g, cap, rfl, (Array.getElem?_eq_some_iff.1 hh).1, hc, fun i hi => ?_⟩
    rw [Nat.zero_add, h.cellAt i (by omega)]
    simp [List.getElem?_eq_getElem hi]

end Go.Proofs.Ytolicfackceomaa.Wd
