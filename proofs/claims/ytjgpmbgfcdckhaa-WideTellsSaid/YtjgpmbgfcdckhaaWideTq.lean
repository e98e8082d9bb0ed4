/-
  What Take of the reference of layer 1 answers: the number of 16 bytes.
-/
import Derived.Test.YtjgpmbgfcdckhaaWideTp
namespace Go.Proofs.Ytjgpmbgfcdckhaa
open Go.RowKit
set_option linter.unusedVariables false

theorem bitsK_take : ∀ (b a : Nat) (v : Int), (bitsK (a + b) v).take a = bitsK a v
  | 0, a, v => by rw [Nat.add_zero, List.take_of_length_le (by rw [bitsK_length]; omega)]
  | b + 1, a, v => by
    show (bitsK (a + b) v ++ [_]).take a = _
    rw [List.take_append_of_le_length (by rw [bitsK_length]; omega), bitsK_take b a v]
/-- The bits of the first k bytes. -/
def tb : Nat → List Int → List Int
  | 0, _ => []
  | k + 1, xs => tb k xs ++ bitsK 8 (xs.getD k 0)
theorem tb_length : ∀ (k : Nat) (xs : List Int), (tb k xs).length = 8 * k
  | 0, _ => rfl
  | k + 1, xs => by rw [tb, List.length_append, tb_length k xs, bitsK_length]; omega
theorem tb_bits : ∀ (k : Nat) (xs : List Int), AreBits (tb k xs)
  | 0, _ => fun x hx => by simp [tb] at hx
  | k + 1, xs => by
    intro x hx
    rcases List.mem_append.1 hx with h | h
    · exact tb_bits k xs x h
    · exact bitsK_bits _ _ x h
theorem le256_append : ∀ (xs ys : List Int), le256 (xs ++ ys) = le256 xs + 256 ^ xs.length * le256 ys
  | [], ys => by simp [le256]
  | x :: xs, ys => by
    simp only [List.cons_append, le256, List.length_cons, le256_append xs ys, Int.pow_succ]
    rw [Int.mul_add, ← Int.mul_assoc, Int.mul_comm 256 (256 ^ xs.length)]
    omega
theorem tb_val : ∀ (k : Nat) (xs : List Int), (∀ x ∈ xs, 0 ≤ x ∧ x ≤ 255) → k ≤ xs.length → leB (tb k xs) = le256 (xs.take k)
  | 0, _, _, _ => rfl
  | k + 1, xs, hb, hk => by
    have h : k < xs.length := by omega
    have hx := hb (xs.getD k 0) (by rw [List.getD_eq_getElem?_getD, List.getElem?_eq_getElem h]; exact List.getElem_mem h)
    have e : xs.take (k + 1) = xs.take k ++ [xs.getD k 0] := by
      rw [List.take_add_one, List.getElem?_eq_getElem h]
      simp [List.getElem?_eq_getElem h]
    rw [tb, leB_append, tb_val k xs hb (by omega), leB_bitsK, tb_length, e, le256_append, pow8, List.length_take, Nat.min_eq_left (by omega)]
    congr 2
    show xs.getD k 0 % 256 = xs.getD k 0 + 256 * 0
    omega

structure TakeAt (W0 : World) (xs : List Int) (k : Nat) (v : Value) (wr : World) : Prop where
  own : wr.ownsRow W0.heap.size 3 1 v (8 * k) ((tb k xs).map (Value.int .i64))
  far : Below W0.heap.size W0 wr
theorem TakeAt.start (W0 : World) (xs : List Int) : TakeAt W0 xs 0 (.slice (some ⟨W0.heap.size, 0, none⟩) 0 0) (W0.alloc (.cells #[] 3)) :=
  ⟨World.ownsRow_made W0 #[] 0 (Nat.le_refl _) (by decide) rfl, below_alloc (Below.refl _ _) _⟩
theorem TakeAt.step {W0 : World} {xs : List Int} {k : Nat} {v v' : Value} {wr wx w1 : World} (inv : TakeAt W0 xs k v wr) (hb : Below wr.heap.size wr wx)
    (hown' : w1.ownsRow W0.heap.size 3 1 v' (8 * k + 8) ((tb k xs).map (Value.int .i64) ++ (bitsK 8 (xs.getD k 0)).map (Value.int .i64))) (hgrow : wx.grownBy w1 v.ownBlock) : TakeAt W0 xs (k + 1) v' w1 := by
  have hf := below_then inv.far hb
  refine ⟨?_, hf.grown hgrow hf.size (fun j hj => (inv.own.lt j hj).1)⟩
  rw [tb, List.map_append]
  exact hown'
theorem int_row {w : World} {base k : Nat} {v : Value} {ys : List Int} (h : w.ownsRow base 3 1 v k (ys.map (Value.int .i64))) (h0 : 0 < k) :
    ∃ g cap, v = .slice (some ⟨g, 0, none⟩) k cap ∧ g < w.heap.size ∧ k ≤ cap ∧ Ints w g 0 ys := by
  obtain ⟨_, h2⟩ := id h
  rcases h2 with ⟨_, q⟩ | ⟨g, cap, cur, rfl, _, hh, hc, _⟩
  · omega
  · exact ⟨g, cap, rfl, (Array.getElem?_eq_some_iff.1 hh).1, hc, ints_of_owns h⟩
theorem cells8 {w : World} {base g cap : Nat} {y : Int} {ys : List Int} (hy : bitsK 64 y = ys) (h : w.ownsRow base 3 1 (.slice (some ⟨g, 0, none⟩) ys.length cap) ys.length (ys.map (Value.int .i64))) :
    ∀ j u, ((bitsK 8 y).map (Value.int .i64))[j]? = some u → w.cell? ((⟨g, 0, none⟩ : Addr).add j) = some u := by
  intro j u hu
  refine h.cells (g := g) rfl j u ?_
  have e : bitsK 8 y = ys.take 8 := by rw [← hy]; exact (bitsK_take 56 8 y).symm
  rw [e, List.map_take] at hu
  rw [List.getElem?_take] at hu
  split at hu
  · exact hu
  · cases hu

set_option maxRecDepth 100000 in
set_option maxHeartbeats 1000000 in
theorem rTakeNo (a0 : Option Addr) (len cap : Nat) (hl : len ≠ 16) (w : World) :
    Calls Try.prog 10 #[.slice a0 len cap] w (U4 (fun h l d => h = 0 ∧ l = 0 ∧ d = 11) w) := by
  have h1 : ((len : Int) != 16) = true := by simp; omega
  go_enter Try.func10, Try.ntmps10
  go_wp2
  go_returns
  exact ⟨_, _, _, ⟨rfl, rfl, rfl⟩, rfl, by go_grown⟩

set_option maxRecDepth 100000 in
set_option maxHeartbeats 2000000 in
theorem rTake (b off cap : Nat) (xs : List Int) (hb8 : Hid (∀ x ∈ xs, 0 ≤ x ∧ x ≤ 255)) (hl : Hid (xs.length = 16)) (w : World) (hlt : b < w.heap.size) (hc : Hid (Bytes w b off xs)) :
    Calls Try.prog 10 #[.slice (some ⟨b, off, none⟩) 16 cap] w (N3 (le256 xs) 0 w) := by
  obtain ⟨i0, hi', hz0, hz1, hz2⟩ := info_parts infoInt
  have HI := Lib.hid hi'
  have HZ0 := Lib.hid hz0
  have HZ1 := Lib.hid hz1
  have HZ2 := Lib.hid hz2
  clear hi' hz0 hz1 hz2
  have V : Hid (leB (tb 16 xs) = le256 xs) := Lib.hid (by
    rw [tb_val 16 xs hb8.out (by rw [hl.out]; omega), List.take_of_length_le (by rw [hl.out]; omega)])
  have VM : Hid (md (leB (tb 16 xs)) = le256 xs) := Lib.hid (by
    have q := leB_bd _ (tb_bits 16 xs)
    rw [tb_length] at q
    rw [md_of _ ⟨q.1, q.2⟩, V.out])
  go_enter Try.func10, Try.ntmps10
  go_wp2_with fail
  have st := TakeAt.start (w.alloc (.cells #[.int .u64 0, .int .u64 0] 27)) xs
  have hs : (w.alloc (.cells #[.int .u64 0, .int .u64 0] 27)).heap.size = w.heap.size + 1 := by simp
  have KR := Own.fresh w (.int .u64 0) (.int .u64 0) 27
  have hB : Below w.heap.size w (w.alloc (.cells #[.int .u64 0, .int .u64 0] 27)) := below_alloc (Below.refl _ _) _
  rw [hs] at st
  generalize (w.alloc (.cells #[.int .u64 0, .int .u64 0] 27)) = W0 at st hB hs KR ⊢
  have HS := Lib.hid hs
  have ST := Lib.hid st
  have HB := Lib.hid hB
  have HK := Lib.hid KR
  clear st hB hs KR
  go_loopg [4, 5] 16 (fun q v i wr => ∃ k : Nat, k + q = 16 ∧ i = .int .i64 k ∧ Hid (TakeAt W0 xs k v wr))
  case atStart => exact ⟨0, by omega, rfl, ST⟩
  case round =>
    clear ST
    obtain ⟨k, hk, rfl, INV⟩ := hrel
    by_cases hlt2 : k < 16
    · have kl : (k : Int) < 16 := by omega
      have k0 : (0 : Int) ≤ (k : Int) := by omega
      have cl : wr.cell? ⟨b, off + k, none⟩ = some (.int .u8 (xs.getD k 0)) := by
        have hb := below_then HB.out INV.out.far
        rw [hb.cell (p := ⟨b, off + k, none⟩) hlt]
        exact hc.out k (by rw [hl.out]; omega)
      have hx := hb8.out (xs.getD k 0) (by
        have h : k < xs.length := by rw [hl.out]; omega
        rw [List.getD_eq_getElem?_getD, List.getElem?_eq_getElem h]; exact List.getElem_mem h)
      obtain ⟨ys, hys⟩ : ∃ ys, bitsK 64 (xs.getD k 0) = ys := ⟨_, rfl⟩
      have HY := Lib.hid hys
      have lys : ys.length = 64 := by rw [← hys]; exact bitsK_length _ _
      clear hys
      have hsz := INV.out.far.size
      have STEP := Lib.hid (fun (v' : Value) (wx w1 : World) (h1 : Below wr.heap.size wr wx) (h2 : w1.ownsRow W0.heap.size 3 1 v' (8 * k + 8) ((tb k xs).map (Value.int .i64) ++ (bitsK 8 (xs.getD k 0)).map (Value.int .i64))) h3 => INV.out.step h1 h2 h3)
      have OWN := Lib.hid INV.out.own
      generalize xs.getD k 0 = y at cl hx HY STEP
      obtain ⟨y0, y1⟩ := hx
      go_wp2_with fail
      refine (rBitsAs y ys HY.out (by omega) (by omega) _).mono ?_
      rintro e w1 ⟨g2, cap2, rfl, m1, m2, m3, own2, hb⟩
      have OWN2 := Lib.hid own2
      have OWN1 := Lib.hid (owns_below OWN.out hb)
      have HBB := Lib.hid hb
      have s2 := hb.size
      have c8 : (8 : Int) ≤ (cap2 : Int) := by omega
      clear own2 hb
      go_wp2_with (at_builtin; refine wpList_append_own _ rfl _ _ 61 rfl W0.heap.size 3 i0 (.int .i64 0) 1 8 Try.underlying61 HI.out HZ0.out HZ1.out HZ2.out rfl (by decide) _ _ _ rfl OWN1.out ⟨g2, 0, none⟩ 8 cap2 ((bitsK 8 y).map (Value.int .i64)) rfl (by simp [bitsK_length]) (cells8 HY.out OWN2.out) (one_cells _) (by unfold maxLen; omega) (by omega) (by omega) ?_)
      intro v' w2 hown' hgrow _
      have INV' := Lib.hid (STEP.out v' _ w2 HBB.out hown' hgrow)
      clear hown' hgrow
      go_wp2
      go_roundg (gk - 1)
      case rel => exact ⟨k + 1, by omega, by go_num, INV'⟩
      case measure => omega
    · obtain rfl : k = 16 := by omega
      obtain ⟨g', cap', ev, hg, hcc, hby⟩ := int_row INV.out.own (by omega)
      subst ev
      go_wp2_with fail
      refine (rOfAs g' 0 cap' (tb 16 xs) (tb_bits 16 xs) 128 ⟨by rw [tb_length], by omega⟩ _ hg hby).mono ?_
      rintro e w2 ⟨rfl, hb⟩
      obtain ⟨z0, c0, c1, f0, f1⟩ := HK.out.below (below_then INV.out.far hb)
      have hBB := below_then HB.out (below_then INV.out.far hb)
      clear hb hby
      rw [VM.out]
      obtain ⟨z, hz⟩ : ∃ z, le256 xs = z := ⟨_, rfl⟩
      rw [hz]
      have HZ := Lib.hid hz
      clear hz
      go_wp2
      refine bodyPost_ret (v := .tuple #[.agg #[.int .u64 (hi z), .int .u64 (lo z)], .int .i64 0]) (by simp [results, Try.results10, go_sem, c0, c1]) rfl ⟨by rw [HZ.out], ?_⟩
      go_grown
end Go.Proofs.Ytjgpmbgfcdckhaa
