/-
  What List of the reference of layer 1 answers: the 128 bits of a number, the lowest one first.
-/
import Derived.Test.YtfnfjfmkhnofkaaWideTc
import Derived.Deep.AppendLies
import Derived.Deep.RegionHeld3
namespace Go.Proofs.Ytfnfjfmkhnofkaa.Wd
open Go.RowKit
set_option linter.unusedVariables false

theorem owns_below {w w' : World} {base : Nat} {e : TypeId} {size : Nat} {v : Value} {n : Nat} {xs : List Value} (h : w.ownsRow base e size v n xs) (hb : Below w.heap.size w w') : w'.ownsRow base e size v n xs := by
  refine ⟨h.1, ?_⟩
  rcases h.2 with hn | ⟨g, cap, cur, rfl, hg, hh, rest⟩
  · exact .inl hn
  · exact .inr ⟨g, cap, cur, rfl, hg, by rw [hb.block g (Array.getElem?_eq_some_iff.1 hh).1]; exact hh, rest⟩

theorem owns_base {w : World} {base base' : Nat} {e : TypeId} {size : Nat} {v : Value} {n : Nat} {xs : List Value} (h : w.ownsRow base e size v n xs) (hb : base' ≤ base) : w.ownsRow base' e size v n xs := by
  refine ⟨h.1, ?_⟩
  rcases h.2 with hn | ⟨g, cap, cur, rfl, hg, rest⟩
  · exact .inl hn
  · exact .inr ⟨g, cap, cur, rfl, by omega, rest⟩
/-- An answer that is a new list of ints: where it lies. -/
def RowAt (xs : List Int) (w : World) (e : Ending) (w' : World) : Prop :=
  ∃ g cap : Nat, e = .returned (.slice (some ⟨g, 0, none⟩) xs.length cap) ∧ w.heap.size ≤ g ∧ g < w'.heap.size ∧ xs.length ≤ cap ∧
    w'.ownsRow w.heap.size 3 1 (.slice (some ⟨g, 0, none⟩) xs.length cap) xs.length (xs.map (Value.int .i64)) ∧ Below w.heap.size w w'
theorem ints_of_owns {w : World} {base g n cap : Nat} {xs : List Int} (h : w.ownsRow base 3 1 (.slice (some ⟨g, 0, none⟩) n cap) n (xs.map (Value.int .i64))) : Ints w g 0 xs := by
  intro i hi
  have := h.cells (g := g) rfl i (.int .i64 (xs.getD i 0)) (by simp [List.getElem?_eq_getElem hi])
  have ea : (⟨g, 0, none⟩ : Addr).add i = ⟨g, 0 + i, none⟩ := by unfold Addr.add; split <;> simp_all
  rw [ea] at this
  exact this
theorem row_at {xs : List Int} {w : World} {e : Ending} {w' : World} (h : Row xs w e w') (h0 : 0 < xs.length) : RowAt xs w e w' := by
  obtain ⟨v, rfl, own, hb⟩ := h
  obtain ⟨hl, h2⟩ := own
  rcases h2 with ⟨_, hn⟩ | ⟨g, cap, cur, rfl, hg, hh, hc, rest⟩
  · omega
  · exact ⟨g, cap, rfl, hg, (Array.getElem?_eq_some_iff.1 hh).1, hc, ⟨hl, .inr ⟨g, cap, cur, rfl, hg, hh, hc, rest⟩⟩, hb⟩
theorem rBitsAt (n : Int) (n0 : 0 ≤ n) (n1 : n < 18446744073709551616) (w : World) :
    Calls Try.prog 40 #[.int .u64 n] w (RowAt (bitsK 64 n) w) :=
  (rBits n n0 n1 w).mono fun _ _ h => row_at h (by rw [bitsK_length]; omega)
theorem rBitsAs (n : Int) (xs : List Int) (hx : bitsK 64 n = xs) (n0 : 0 ≤ n) (n1 : n < 18446744073709551616) (w : World) :
    Calls Try.prog 40 #[.int .u64 n] w (RowAt xs w) := by subst hx; exact rBitsAt n n0 n1 w
theorem one_cells (xs : List Int) : ∀ u ∈ xs.map (Value.int .i64), u.oneCell' = true := by
  intro u hu
  obtain ⟨n, _, rfl⟩ := List.mem_map.1 hu
  rfl
theorem bitsK_bits (k : Nat) (v : Int) : AreBits (bitsK k v) := by
  induction k with
  | zero => intro x hx; simp [bitsK] at hx
  | succ k ih =>
    intro x hx
    simp only [bitsK, List.mem_append, List.mem_singleton] at hx
    rcases hx with hx | rfl
    · exact ih x hx
    · omega

set_option maxRecDepth 100000 in
set_option maxHeartbeats 400000 in
theorem rListAs (ah al : Int) (xl xh : List Int) (el : Hid (bitsK 64 al = xl)) (eh : Hid (bitsK 64 ah = xh)) (ll : Hid (xl.length = 64)) (lh : Hid (xh.length = 64)) (a1 : 0 ≤ ah) (a2 : ah < 18446744073709551616) (a3 : 0 ≤ al) (a4 : al < 18446744073709551616) (w : World) :
    Calls Try.prog 31 #[.agg #[.int .u64 ah, .int .u64 al]] w (RowAt (xl ++ xh) w) := by
  obtain ⟨i0, hi, hz0, hz1, hz2⟩ := info_parts infoInt
  have HI := Lib.hid hi
  have HZ0 := Lib.hid hz0
  have HZ1 := Lib.hid hz1
  have HZ2 := Lib.hid hz2
  clear hi hz0 hz1 hz2
  go_enter Try.func31, Try.ntmps31
  go_wp2_with fail
  have K := Has.fresh w ah al 31
  have hB : Below w.heap.size w (w.alloc (.cells #[.int .u64 ah, .int .u64 al] 31)) := below_alloc (Below.refl _ _) _
  generalize hW0 : World.alloc _ _ = W0 at K hB ⊢
  clear hW0
  have hX : Below W0.heap.size W0 W0 := Below.refl _ _
  obtain ⟨sz, c0, c1⟩ := id K
  go_region_held3 (fun w' => w'.cell? ⟨w.heap.size, 0, none⟩ = some (.int .u64 ah) ∧ w'.cell? ⟨w.heap.size, 1, none⟩ = some (.int .u64 al)) (go_keep)
    (first
      | (go_at_call 40; ((with_reducible refine (rBitsAs al xl el.out a3 a4 _).mono ?_); rintro e x ⟨g, cap, rfl, l1, l2, l3, own, hb⟩; clear sz c0 c1; replace hX := below_then (by first | exact hX | exact hX.drew) hb; obtain ⟨sz, c0, c1⟩ := Has.below K hX; have OWN1 : Hid (x.ownsRow W0.heap.size 3 1 (.slice (some ⟨g, 0, none⟩) xl.length cap) xl.length (xl.map (Value.int .i64))) := Lib.hid own; have ex := hX.size; clear own hb))
      | (go_at_call 40; ((with_reducible refine (rBitsAs ah xh eh.out a1 a2 _).mono ?_); rintro e y ⟨g2, cap2, rfl, m1, m2, m3, own2, hb⟩; clear sz c0 c1; replace hX := below_then (by first | exact hX | exact hX.drew) hb; obtain ⟨sz, c0, c1⟩ := Has.below K hX; replace OWN1 := Lib.hid (owns_below OWN1.out hb); have OWN2 := Lib.hid own2; have ey := hX.size; clear own2 hb))
      | (refine step_append_lies _ (by rfl) _ _ _ (by rfl) W0.heap.size 3 i0 (.int .i64 0) 1 8 Try.underlying62 HI.out HZ0.out HZ1.out HZ2.out rfl (by omega) (.slice (some ⟨g, 0, none⟩) xl.length cap) xl.length (xl.map (Value.int .i64)) (by rfl) OWN1.out ⟨g2, 0, none⟩ xh.length cap2 (xh.map (Value.int .i64)) (by rfl) (by simp) (OWN2.out.cells rfl) (one_cells xh) (by rw [lh.out]; omega) (by rw [ll.out, lh.out]; decide) (by rw [ll.out, lh.out]; omega) ey y.heap.size rfl ?_; intro gg cap' w1 hown1 hgrow hat hlt; clear sz c0 c1; replace hX := hX.grown hgrow ey (fun k hk => (OWN1.out.lt k hk).1); obtain ⟨sz, c0, c1⟩ := Has.below K hX; have OWN3 := Lib.hid hown1; clear hown1 hgrow))
  go_wp2
  go_ret
  have lt := (OWN3.out.lt gg rfl)
  have sw := hB.size
  have e : (xl ++ xh).length = xl.length + xh.length := List.length_append
  refine ⟨gg, cap', ?_, by omega, by omega, ?_, ?_, below_then hB hX⟩
  · rw [e]; rfl
  · rw [e]
    rcases OWN3.out.2 with ⟨q, _⟩ | ⟨g', c', cur, q, _, _, hc, _⟩
    · cases q
    · injection q with _ _ q
      omega
  · rw [e, List.map_append]
    exact owns_base OWN3.out sw
theorem rList (ah al : Int) (a1 : 0 ≤ ah) (a2 : ah < 18446744073709551616) (a3 : 0 ≤ al) (a4 : al < 18446744073709551616) (w : World) :
    Calls Try.prog 31 #[.agg #[.int .u64 ah, .int .u64 al]] w (RowAt (bitsK 64 al ++ bitsK 64 ah) w) :=
  rListAs ah al _ _ (Lib.hid rfl) (Lib.hid rfl) (Lib.hid (bitsK_length 64 al)) (Lib.hid (bitsK_length 64 ah)) a1 a2 a3 a4 w
end Go.Proofs.Ytfnfjfmkhnofkaa.Wd
