/-
  A list of bytes among the arguments of WideTells is opened; what both Take answer of it; the short way.
-/
import Derived.Test.YtjgpmbgfcdckhaaWideTw
import Derived.Test.YtjgpmbgfcdckhaaWideP
import Derived.WideKeyArgs
import Derived.ChangeSlices
import Derived.ChangeSame
namespace Go.Proofs.Ytjgpmbgfcdckhaa
open Go.ChangeShapes Go.WideShapes Go.ChangeAt Go.RowKit Go.Joins
set_option linter.unusedVariables false

theorem laidOut : laidOutB Try.prog = true := by kernel_rfl
theorem cellsB : Try.prog.cellsOf 5 = 1 := by kernel_rfl
section
variable {H : Type} {enc : TypeId × Value → H}
/-- What was read of an argument is read again where nothing of what was there has turned. -/
theorem trod_below {t : TypeId} (hr : Try.prog.readableRec t = true) (hrow : t < Try.prog.types.size) {W W' : World} {sp : Nat → Bool} {v : Value} {d : DataW H} {ps : List MemPlace}
    (h : DataW.Trod enc Try.prog W 0 (fun _ => true) true t v d ps) (hb : Below W.heap.size W W') (hs : ∀ p ∈ ps, sp p.block = true) : DataW.Trod enc Try.prog W' 0 sp true t v d ps := by
  refine WideElems.Trod_stays laidOut hr hrow h (fun p hp => ?_) hs
  have lt : p.block < W.heap.size := by
    have := DataW.TrodAll.lt (trodAll_mk1 h) p hp
    exact this
  cases p with
  | cell b o => exact World.cell?_of_block (w := W) (hb.block b lt)
  | map b => exact hb.block b lt
/-- What is known of a list of bytes: where it has 16, what they are. -/
def Is16 (W : World) (A : Option Addr) (L ca : Nat) : Prop :=
  L = 16 → ∃ (b o : Nat) (xs : List Int), A = some ⟨b, o, none⟩ ∧ b < W.heap.size ∧ 16 ≤ ca ∧ xs.length = 16 ∧ (∀ x ∈ xs, 0 ≤ x ∧ x ≤ 255) ∧ Bytes W b o xs
theorem openB {W : World} {base : Nat} {t : TypeId} {v : Value} {d : DataW H} {p : List MemPlace} (ht : Try.prog.underlying t = some (.slice 5)) (ok : Value.okWide Try.prog W .any base t v)
    (h : DataW.Trod enc Try.prog W 0 (fun _ => true) true t v d p) : ∃ (A : Option Addr) (L ca : Nat), v = .slice A L ca ∧ Is16 W A L ca := by
  obtain ⟨a0, len, cap, rfl⟩ := okWide_slice ht ok
  obtain ⟨fuel, hf⟩ := h
  rcases open_ints ht Try.underlying5 cellsB hf with ⟨hcs, hx⟩ | ⟨a, len', cap', zs, hcs, _, hl, hm, hz, hx, hcell, hwz⟩
  · simp [Value.cells] at hcs
    obtain ⟨rfl, rfl, rfl⟩ := hcs
    exact ⟨none, 0, 0, rfl, fun e => by omega⟩
  · simp [Value.cells] at hcs
    obtain ⟨rfl, rfl, rfl⟩ := hcs
    simp only [if_true] at hz
    refine ⟨some a, len, cap, rfl, fun e => ?_⟩
    obtain ⟨b, off, spot⟩ := a
    have hspot : spot = none := by
      have c0 := World.cell?_spot (hcell 0 (by omega))
      simpa [Addr.add] using c0
    subst hspot
    have hc : ∀ i, i < 16 → W.cell? ⟨b, off + i, none⟩ = some (.int .u8 (zs.getD i 0)) := fun i hi => by
      have c := hcell i (by omega)
      rwa [Addr.add_lit] at c
    refine ⟨b, off, zs.take 16, rfl, World.block_lt_of_cell? W _ (hc 0 (by omega)), by omega, by rw [List.length_take]; omega, fun x hx => bounds_u8 (hwz x (List.mem_of_mem_take hx)), fun i hi => ?_⟩
    have hi' : i < 16 := by rw [List.length_take] at hi; omega
    rw [hc i hi']
    simp [hi']
end
theorem list16 (xs : List Int) (h : xs.length = 16) : ∃ x0 x1 x2 x3 x4 x5 x6 x7 x8 x9 x10 x11 x12 x13 x14 x15, xs = [x0, x1, x2, x3, x4, x5, x6, x7, x8, x9, x10, x11, x12, x13, x14, x15] := by
  match xs, h with
  | [x0, x1, x2, x3, x4, x5, x6, x7, x8, x9, x10, x11, x12, x13, x14, x15], _ => exact ⟨x0, x1, x2, x3, x4, x5, x6, x7, x8, x9, x10, x11, x12, x13, x14, x15, rfl⟩
theorem wTakeL (b off cap : Nat) (hcap : 16 ≤ cap) (xs : List Int) (hl : xs.length = 16) (hb8 : ∀ x ∈ xs, 0 ≤ x ∧ x ≤ 255) (w : World) (hlt : b < w.heap.size) (hc : Bytes w b off xs) :
    Calls Try.prog 9 #[.slice (some ⟨b, off, none⟩) 16 cap] w (N3 (le256 xs) 0 w) := by
  obtain ⟨x0, x1, x2, x3, x4, x5, x6, x7, x8, x9, x10, x11, x12, x13, x14, x15, rfl⟩ := list16 xs hl
  refine (wTake b off cap hcap x0 x1 x2 x3 x4 x5 x6 x7 x8 x9 x10 x11 x12 x13 x14 x15 w hlt (hb8 _ (by simp)) (hb8 _ (by simp)) (hb8 _ (by simp)) (hb8 _ (by simp)) (hb8 _ (by simp)) (hb8 _ (by simp)) (hb8 _ (by simp)) (hb8 _ (by simp)) (hb8 _ (by simp)) (hb8 _ (by simp)) (hb8 _ (by simp)) (hb8 _ (by simp)) (hb8 _ (by simp)) (hb8 _ (by simp)) (hb8 _ (by simp)) (hb8 _ (by simp)) hc).mono ?_
  rintro e w' ⟨h, l, d, ⟨i, rfl⟩, rfl, hb⟩
  obtain ⟨rfl, rfl⟩ := of_is i
  exact ⟨rfl, hb⟩
theorem n3_no {w : World} {e : Ending} {w' : World} (h : U4 (fun h l d => h = 0 ∧ l = 0 ∧ d = 11) w e w') : N3 0 11 w e w' := by
  obtain ⟨h, l, d, ⟨rfl, rfl, rfl⟩, rfl, hb⟩ := h
  exact ⟨rfl, hb⟩

set_option maxRecDepth 100000 in
set_option maxHeartbeats 1000000 in
theorem tellsShort (A B n : Int) (pa : Option Addr) (pl pc : Nat) (w : World) (hp : (100 : Int) < (pl : Int)) :
    Calls Try.prog 3 #[.agg #[.int .u64 (hi A), .int .u64 (lo A)], .agg #[.int .u64 (hi B), .int .u64 (lo B)], .int .i64 n, .slice pa pl pc] w (fun e w' => e = .returned (.bool true) ∧ Below w.heap.size w w') := by
  go_enter Try.func3, Try.ntmps3
  go_wp2_with fail
  refine (awake _).mono ?_
  rintro e w1 ⟨rfl, hb⟩
  have hB : Below w.heap.size w w1 := below_then (by go_grown) hb
  clear hb
  go_wp2
  go_ret
  exact ⟨rfl, hB⟩
end Go.Proofs.Ytjgpmbgfcdckhaa
