/-
  An argument that is a state of package half (a number, a key and a truth in one struct), opened and shut.
-/
import Derived.Test.YtdmoedjjbhkdmaaHfA
import Derived.Deep.Strs
namespace Go.Proofs.Ytdmoedjjbhkdmaa
open Go.ChangeShapes Go.WideShapes Go.ChangeAt Go.RowKit Go.Joins
set_option linter.unusedVariables false
set_option maxRecDepth 100000

theorem cells64h : Try.prog.cellsOf 22 = 1 := by kernel_rfl
theorem cells1h : Try.prog.cellsOf 4 = 1 := by kernel_rfl
theorem cellsHs : Try.prog.cellsOf 29 = 5 := by kernel_rfl
abbrev Hs.data {H : Type} (x : Hs) : DataW H := .agg [.agg [.lit (.int .u64 ((hiW x.C : Nat) : Int)), .lit (.int .u64 ((loW x.C : Nat) : Int))], .agg [.lit (.int .u32 (x.K.k : Int)), .lit (.int .u32 (x.K.m : Int))], .lit (.bool x.s)]
theorem trodUh {H : Type} {enc : TypeId × Value → H} {W : World} {base n : Nat} {spare : Nat → Bool} {c0 c1 : Value} {x : DataW H × List MemPlace} (h : DataW.trod enc Try.prog W base spare true n 24 [c0, c1] = some x) :
    ∃ (a b : Int) (N : Nat), Wn a b N ∧ c0 = .int .u64 a ∧ c1 = .int .u64 b ∧ x = (.agg [.lit (.int .u64 a), .lit (.int .u64 b)], []) := by
  obtain ⟨y0, y1, m, rfl, _, h0, h1⟩ := trod_struct2 Try.underlying24 h
  have k0 : DataW.trod enc Try.prog W base spare true m 22 [c0] = some y0 := by simpa [cells64h] using h0
  have k1 : DataW.trod enc Try.prog W base spare true m 22 [c1] = some y1 := by simpa [cells64h] using h1
  obtain ⟨a, e0, rfl, wa⟩ := DataW.trod_int Try.underlying22 k0
  obtain ⟨b, e1, rfl, wb⟩ := DataW.trod_int Try.underlying22 k1
  simp at e0 e1
  subst e0 e1
  have b1 := bounds_u64 wa
  have b2 := bounds_u64 wb
  exact ⟨a, b, (a * 18446744073709551616 + b).toNat, ⟨by omega, by omega, by omega, by omega, by omega⟩, rfl, rfl, rfl⟩
theorem shutUh {H : Type} {enc : TypeId × Value → H} {W : World} {base : Nat} {spare : Nat → Bool} {a b : Int} {N : Nat} (i : Wn a b N) :
    DataW.trod enc Try.prog W base spare true 2 24 [.int .u64 a, .int .u64 b] = some (.agg [.lit (.int .u64 a), .lit (.int .u64 b)], []) := by
  have a1 := i.h0
  have a2 := i.h1
  have b1 := i.l0
  have b2 := i.l1
  refine trod_struct2_mk (y0 := (.lit (.int .u64 a), [])) (y1 := (.lit (.int .u64 b), [])) Try.underlying24 (by rw [cellsU]; rfl) ?_ ?_
  · simpa [cells64h] using trod_int_mk (enc := enc) (w := W) (base := base) (spare := spare) (held := true) (k := .u64) (n := a) 0 Try.underlying22 (WalkArith.wf_u64 (by omega))
  · simpa [cells64h] using trod_int_mk (enc := enc) (w := W) (base := base) (spare := spare) (held := true) (k := .u64) (n := b) 0 Try.underlying22 (WalkArith.wf_u64 (by omega))
theorem openHs {H : Type} {enc : TypeId × Value → H} {W : World} {base : Nat} {v : Value} {d : DataW H} {p : List MemPlace} (ok : Value.okWide Try.prog W .any base 29 v)
    (h : DataW.Trod enc Try.prog W 0 (fun _ => true) true 29 v d p) :
    ∃ x : Hs, x.Ok ∧ v = x.val ∧ d = Hs.data x ∧ p = [] ∧ ∀ (W' : World) (sp : Nat → Bool), DataW.Trod enc Try.prog W' 0 sp true 29 x.val (Hs.data x) [] := by
  obtain ⟨cs, rfl, hsz⟩ := okWide_struct Try.underlying29 ok
  rw [cellsHs] at hsz
  obtain ⟨c0, c1, c2, c3, c4, rfl⟩ : ∃ c0 c1 c2 c3 c4, cs = #[c0, c1, c2, c3, c4] := by
    obtain ⟨l⟩ := cs
    match l, hsz with
    | [a, b, c, d, e], _ => exact ⟨a, b, c, d, e, rfl⟩
  obtain ⟨fuel, hf⟩ := h
  obtain ⟨y0, y1, y2, n, hx, _, h0, h1, h2⟩ := Go.Deep.trod_struct3 Try.underlying29 hf
  have k0 : DataW.trod enc Try.prog W 0 (fun _ => true) true n 24 [c0, c1] = some y0 := by simpa [cellsU, Value.cells] using h0
  have k1 : DataW.trod enc Try.prog W 0 (fun _ => true) true n 27 [c2, c3] = some y1 := by simpa [cellsKy, Value.cells] using h1
  have k2 : DataW.trod enc Try.prog W 0 (fun _ => true) true n 4 [c4] = some y2 := by simpa [cells1h, Value.cells] using h2
  obtain ⟨a, b, N, i, rfl, rfl, rfl⟩ := trodUh k0
  obtain ⟨rfl, rfl⟩ := i.of
  obtain ⟨z0, z1, m, rfl, hz0, hz1⟩ := trod_key k1
  obtain ⟨x0, e0, rfl, w0⟩ := DataW.trod_int Try.underlying25 hz0
  obtain ⟨x1, e1, rfl, w1⟩ := DataW.trod_int Try.underlying25 hz1
  obtain ⟨s, e2, rfl⟩ := DataW.trod_bool Try.underlying4 k2
  simp at e0 e1 e2
  subst e0 e1 e2
  simp only [Prod.mk.injEq] at hx
  obtain ⟨rfl, rfl⟩ := hx
  have b0 := bounds_u32 w0
  have b1 := bounds_u32 w1
  obtain ⟨x0, rfl⟩ := Int.eq_ofNat_of_zero_le b0.1
  obtain ⟨x1, rfl⟩ := Int.eq_ofNat_of_zero_le b1.1
  refine ⟨⟨N, ⟨x0, x1⟩, s⟩, ⟨i.lt, ⟨by show x0 < _; omega, by show x1 < _; omega⟩⟩, rfl, rfl, rfl, fun W' sp => ⟨3, ?_⟩⟩
  exact Go.Deep.trod_struct3_mk (n := 2) (y0 := (.agg [.lit (.int .u64 ((hiW N : Nat) : Int)), .lit (.int .u64 ((loW N : Nat) : Int))], [])) (y1 := (.agg [.lit (.int .u32 (x0 : Int)), .lit (.int .u32 (x1 : Int))], [])) (y2 := (.lit (.bool s), [])) Try.underlying29 (by rw [cellsHs]; rfl)
    (by simpa [cellsU, Value.cells] using shutUh (enc := enc) (W := W') (base := 0) (spare := sp) i)
    (by simp [DataW.trod, Value.cells, Try.underlying27, Try.underlying25, cellsKy, cells32, w0, w1, show List.range 2 = [0, 1] from rfl])
    (by simp [DataW.trod, Value.cells, Try.underlying4, cells1h])
end Go.Proofs.Ytdmoedjjbhkdmaa
