/-
  A map of package affine as a value, in memory and as an argument; what wide's calls answer for numbers; what affine's calls answer, as the statements of layer 9 need it (said here, shown of the program elsewhere).
-/
import Derived.Test.YthnmekieanndgaaUnA
import Derived.Test.YthnmekieanndgaaWideB
import Derived.Test.YthnmekieanndgaaWideC
import Derived.Test.YthnmekieanndgaaAfJ
import Derived.Test.YthnmekieanndgaaGfpJa
import Derived.Laws.StructEq
import Derived.Lib.SmallJoins
import Derived.WalkArith
namespace Go.Proofs.Ythnmekieanndgaa
open Go.ChangeShapes Go.WideShapes Go.ChangeAt Go.RowKit Go.Joins G
set_option linter.unusedVariables false
set_option maxRecDepth 100000

abbrev Mp.val (m : Mp) : Value := .agg #[.int .u64 ((hiW m.A : Nat) : Int), .int .u64 ((loW m.A : Nat) : Int), .int .u64 ((hiW m.C : Nat) : Int), .int .u64 ((loW m.C : Nat) : Int)]
/-- An answer that is a map; a map and an error's number; a number and an error's number. -/
def AnsM (m : Mp) (w : World) (e : Ending) (w' : World) : Prop := e = .returned m.val ∧ Below w.heap.size w w'
def AnsME (m : Mp) (k : Int) (w : World) (e : Ending) (w' : World) : Prop := e = .returned (.tuple #[m.val, .int .i64 k]) ∧ Below w.heap.size w w'
def AnsWE (N : Nat) (k : Int) (w : World) (e : Ending) (w' : World) : Prop := e = .returned (.tuple #[.agg #[.int .u64 ((hiW N : Nat) : Int), .int .u64 ((loW N : Nat) : Int)], .int .i64 k]) ∧ Below w.heap.size w w'
theorem cAdd128 {a b c d : Int} {M N : Nat} (i : Wn a b M) (j : Wn c d N) (w : World) :
    Calls Try.prog 25 #[.agg #[.int .u64 a, .int .u64 b], .agg #[.int .u64 c, .int .u64 d]] w (AnsWB ((M + N) % Q) (decide (Q ≤ M + N)) w) := by
  have h := Wd.wAdd a b c d i.h0 i.h1 i.l0 i.l1 j.h0 j.h1 j.l0 j.l1 w
  rw [i.eq, j.eq] at h
  refine h.mono ?_
  rintro e w' ⟨x, y, z, ⟨k, hz⟩, rfl, hb⟩
  obtain ⟨rfl, rfl⟩ := (wn_is (N := (M + N) % 340282366920938463463374607431768211456) k (by omega)).of
  refine ⟨?_, hb⟩
  rw [hz]
  have : decide ((340282366920938463463374607431768211456 : Int) ≤ (M : Int) + (N : Int)) = decide (Q ≤ M + N) := decide_eq_decide.2 (by
    show (340282366920938463463374607431768211456 : Int) ≤ _ ↔ 340282366920938463463374607431768211456 ≤ M + N
    omega)
  rw [this]
theorem cMul128 {a b c d : Int} {M N : Nat} (i : Wn a b M) (j : Wn c d N) (w : World) :
    Calls Try.prog 34 #[.agg #[.int .u64 a, .int .u64 b], .agg #[.int .u64 c, .int .u64 d]] w (AnsW (M * N % Q) w) := by
  have h := Wd.wMul a b c d i.h0 i.h1 i.l0 i.l1 j.h0 j.h1 j.l0 j.l1 w
  rw [i.eq, j.eq] at h
  refine h.mono ?_
  rintro e w' ⟨x, y, k, rfl, hb⟩
  exact ansW_of (wn_is k (by rw [Int.natCast_emod, Int.natCast_mul]; rfl)) hb
theorem cFull128 {x y : Nat} (hx : x < 18446744073709551616) (hy : y < 18446744073709551616) (w : World) : Calls Try.prog 44 #[.int .u64 (x : Int), .int .u64 (y : Int)] w (AnsW (x * y) w) := by
  refine (Wd.wFull x y (by omega) (by omega) (by omega) (by omega) w).mono ?_
  rintro e w' ⟨h, l, k, rfl, hb⟩
  exact ansW_of (wn_is k (by rw [Int.natCast_mul])) hb
theorem cBit0 {a b : Int} {M : Nat} (i : Wn a b M) (y : Int) (hy : ((M % 2 : Nat) : Int) = y) (w : World) :
    Calls Try.prog 46 #[.agg #[.int .u64 a, .int .u64 b], .int .i64 0] w (AnsI y w) := by
  have h := Wd.wBit a b 0 i.h0 i.h1 i.l0 i.l1 w
  rw [i.eq] at h
  refine h.mono ?_
  rintro e w' ⟨r, rfl, rfl, hb⟩
  refine ⟨?_, hb⟩
  rw [← hy]
  unfold Wd.bitOf
  rw [if_neg (by decide), show (0 : Int).toNat = 0 from rfl]
  congr 3
  omega
/-- Maps, and numbers, that are compared with themselves. -/
theorem eqU (a b : Int) (w : World) : Sem.run Try.prog (Op.equalIn 10000 24 (.agg #[.int .u64 a, .int .u64 b]) (.agg #[.int .u64 a, .int .u64 b])) w = .ok true w := by
  go_simp
theorem eqM (a b c d : Int) (w : World) : Sem.run Try.prog (Op.equalIn 10000 55 (.agg #[.int .u64 a, .int .u64 b, .int .u64 c, .int .u64 d]) (.agg #[.int .u64 a, .int .u64 b, .int .u64 c, .int .u64 d])) w = .ok true w := by
  go_simp
/-- The four words of a map in memory. -/
structure CM (w : World) (b : Nat) (m : Mp) : Prop where
  c0 : w.cell? ⟨b, 0, none⟩ = some (.int .u64 ((hiW m.A : Nat) : Int))
  c1 : w.cell? ⟨b, 1, none⟩ = some (.int .u64 ((loW m.A : Nat) : Int))
  c2 : w.cell? ⟨b, 2, none⟩ = some (.int .u64 ((hiW m.C : Nat) : Int))
  c3 : w.cell? ⟨b, 3, none⟩ = some (.int .u64 ((loW m.C : Nat) : Int))
theorem CM.below {w w' : World} {b : Nat} {m : Mp} (h : CM w b m) (hb : Below w.heap.size w w') : CM w' b m :=
  ⟨(hb.cell (p := ⟨b, 0, none⟩) (World.block_lt_of_cell? w _ h.c0)).trans h.c0, (hb.cell (p := ⟨b, 1, none⟩) (World.block_lt_of_cell? w _ h.c1)).trans h.c1, (hb.cell (p := ⟨b, 2, none⟩) (World.block_lt_of_cell? w _ h.c2)).trans h.c2, (hb.cell (p := ⟨b, 3, none⟩) (World.block_lt_of_cell? w _ h.c3)).trans h.c3⟩
theorem CM.alloc {w : World} {b : Nat} {m : Mp} (h : CM w b m) (o : Obj) : CM (w.alloc o) b m := h.below (below_allocs w o)
theorem CM.lt {w : World} {b : Nat} {m : Mp} (h : CM w b m) : b < w.heap.size := World.block_lt_of_cell? w _ h.c0
theorem cm_of_block {w : World} {b : Nat} {m : Mp} {t : TypeId} (h : w.heap[b]? = some (.cells #[.int .u64 ((hiW m.A : Nat) : Int), .int .u64 ((loW m.A : Nat) : Int), .int .u64 ((hiW m.C : Nat) : Int), .int .u64 ((loW m.C : Nat) : Int)] t (0, 0))) : CM w b m := by
  constructor <;> simp [World.cell?, h]
theorem CM.new (w : World) (m : Mp) (t : TypeId) : CM (w.alloc (.cells #[.int .u64 ((hiW m.A : Nat) : Int), .int .u64 ((loW m.A : Nat) : Int), .int .u64 ((hiW m.C : Nat) : Int), .int .u64 ((loW m.C : Nat) : Int)] t)) w.heap.size m :=
  cm_of_block (t := t) (show (w.heap.push _)[w.heap.size]? = some _ by simp)
/-- A map as an argument. -/
theorem cells64 : Try.prog.cellsOf 22 = 1 := by kernel_rfl
theorem cellsMp : Try.prog.cellsOf 55 = 4 := by kernel_rfl
abbrev Mp.data {H : Type} (m : Mp) : DataW H := .agg [.agg [.lit (.int .u64 ((hiW m.A : Nat) : Int)), .lit (.int .u64 ((loW m.A : Nat) : Int))], .agg [.lit (.int .u64 ((hiW m.C : Nat) : Int)), .lit (.int .u64 ((loW m.C : Nat) : Int))]]
theorem trodU {H : Type} {enc : TypeId × Value → H} {W : World} {base n : Nat} {spare : Nat → Bool} {c0 c1 : Value} {x : DataW H × List MemPlace} (h : DataW.trod enc Try.prog W base spare true n 24 [c0, c1] = some x) :
    ∃ (a b : Int) (N : Nat), Wn a b N ∧ c0 = .int .u64 a ∧ c1 = .int .u64 b ∧ x = (.agg [.lit (.int .u64 a), .lit (.int .u64 b)], []) := by
  obtain ⟨y0, y1, m, rfl, _, h0, h1⟩ := trod_struct2 Try.underlying24 h
  have k0 : DataW.trod enc Try.prog W base spare true m 22 [c0] = some y0 := by simpa [cells64] using h0
  have k1 : DataW.trod enc Try.prog W base spare true m 22 [c1] = some y1 := by simpa [cells64] using h1
  obtain ⟨a, e0, rfl, wa⟩ := DataW.trod_int Try.underlying22 k0
  obtain ⟨b, e1, rfl, wb⟩ := DataW.trod_int Try.underlying22 k1
  simp at e0 e1
  subst e0 e1
  have b1 := bounds_u64 wa
  have b2 := bounds_u64 wb
  exact ⟨a, b, (a * 18446744073709551616 + b).toNat, ⟨by omega, by omega, by omega, by omega, by omega⟩, rfl, rfl, rfl⟩
theorem shutU {H : Type} {enc : TypeId × Value → H} {W : World} {base : Nat} {spare : Nat → Bool} {a b : Int} {N : Nat} (i : Wn a b N) :
    DataW.trod enc Try.prog W base spare true 2 24 [.int .u64 a, .int .u64 b] = some (.agg [.lit (.int .u64 a), .lit (.int .u64 b)], []) := by
  have a1 := i.h0
  have a2 := i.h1
  have b1 := i.l0
  have b2 := i.l1
  refine trod_struct2_mk (y0 := (.lit (.int .u64 a), [])) (y1 := (.lit (.int .u64 b), [])) Try.underlying24 (by rw [cellsU]; rfl) ?_ ?_
  · simpa [cells64] using trod_int_mk (enc := enc) (w := W) (base := base) (spare := spare) (held := true) (k := .u64) (n := a) 0 Try.underlying22 (WalkArith.wf_u64 (by omega))
  · simpa [cells64] using trod_int_mk (enc := enc) (w := W) (base := base) (spare := spare) (held := true) (k := .u64) (n := b) 0 Try.underlying22 (WalkArith.wf_u64 (by omega))
theorem openMp {H : Type} {enc : TypeId × Value → H} {W : World} {base : Nat} {v : Value} {d : DataW H} {p : List MemPlace} (ok : Value.okWide Try.prog W .any base 55 v)
    (h : DataW.Trod enc Try.prog W 0 (fun _ => true) true 55 v d p) :
    ∃ m : Mp, m.Ok ∧ v = m.val ∧ d = Mp.data m ∧ p = [] ∧ ∀ (W' : World) (sp : Nat → Bool), DataW.Trod enc Try.prog W' 0 sp true 55 m.val (Mp.data m) [] := by
  obtain ⟨cs, rfl, hsz⟩ := okWide_struct Try.underlying55 ok
  obtain ⟨c0, c1, c2, c3, rfl⟩ := array4 (hsz.trans cellsMp)
  obtain ⟨fuel, hf⟩ := h
  obtain ⟨y0, y1, n, hx, _, h0, h1⟩ := trod_struct2 Try.underlying55 hf
  have k0 : DataW.trod enc Try.prog W 0 (fun _ => true) true n 24 [c0, c1] = some y0 := by simpa [cellsU, Value.cells] using h0
  have k1 : DataW.trod enc Try.prog W 0 (fun _ => true) true n 24 [c2, c3] = some y1 := by simpa [cellsU, Value.cells] using h1
  obtain ⟨a, b, N, i, rfl, rfl, rfl⟩ := trodU k0
  obtain ⟨c, d', M, j, rfl, rfl, rfl⟩ := trodU k1
  obtain ⟨rfl, rfl⟩ := i.of
  obtain ⟨rfl, rfl⟩ := j.of
  simp only [Prod.mk.injEq] at hx
  obtain ⟨rfl, rfl⟩ := hx
  refine ⟨⟨N, M⟩, ⟨i.lt, j.lt⟩, rfl, rfl, rfl, fun W' sp => ⟨3, ?_⟩⟩
  exact trod_struct2_mk (n := 2) (y0 := (.agg [.lit (.int .u64 ((hiW N : Nat) : Int)), .lit (.int .u64 ((loW N : Nat) : Int))], [])) (y1 := (.agg [.lit (.int .u64 ((hiW M : Nat) : Int)), .lit (.int .u64 ((loW M : Nat) : Int))], [])) Try.underlying55 (by rw [cellsMp]; rfl)
    (by simpa [cellsU, Value.cells] using shutU (enc := enc) (W := W') (base := 0) (spare := sp) i) (by simpa [cellsU, Value.cells] using shutU (enc := enc) (W := W') (base := 0) (spare := sp) j)
/-- What the calls of package affine answer. -/
structure AX : Prop where
  one : ∀ W, Calls Try.prog 45 #[] W (AnsM Mp.one W)
  at_ : ∀ (m : Mp) (h l : Int) (x : Nat) (W : World), m.Ok → Wn h l x → Calls Try.prog 23 #[m.val, .agg #[.int .u64 h, .int .u64 l]] W (AnsW (atM m x) W)
  thn : ∀ (m n : Mp) (W : World), m.Ok → n.Ok → Calls Try.prog 39 #[m.val, n.val] W (AnsM (thenM m n) W)
  pow : ∀ (m : Mp) (h l : Int) (n : Nat) (W : World), m.Ok → Wn h l n → Calls Try.prog 29 #[m.val, .agg #[.int .u64 h, .int .u64 l]] W (AnsM (powM m n) W)
  invY : ∀ (m : Mp) (W : World), m.Ok → m.A % 2 = 1 → Calls Try.prog 33 #[m.val] W (AnsME (invM m) 0 W)
  invN : ∀ (m : Mp) (W : World), m.Ok → m.A % 2 = 0 → Calls Try.prog 33 #[m.val] W (AnsME Mp.zero 1 W)
  oddY : ∀ (h l : Int) (n : Nat) (W : World), Wn h l n → n % 2 = 1 → Calls Try.prog 42 #[.agg #[.int .u64 h, .int .u64 l]] W (AnsWE (invQ n) 0 W)
  oddN : ∀ (h l : Int) (n : Nat) (W : World), Wn h l n → n % 2 = 0 → Calls Try.prog 42 #[.agg #[.int .u64 h, .int .u64 l]] W (AnsWE 0 1 W)
end Go.Proofs.Ythnmekieanndgaa
