/-
  A state of package pcg as a value and as an argument; what pcg's calls answer, as the statements of layer 10 need it (said here, shown of the program elsewhere).
-/
import Derived.Test.YthnmekieanndgaaAffA
import Derived.Test.YthnmekieanndgaaAfJ
namespace Go.Proofs.Ythnmekieanndgaa
open Go.ChangeShapes Go.WideShapes Go.ChangeAt Go.RowKit Go.Joins G
set_option linter.unusedVariables false
set_option maxRecDepth 100000

abbrev Ps.val (m : Ps) : Value := .agg #[.int .u64 ((hiW m.S : Nat) : Int), .int .u64 ((loW m.S : Nat) : Int), .int .u64 ((hiW m.I : Nat) : Int), .int .u64 ((loW m.I : Nat) : Int)]
def AnsP (m : Ps) (w : World) (e : Ending) (w' : World) : Prop := e = .returned m.val ∧ Below w.heap.size w w'
def AnsPE (m : Ps) (k : Int) (w : World) (e : Ending) (w' : World) : Prop := e = .returned (.tuple #[m.val, .int .i64 k]) ∧ Below w.heap.size w w'
/-- A state as an argument. -/
theorem cellsPs : Try.prog.cellsOf 26 = 4 := by kernel_rfl
abbrev Ps.data {H : Type} (m : Ps) : DataW H := .agg [.agg [.lit (.int .u64 ((hiW m.S : Nat) : Int)), .lit (.int .u64 ((loW m.S : Nat) : Int))], .agg [.lit (.int .u64 ((hiW m.I : Nat) : Int)), .lit (.int .u64 ((loW m.I : Nat) : Int))]]
theorem openPs {H : Type} {enc : TypeId × Value → H} {W : World} {base : Nat} {v : Value} {d : DataW H} {p : List MemPlace} (ok : Value.okWide Try.prog W .any base 26 v)
    (h : DataW.Trod enc Try.prog W 0 (fun _ => true) true 26 v d p) :
    ∃ m : Ps, m.Ok ∧ v = m.val ∧ d = Ps.data m ∧ p = [] ∧ ∀ (W' : World) (sp : Nat → Bool), DataW.Trod enc Try.prog W' 0 sp true 26 m.val (Ps.data m) [] := by
  obtain ⟨cs, rfl, hsz⟩ := okWide_struct Try.underlying26 ok
  obtain ⟨c0, c1, c2, c3, rfl⟩ := array4 (hsz.trans cellsPs)
  obtain ⟨fuel, hf⟩ := h
  obtain ⟨y0, y1, n, hx, _, h0, h1⟩ := trod_struct2 Try.underlying26 hf
  have k0 : DataW.trod enc Try.prog W 0 (fun _ => true) true n 24 [c0, c1] = some y0 := by simpa [cellsU, Value.cells] using h0
  have k1 : DataW.trod enc Try.prog W 0 (fun _ => true) true n 24 [c2, c3] = some y1 := by simpa [cellsU, Value.cells] using h1
  obtain ⟨a, b, N, i, rfl, rfl, rfl⟩ := trodU k0
  obtain ⟨c, d', M, j, rfl, rfl, rfl⟩ := trodU k1
  obtain ⟨rfl, rfl⟩ := i.of
  obtain ⟨rfl, rfl⟩ := j.of
  simp only [Prod.mk.injEq] at hx
  obtain ⟨rfl, rfl⟩ := hx
  refine ⟨⟨N, M⟩, ⟨i.lt, j.lt⟩, rfl, rfl, rfl, fun W' sp => ⟨3, ?_⟩⟩
  exact trod_struct2_mk (n := 2) (y0 := (.agg [.lit (.int .u64 ((hiW N : Nat) : Int)), .lit (.int .u64 ((loW N : Nat) : Int))], [])) (y1 := (.agg [.lit (.int .u64 ((hiW M : Nat) : Int)), .lit (.int .u64 ((loW M : Nat) : Int))], [])) Try.underlying26 (by rw [cellsPs]; rfl)
    (by simpa [cellsU, Value.cells] using shutU (enc := enc) (W := W') (base := 0) (spare := sp) i) (by simpa [cellsU, Value.cells] using shutU (enc := enc) (W := W') (base := 0) (spare := sp) j)
/-- A state's word. -/
def wordP (s : Ps) : Nat :=
  let h := hiW s.S
  let l := loW s.S ||| 1
  let h1 := (h ^^^ h / 2 ^ 32) * fac % 18446744073709551616
  (h1 ^^^ h1 / 2 ^ 48) * l % 18446744073709551616
theorem wordP_lt (s : Ps) : wordP s < 18446744073709551616 := Nat.mod_lt _ (by decide)
/-- So many words, one a state. -/
def rowP (s : Ps) : Nat → List Nat
  | 0 => []
  | k + 1 => rowP s k ++ [wordP (iterP s k)]
theorem rowP_len (s : Ps) : ∀ k, (rowP s k).length = k
  | 0 => rfl
  | k + 1 => by rw [rowP, List.length_append, rowP_len s k]; rfl
theorem rowP_wds (s : Ps) : ∀ k, Wds (rowP s k)
  | 0 => fun y hy => by cases hy
  | k + 1 => fun y hy => by
    rw [rowP, List.mem_append] at hy
    rcases hy with hy | hy
    · exact rowP_wds s k y hy
    · rw [List.mem_singleton.1 hy]
      exact wordP_lt _
/-- Words, and the state behind them; none, and why. -/
def AnsRP (xs : List Nat) (s : Ps) (w : World) (e : Ending) (w' : World) : Prop := ∃ (A : Option Addr) (cap : Nat), e = .returned (.tuple #[.slice A xs.length cap, s.val, .int .i64 0]) ∧ Pol w' A cap xs ∧ Below w.heap.size w w'
def NoP (k : Int) (w : World) (e : Ending) (w' : World) : Prop := e = .returned (.tuple #[.slice none 0 0, .agg #[.int .u64 0, .int .u64 0, .int .u64 0, .int .u64 0], .int .i64 k]) ∧ Below w.heap.size w w'
/-- What the calls of package pcg answer. -/
structure PX : Prop where
  right : ∀ (s : Ps) (W : World), s.Ok → Calls Try.prog 14 #[s.val] W (fun e w' => e = .returned (.bool (decide (s.I % 2 = 1))) ∧ Below W.heap.size W w')
  map : ∀ (s : Ps) (W : World), s.Ok → Calls Try.prog 24 #[s.val] W (AnsM (mapP s) W)
  at_ : ∀ (m : Mp) (h l : Int) (x : Nat) (W : World), m.Ok → Wn h l x → Calls Try.prog 23 #[m.val, .agg #[.int .u64 h, .int .u64 l]] W (AnsW (atM m x) W)
  word : ∀ (s : Ps) (W : World), s.Ok → Calls Try.prog 9 #[s.val] W (fun e w' => e = .returned (.int .u64 ((wordP s : Nat) : Int)) ∧ Below W.heap.size W w')
  step : ∀ (s : Ps) (W : World), s.Ok → Calls Try.prog 12 #[s.val] W (AnsP (stepP s) W)
  back : ∀ (s : Ps) (W : World), s.Ok → Calls Try.prog 22 #[s.val] W (AnsP (backP s) W)
  jumpY : ∀ (s : Ps) (h l : Int) (n : Nat) (W : World), s.Ok → s.I % 2 = 1 → Wn h l n → Calls Try.prog 16 #[s.val, .agg #[.int .u64 h, .int .u64 l]] W (AnsPE (jumpP s n) 0 W)
  jumpN : ∀ (s : Ps) (h l : Int) (n : Nat) (W : World), s.Ok → s.I % 2 = 0 → Wn h l n → Calls Try.prog 16 #[s.val, .agg #[.int .u64 h, .int .u64 l]] W (AnsPE Ps.zero 3 W)
  wordsN : ∀ (s : Ps) (many : Int) (W : World), s.Ok → s.I % 2 = 0 → Calls Try.prog 15 #[s.val, .int .i64 many] W (NoP 3 W)
  wordsA : ∀ (s : Ps) (many : Int) (W : World), s.Ok → s.I % 2 = 1 → (many < 0 ∨ 256 < many) → Calls Try.prog 15 #[s.val, .int .i64 many] W (NoP 1 W)
  wordsY : ∀ (s : Ps) (n : Nat) (W : World), s.Ok → s.I % 2 = 1 → n ≤ 256 → Calls Try.prog 15 #[s.val, .int .i64 n] W (AnsRP (rowP s n) (iterP s n) W)
end Go.Proofs.Ythnmekieanndgaa
