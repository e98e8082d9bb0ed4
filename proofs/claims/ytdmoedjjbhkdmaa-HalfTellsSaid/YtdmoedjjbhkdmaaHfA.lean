/-
  A state of package half as a value, in memory and as an argument; states that are compared; what half's calls answer, as the statements of layer 12 need it (said here, shown of the program elsewhere).
-/
import Derived.Test.YtdmoedjjbhkdmaaHfM
import Derived.Test.YtdmoedjjbhkdmaaPhP
import Derived.Test.YtdmoedjjbhkdmaaPhS
import Derived.Test.YtdmoedjjbhkdmaaUnA
import Derived.Test.YtdmoedjjbhkdmaaGfpJa
import Derived.Laws.StructEq
namespace Go.Proofs.Ytdmoedjjbhkdmaa
open Go.ChangeShapes Go.WideShapes Go.ChangeAt Go.RowKit Go.Joins G
set_option linter.unusedVariables false
set_option maxRecDepth 100000

/-- The cells of a state. -/
structure Hw where
  h : Int
  l : Int
  k : Int
  m : Int
  s : Bool
abbrev Hw.val (y : Hw) : Value := .agg #[.int .u64 y.h, .int .u64 y.l, .int .u32 y.k, .int .u32 y.m, .bool y.s]
abbrev Hs.w (x : Hs) : Hw := ⟨((hiW x.C : Nat) : Int), ((loW x.C : Nat) : Int), (x.K.k : Int), (x.K.m : Int), x.s⟩
abbrev Hs.val (x : Hs) : Value := x.w.val
abbrev U (n : Nat) : Value := .agg #[.int .u64 ((hiW n : Nat) : Int), .int .u64 ((loW n : Nat) : Int)]
/-- A block that holds a state: a struct of type t. -/
def K5 (t : TypeId) (w : World) (b : Nat) (y : Hw) : Prop := w.heap[b]? = some (.cells #[.int .u64 y.h, .int .u64 y.l, .int .u32 y.k, .int .u32 y.m, .bool y.s] t (0, 0))
section
variable {t : TypeId} {w w' : World} {b x : Nat} {y z : Hw}
theorem K5.lt (h : K5 t w b y) : b < w.heap.size := (Array.getElem?_eq_some_iff.1 h).1
theorem K5.below (h : K5 t w b y) (hb : Below w.heap.size w w') : K5 t w' b y := (hb.block b h.lt).trans h
theorem K5.new (t : TypeId) (w : World) (y : Hw) : K5 t (w.alloc (.cells #[.int .u64 y.h, .int .u64 y.l, .int .u32 y.k, .int .u32 y.m, .bool y.s] t)) w.heap.size y := show (w.heap.push _)[w.heap.size]? = some _ by simp
theorem K5.cells (h : K5 t w b y) : w.cell? ⟨b, 0, none⟩ = some (.int .u64 y.h) ∧ w.cell? ⟨b, 1, none⟩ = some (.int .u64 y.l) ∧ w.cell? ⟨b, 2, none⟩ = some (.int .u32 y.k) ∧ w.cell? ⟨b, 3, none⟩ = some (.int .u32 y.m) ∧ w.cell? ⟨b, 4, none⟩ = some (.bool y.s) := by
  unfold K5 at h
  refine ⟨?_, ?_, ?_, ?_, ?_⟩ <;> simp [World.cell?, h]
theorem K5.free (h : K5 t w b y) : w.frozen? ⟨b, 0, none⟩ = false ∧ w.frozen? ⟨b, 1, none⟩ = false ∧ w.frozen? ⟨b, 2, none⟩ = false ∧ w.frozen? ⟨b, 3, none⟩ = false ∧ w.frozen? ⟨b, 4, none⟩ = false := by
  unfold K5 at h
  refine ⟨?_, ?_, ?_, ?_, ?_⟩ <;> simp [World.frozen?, h]
theorem K5.far (h : K5 t w b y) {a : Addr} (hne : b ≠ a.block) (u : Value) : K5 t (w.setCell a u) b y := (Below.heap_setCell w a u b hne).trans h
theorem at_block {o : Array Value} (h : w.heap[b]? = some (.cells o t (0, 0))) (i : Nat) (v : Value) : (w.setCell ⟨b, i, none⟩ v).heap[b]? = some (.cells (o.setIfInBounds i v) t (0, 0)) := by
  simp [World.setCell, Array.getElem?_modify, h]
/-- A state that is stored. -/
abbrev put5 (w : World) (b : Nat) (z : Hw) : World := ((((w.setCell ⟨b, 0, none⟩ (.int .u64 z.h)).setCell ⟨b, 1, none⟩ (.int .u64 z.l)).setCell ⟨b, 2, none⟩ (.int .u32 z.k)).setCell ⟨b, 3, none⟩ (.int .u32 z.m)).setCell ⟨b, 4, none⟩ (.bool z.s)
theorem K5.put (h : K5 t w b y) (z : Hw) : K5 t (put5 w b z) b z := by
  have h0 := at_block h 0 (.int .u64 z.h)
  have h1 := at_block h0 1 (.int .u64 z.l)
  have h2 := at_block h1 2 (.int .u32 z.k)
  have h3 := at_block h2 3 (.int .u32 z.m)
  exact (at_block h3 4 (.bool z.s)).trans rfl
theorem K5.far5 (h : K5 t w b y) (hne : b ≠ x) (z : Hw) : K5 t (put5 w x z) b y := ((((h.far hne _).far hne _).far hne _).far hne _).far hne _
theorem below_put5 {B : Nat} {a : World} (h : Below B a w) (hb : B ≤ x) (z : Hw) : Below B a (put5 w x z) := ((((h.setCell hb _).setCell hb _).setCell hb _).setCell hb _).setCell hb _
end
/-- States that are compared as a whole. -/
def Hw.same (y z : Hw) : Bool := (y.h == z.h && y.l == z.l) && ((y.k == z.k && y.m == z.m) && y.s == z.s)
theorem eqHw (y z : Hw) (w : World) : Sem.run Try.prog (Op.equalIn 10000 29 y.val z.val) w = .ok (y.same z) w := by
  have q : ∀ n a b a' b' w, Sem.run Try.prog (Op.equalIn (n + 1 + 1) 27 (.agg #[.int .u32 a, .int .u32 b]) (.agg #[.int .u32 a', .int .u32 b'])) w = .ok (a == a' && b == b') w := fun n => eq2 _ n Try.underlying27
  obtain ⟨h, l, k, m, s⟩ := y
  obtain ⟨h', l', k', m', s'⟩ := z
  unfold Hw.same
  go_simp
  by_cases h1 : h = h' <;> by_cases h2 : l = l' <;> by_cases h3 : k = k' <;> by_cases h4 : m = m' <;> cases s <;> cases s' <;> simp [h1, h2, h3, h4]
theorem same_self (y : Hw) : y.same y = true := by
  obtain ⟨h, l, k, m, s⟩ := y
  unfold Hw.same
  simp
theorem w_same {x y : Hs} (hx : x.Ok) (hy : y.Ok) (e : x.w.same y.w = true) : x = y := by
  unfold Hw.same at e
  simp only [Bool.and_eq_true, beq_iff_eq] at e
  obtain ⟨⟨e1, e2⟩, ⟨e3, e4⟩, e5⟩ := e
  refine Hs.same ?_ ?_ e5
  · have a1 : hiW x.C = hiW y.C := by exact_mod_cast e1
    have a2 : loW x.C = loW y.C := by exact_mod_cast e2
    unfold hiW at a1
    unfold loW at a2
    omega
  · have b1 : x.K.k = y.K.k := by exact_mod_cast e3
    have b2 : x.K.m = y.K.m := by exact_mod_cast e4
    obtain ⟨c, ⟨p, q⟩, r⟩ := x
    obtain ⟨c', ⟨p', q'⟩, r'⟩ := y
    simp only at b1 b2 ⊢
    rw [b1, b2]
theorem same_iffH {x y : Hs} (hx : x.Ok) (hy : y.Ok) : x.w.same y.w = true ↔ x = y := ⟨w_same hx hy, fun h => by rw [h]; exact same_self _⟩
/-- Calls that tell a state, a word, two words, a bool. -/
abbrev TH (f : FuncId) (args : Array Value) (y : Hw) : Prop := ∀ W : World, Calls Try.prog f args W (fun e w' => e = .returned (.agg #[.int .u64 y.h, .int .u64 y.l, .int .u32 y.k, .int .u32 y.m, .bool y.s]) ∧ Below W.heap.size W w')
abbrev TU (f : FuncId) (args : Array Value) (v : Int) : Prop := ∀ W : World, Calls Try.prog f args W (fun e w' => e = .returned (.int .u64 v) ∧ Below W.heap.size W w')
abbrev TN (f : FuncId) (args : Array Value) (h l : Int) : Prop := ∀ W : World, Calls Try.prog f args W (fun e w' => e = .returned (.agg #[.int .u64 h, .int .u64 l]) ∧ Below W.heap.size W w')
abbrev TNB (f : FuncId) (args : Array Value) (h l : Int) (c : Bool) : Prop := ∀ W : World, Calls Try.prog f args W (fun e w' => e = .returned (.tuple #[.agg #[.int .u64 h, .int .u64 l], .bool c]) ∧ Below W.heap.size W w')
theorem quietH {P : Program} {f : FuncId} {args : Array Value} {W0 w : World} {a b c d : Int} {s : Bool} (h : Calls P f args w (fun e w' => e = .returned (.agg #[.int .u64 a, .int .u64 b, .int .u32 c, .int .u32 d, .bool s]) ∧ Below w.heap.size w w')) (hC : Below W0.heap.size W0 w) :
    Calls P f args w (fun e w'' => e = .returned (.agg #[.int .u64 a, .int .u64 b, .int .u32 c, .int .u32 d, .bool s]) ∧ Below W0.heap.size W0 w'') := quietOf h hC
/-- So many words, and the state behind them; none, and why. -/
def AnsRH (xs : List Nat) (y : Hw) (w : World) (e : Ending) (w' : World) : Prop := ∃ (A : Option Addr) (cap : Nat), e = .returned (.tuple #[.slice A xs.length cap, .agg #[.int .u64 y.h, .int .u64 y.l, .int .u32 y.k, .int .u32 y.m, .bool y.s], .int .i64 0]) ∧ Pol w' A cap xs ∧ Below w.heap.size w w'
def NoH (k : Int) (w : World) (e : Ending) (w' : World) : Prop := e = .returned (.tuple #[.slice none 0 0, .agg #[.int .u64 0, .int .u64 0, .int .u32 0, .int .u32 0, .bool false], .int .i64 k]) ∧ Below w.heap.size w w'
/-- What the calls of package half answer. -/
structure HF : Prop where
  block : ∀ c : Nat, c < 340282366920938463463374607431768211456 → TB 18 #[U c] (blockH c)
  number : ∀ b : Bk, b.Ok → TN 23 #[b.val] ((hiW (numH b) : Nat) : Int) ((loW (numH b) : Nat) : Int)
  word : ∀ x : Hs, x.Ok → TU 14 #[x.val] ((wordH x : Nat) : Int)
  step : ∀ x : Hs, x.Ok → TH 15 #[x.val] (stepH x).w
  back : ∀ x : Hs, x.Ok → TH 22 #[x.val] (backH x).w
  jump : ∀ (x : Hs) (n : Nat), x.Ok → n < 340282366920938463463374607431768211456 → TH 16 #[x.val, U n] (jumpH x n).w
  wordsN : ∀ (x : Hs) (many : Int) (W : World), x.Ok → (many < 0 ∨ 256 < many) → Calls Try.prog 9 #[x.val, .int .i64 many] W (NoH 1 W)
  wordsY : ∀ (x : Hs) (n : Nat) (W : World), x.Ok → n ≤ 256 → Calls Try.prog 9 #[x.val, .int .i64 (n : Int)] W (AnsRH (rowH x n) (iterH x n).w W)
theorem cAddU {M N : Nat} (i : M < 340282366920938463463374607431768211456) (j : N < 340282366920938463463374607431768211456) :
    TNB 24 #[U M, U N] ((hiW ((M + N) % 340282366920938463463374607431768211456) : Nat) : Int) ((loW ((M + N) % 340282366920938463463374607431768211456) : Nat) : Int) (decide (340282366920938463463374607431768211456 ≤ M + N)) := fun w => by
  have wi := wn_of i
  have wj := wn_of j
  have h := Wd.wAdd _ _ _ _ wi.h0 wi.h1 wi.l0 wi.l1 wj.h0 wj.h1 wj.l0 wj.l1 w
  rw [wi.eq, wj.eq] at h
  refine h.mono ?_
  rintro e w' ⟨x, y, z, ⟨k, hz⟩, rfl, hb⟩
  obtain ⟨rfl, rfl⟩ := (wn_is (N := (M + N) % 340282366920938463463374607431768211456) k (by omega)).of
  refine ⟨?_, hb⟩
  rw [hz]
  have : decide ((340282366920938463463374607431768211456 : Int) ≤ (M : Int) + (N : Int)) = decide (340282366920938463463374607431768211456 ≤ M + N) := decide_eq_decide.2 (by omega)
  rw [this]
end Go.Proofs.Ytdmoedjjbhkdmaa
