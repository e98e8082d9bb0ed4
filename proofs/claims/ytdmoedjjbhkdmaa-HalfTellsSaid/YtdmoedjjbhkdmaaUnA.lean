/-
  Numbers of 128 bits beside lists of words: a number and its two words, what Of and Add of package wide answer, and how an argument that is such a number is opened.
-/
import Derived.Test.YtdmoedjjbhkdmaaGfpJa
import Derived.Test.YtdmoedjjbhkdmaaWideA
namespace Go.Proofs.Ytdmoedjjbhkdmaa
open Go.ChangeShapes Go.WideShapes Go.ChangeAt Go.RowKit Go.Joins G
set_option linter.unusedVariables false

/-- h and l are the two words of N. -/
structure Wn (h l : Int) (N : Nat) : Prop where
  h0 : 0 ≤ h
  h1 : h < 18446744073709551616
  l0 : 0 ≤ l
  l1 : l < 18446744073709551616
  eq : h * 18446744073709551616 + l = (N : Int)
def hiW (N : Nat) : Nat := N / 18446744073709551616
def loW (N : Nat) : Nat := N % 18446744073709551616
theorem Wn.of {h l : Int} {N : Nat} (k : Wn h l N) : h = ((hiW N : Nat) : Int) ∧ l = ((loW N : Nat) : Int) := by
  obtain ⟨a, b, c, d, e⟩ := k
  unfold hiW loW
  omega
theorem Wn.lt {h l : Int} {N : Nat} (k : Wn h l N) : N < 340282366920938463463374607431768211456 := by
  obtain ⟨a, b, c, d, e⟩ := k
  omega
theorem wn_of {N : Nat} (h : N < 340282366920938463463374607431768211456) : Wn ((hiW N : Nat) : Int) ((loW N : Nat) : Int) N := by
  unfold hiW loW
  exact ⟨by omega, by omega, by omega, by omega, by omega⟩
theorem wn_nat {h l N : Nat} (h1 : h < 18446744073709551616) (l1 : l < 18446744073709551616) (e : h * 18446744073709551616 + l = N) : Wn (h : Int) (l : Int) N := ⟨by omega, by omega, by omega, by omega, by omega⟩
/-- An answer that is a number of 128 bits. -/
def AnsW (N : Nat) (w : World) (e : Ending) (w' : World) : Prop := e = .returned (.agg #[.int .u64 ((hiW N : Nat) : Int), .int .u64 ((loW N : Nat) : Int)]) ∧ Below w.heap.size w w'
/-- An answer that is an int. -/
def AnsI (n : Int) (w : World) (e : Ending) (w' : World) : Prop := e = .returned (.int .i64 n) ∧ Below w.heap.size w w'
theorem ansW_of {h l : Int} {N : Nat} {w w' : World} (k : Wn h l N) (hb : Below w.heap.size w w') : AnsW N w (.returned (.agg #[.int .u64 h, .int .u64 l])) w' := by
  obtain ⟨rfl, rfl⟩ := k.of
  exact ⟨rfl, hb⟩
theorem wn_is {h l n : Int} {N : Nat} (k : Wd.Is n h l) (e : n = (N : Int)) : Wn h l N := by
  obtain ⟨a, b, c, d, f⟩ := k
  exact ⟨a, b, c, d, by omega⟩
/-- An answer that is a number and a bool. -/
theorem cOf (n : Nat) (x : Int) (e : (n : Int) = x) (h : n < 18446744073709551616) (w : World) : Calls Try.prog 20 #[.int .u64 x] w (AnsW n w) := by
  subst e
  refine (Wd.wOf (n : Int) (by omega) (by omega) w).mono ?_
  rintro e w' ⟨h, l, ⟨rfl, rfl⟩, rfl, hb⟩
  exact ansW_of ⟨by omega, by omega, by omega, by omega, by omega⟩ hb
def AnsWB (N : Nat) (c : Bool) (w : World) (e : Ending) (w' : World) : Prop := e = .returned (.tuple #[.agg #[.int .u64 ((hiW N : Nat) : Int), .int .u64 ((loW N : Nat) : Int)], .bool c]) ∧ Below w.heap.size w w'
theorem below_allocs (w : World) (o : Obj) : Below w.heap.size w (w.alloc o) := below_alloc (Below.refl _ _) o
theorem cell0_of_block {w : World} {b : Nat} {x y : Value} {t : TypeId} (h : w.heap[b]? = some (.cells #[x, y] t (0, 0))) : w.cell? ⟨b, 0, none⟩ = some x ∧ w.cell? ⟨b, 1, none⟩ = some y := by
  constructor <;> simp [World.cell?, h]
theorem cells_new (w : World) (x y : Value) (t : TypeId) : (w.alloc (.cells #[x, y] t)).cell? ⟨w.heap.size, 0, none⟩ = some x ∧ (w.alloc (.cells #[x, y] t)).cell? ⟨w.heap.size, 1, none⟩ = some y := cell0_of_block (t := t) (show (w.heap.push (.cells #[x, y] t))[w.heap.size]? = some _ by simp)
theorem two_below {w w' : World} {b : Nat} {x y : Value} (h : w.cell? ⟨b, 0, none⟩ = some x ∧ w.cell? ⟨b, 1, none⟩ = some y) (hb : Below w.heap.size w w') : w'.cell? ⟨b, 0, none⟩ = some x ∧ w'.cell? ⟨b, 1, none⟩ = some y :=
  ⟨(hb.cell (p := ⟨b, 0, none⟩) (World.block_lt_of_cell? w _ h.1)).trans h.1, (hb.cell (p := ⟨b, 1, none⟩) (World.block_lt_of_cell? w _ h.2)).trans h.2⟩
theorem cellsU : Try.prog.cellsOf 24 = 2 := by kernel_rfl
theorem openUN {H : Type} {enc : TypeId × Value → H} {W : World} {base : Nat} {v : Value} {d : DataW H} {p : List MemPlace} (ok : Value.okWide Try.prog W .any base 24 v)
    (h : DataW.Trod enc Try.prog W 0 (fun _ => true) true 24 v d p) :
    ∃ (h l : Int) (N : Nat), Wn h l N ∧ v = .agg #[.int .u64 h, .int .u64 l] ∧ d = .agg [.lit (.int .u64 h), .lit (.int .u64 l)] ∧ p = [] ∧
      ∀ (W' : World) (sp : Nat → Bool), DataW.Trod enc Try.prog W' 0 sp true 24 (.agg #[.int .u64 h, .int .u64 l]) (.agg [.lit (.int .u64 h), .lit (.int .u64 l)]) [] := by
  obtain ⟨c0, c1, y0, y1, m, rfl, rfl, rfl, hy0, hy1⟩ := open_agg2 Try.underlying24 (by kernel_rfl) cellsU ok h
  obtain ⟨a, e0, rfl, wa⟩ := DataW.trod_int Try.underlying22 hy0
  obtain ⟨b, e1, rfl, wb⟩ := DataW.trod_int Try.underlying22 hy1
  simp at e0 e1
  subst e0 e1
  have b1 := bounds_u64 wa
  have b2 := bounds_u64 wb
  refine ⟨a, b, (a * 18446744073709551616 + b).toNat, ⟨by omega, by omega, by omega, by omega, by omega⟩, rfl, rfl, rfl, fun W' sp => ?_⟩
  exact shut_agg2 (y0 := (.lit (.int .u64 a), [])) (y1 := (.lit (.int .u64 b), [])) Try.underlying24 (by kernel_rfl) cellsU ⟨1, by simp [DataW.trod, Try.underlying22, wa]⟩ ⟨1, by simp [DataW.trod, Try.underlying22, wb]⟩
/-- The two words of a number in memory. -/
structure CU (w : World) (b : Nat) (h l : Int) : Prop where
  c : w.cell? ⟨b, 0, none⟩ = some (.int .u64 h) ∧ w.cell? ⟨b, 1, none⟩ = some (.int .u64 l)
theorem CU.below {w w' : World} {b : Nat} {h l : Int} (k : CU w b h l) (hb : Below w.heap.size w w') : CU w' b h l := ⟨two_below k.c hb⟩
theorem CU.alloc {w : World} {b : Nat} {h l : Int} (k : CU w b h l) (o : Obj) : CU (w.alloc o) b h l := k.below (below_allocs w o)
theorem CU.new (w : World) (h l : Int) (t : TypeId) : CU (w.alloc (.cells #[.int .u64 h, .int .u64 l] t)) w.heap.size h l := ⟨cells_new w _ _ t⟩
theorem CU.lt {w : World} {b : Nat} {h l : Int} (k : CU w b h l) : b < w.heap.size := World.block_lt_of_cell? w _ k.c.1
end Go.Proofs.Ytdmoedjjbhkdmaa
