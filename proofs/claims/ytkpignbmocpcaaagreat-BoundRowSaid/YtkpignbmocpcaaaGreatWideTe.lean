/-
  What digits, whole and Add of the reference of layer 1 answer: four digits of 32 bits, and sums by them.
-/
import Derived.Test.YtkpignbmocpcaaaGreatWideN
import Derived.BigQuiet
namespace Go.Proofs.YtkpignbmocpcaaaGreat.Wd
open Go.RowKit
set_option linter.unusedVariables false

def D4 (P : Int → Int → Int → Int → Prop) (w : World) (e : Ending) (w' : World) : Prop :=
  ∃ a b c d : Int, P a b c d ∧ e = .returned (.agg #[.int .u64 a, .int .u64 b, .int .u64 c, .int .u64 d]) ∧ Below w.heap.size w w'
/-- Four digits of 32 bits of a number. -/
def Is4 (n a b c d : Int) : Prop := 0 ≤ a ∧ a < 4294967296 ∧ 0 ≤ b ∧ b < 4294967296 ∧ 0 ≤ c ∧ c < 4294967296 ∧ 0 ≤ d ∧ d < 4294967296 ∧ a + 4294967296 * b + 18446744073709551616 * c + 79228162514264337593543950336 * d = n

set_option maxRecDepth 100000 in
set_option maxHeartbeats 400000 in
theorem rDigits (ah al : Int) (a1 : 0 ≤ ah) (a2 : ah < 18446744073709551616) (a3 : 0 ≤ al) (a4 : al < 18446744073709551616) (w : World) :
    Calls Tryz.prog 31 #[.agg #[.int .u64 ah, .int .u64 al]] w (D4 (fun a b c d => Is4 (ah * 18446744073709551616 + al) a b c d) w) := by
  go_enter Tryz.func31, Tryz.ntmps31
  go_wp2
  go_returns
  refine ⟨_, _, _, _, ⟨?_, ?_, ?_, ?_, ?_, ?_, ?_, ?_, ?_⟩, rfl, by go_grown⟩ <;> omega

set_option maxRecDepth 100000 in
set_option maxHeartbeats 400000 in
theorem rWhole (a b c d : Int) (a1 : 0 ≤ a) (a2 : a < 4294967296) (b1 : 0 ≤ b) (b2 : b < 4294967296) (c1 : 0 ≤ c) (c2 : c < 4294967296) (d1 : 0 ≤ d) (d2 : d < 4294967296) (w : World) :
    Calls Tryz.prog 32 #[.agg #[.int .u64 a, .int .u64 b, .int .u64 c, .int .u64 d]] w
      (U1 (fun h l => Is (a + 4294967296 * b + 18446744073709551616 * c + 79228162514264337593543950336 * d) h l) w) := by
  go_enter Tryz.func32, Tryz.ntmps32
  go_wp2
  go_returns
  refine ⟨_, _, ⟨?_, ?_, ?_, ?_, ?_⟩, rfl, by go_grown⟩ <;> omega

theorem sum4 (n m x0 x1 x2 x3 y0 y1 y2 y3 : Int) (p : Is4 n x0 x1 x2 x3) (q : Is4 m y0 y1 y2 y3) :
    (x0 + y0) % 4294967296 + 4294967296 * ((x1 + y1 + (x0 + y0) / 4294967296) % 4294967296) + 18446744073709551616 * ((x2 + y2 + (x1 + y1 + (x0 + y0) / 4294967296) / 4294967296) % 4294967296) + 79228162514264337593543950336 * ((x3 + y3 + (x2 + y2 + (x1 + y1 + (x0 + y0) / 4294967296) / 4294967296) / 4294967296) % 4294967296) = (n + m) % 340282366920938463463374607431768211456 ∧
    ((x3 + y3 + (x2 + y2 + (x1 + y1 + (x0 + y0) / 4294967296) / 4294967296) / 4294967296) / 4294967296 = 1 ↔ 340282366920938463463374607431768211456 ≤ n + m) ∧ True := by
  obtain ⟨p1, p2, p3, p4, p5, p6, p7, p8, p9⟩ := p
  obtain ⟨q1, q2, q3, q4, q5, q6, q7, q8, q9⟩ := q
  refine ⟨?_, ?_, trivial⟩ <;> omega
/-- Block b holds four words, and may be written. -/
structure Own4 (w : World) (b : Nat) (x0 x1 x2 x3 : Value) : Prop where
  lt : b < w.heap.size
  c0 : w.cell? ⟨b, 0, none⟩ = some x0
  c1 : w.cell? ⟨b, 1, none⟩ = some x1
  c2 : w.cell? ⟨b, 2, none⟩ = some x2
  c3 : w.cell? ⟨b, 3, none⟩ = some x3
  fr : ∀ j, w.frozen? ⟨b, j, none⟩ = false
theorem Own4.below {W w' : World} {b : Nat} {x0 x1 x2 x3 : Value} (k : Own4 W b x0 x1 x2 x3) (hb : Below W.heap.size W w') : Own4 w' b x0 x1 x2 x3 :=
  ⟨Nat.lt_of_lt_of_le k.lt hb.size, (hb.cell (p := ⟨b, 0, none⟩) k.lt).trans k.c0, (hb.cell (p := ⟨b, 1, none⟩) k.lt).trans k.c1, (hb.cell (p := ⟨b, 2, none⟩) k.lt).trans k.c2, (hb.cell (p := ⟨b, 3, none⟩) k.lt).trans k.c3,
    fun j => (hb.frozen (p := ⟨b, j, none⟩) k.lt).trans (k.fr j)⟩
theorem Own4.fresh (W : World) (x0 x1 x2 x3 : Value) (t : TypeId) : Own4 (W.alloc (.cells #[x0, x1, x2, x3] t)) W.heap.size x0 x1 x2 x3 :=
  ⟨by simp, by simp, by simp, by simp, by simp, fun j => by simp⟩

end Go.Proofs.YtkpignbmocpcaaaGreat.Wd
