/-
  What the call addUp of package gfdiv does: a times a power of x is added to a list, on the spot.
-/
import Derived.Test.YthohgleklcoglaaGfpI
import Derived.ChangeAlike
namespace Go.Proofs.Ythohgleklcoglaa
open Go.RowKit G
set_option linter.unusedVariables false

/-- The cells of a list of words. -/
def words (ps : List Nat) : List Value := ps.map fun x : Nat => Value.int .u64 (x : Int)
theorem words_length (ps : List Nat) : (words ps).length = ps.length := List.length_map _
/-- A list of the call's own that holds these words. -/
structure Row (base g cap : Nat) (ps : List Nat) (w : World) : Prop where
  own : w.ownsRow base 22 1 (.slice (some ⟨g, 0, none⟩) ps.length cap) ps.length (words ps)
  wds : Wds ps
theorem Row.set {base g cap : Nat} {ps : List Nat} {w : World} (h : Row base g cap ps w) (k v : Nat) (hv : v < 18446744073709551616) : Row base g cap (ps.set k v) (w.setCell ⟨g, k, none⟩ (.int .u64 (v : Int))) := by
  obtain ⟨a, b⟩ := h.own.stored k (.int .u64 (v : Int))
  refine ⟨?_, h.wds.set k v hv⟩
  rw [words, List.map_set, List.length_set]; exact a
theorem Row.cell {base g cap : Nat} {ps : List Nat} {w : World} (h : Row base g cap ps w) (k : Nat) (hk : k < ps.length) : w.cell? ⟨g, k, none⟩ = some (.int .u64 ((ps.getD k 0 : Nat) : Int)) ∧ w.frozen? ⟨g, k, none⟩ = false := by
  refine ⟨?_, h.own.frozenAt k⟩
  rw [h.own.cellAt k (by omega)]
  simp [words, List.getElem?_eq_getElem hk]
theorem Row.drew {base g cap : Nat} {ps : List Nat} {w : World} (h : Row base g cap ps w) : Row base g cap ps w.drew := ⟨h.own, h.wds⟩
theorem Row.pol {base g cap : Nat} {ps : List Nat} {w : World} (h : Row base g cap ps w) : Pol w (some ⟨g, 0, none⟩) cap ps := by
  obtain ⟨A, c, e, P⟩ := Pol.of_owns h.wds h.own
  simp only [Value.slice.injEq, true_and] at e
  obtain ⟨rfl, rfl⟩ := e
  exact P
theorem Row.lt {base g cap : Nat} {ps : List Nat} {w : World} (h : Row base g cap ps w) : base ≤ g ∧ g < w.heap.size := h.own.lt g rfl
theorem Row.below {base g cap : Nat} {ps : List Nat} {w w' : World} (h : Row base g cap ps w) (hb : Below w.heap.size w w') : Row base g cap ps w' := by
  refine ⟨⟨h.own.1, ?_⟩, h.wds⟩
  rcases h.own.2 with h2 | ⟨g', cap', cur, hv, hg, hh, r⟩
  · exact .inl h2
  · exact .inr ⟨g', cap', cur, hv, hg, (hb.block g' (Array.getElem?_eq_some_iff.1 hh).1).trans hh, r⟩
theorem Row.kept {base g cap g' : Nat} {ps : List Nat} {w w' : World} (h : Row base g cap ps w) (hg : w.grownBy w' (some g')) (hne : g ≠ g') : Row base g cap ps w' :=
  ⟨h.own.kept hg (.inr (by simpa [Value.ownBlock] using hne)), h.wds⟩
theorem grown_refl (w : World) (r : Option Nat) : w.grownBy w r := ⟨rfl, rfl, rfl, Nat.le_refl _, fun _ _ _ => rfl⟩
theorem grown_trans {a b c : World} {r : Option Nat} (h : a.grownBy b r) (k : b.grownBy c r) : a.grownBy c r :=
  ⟨k.os.trans h.os, k.tape.trans h.tape, k.output.trans h.output, Nat.le_trans h.size k.size, fun i hi hn => (k.block i (Nat.lt_of_lt_of_le hi h.size) hn).trans (h.block i hi hn)⟩
theorem grown_set {a w : World} {g : Nat} (h : a.grownBy w (some g)) (k : Nat) (u : Value) : a.grownBy (w.setCell ⟨g, k, none⟩ u) (some g) :=
  ⟨h.os, h.tape, h.output, by simpa [World.setCell] using h.size, fun i hi hn => (Below.heap_setCell w ⟨g, k, none⟩ u i (fun e => hn (by rw [e]))).trans (h.block i hi hn)⟩
theorem grown_drew {a w : World} {r : Option Nat} (h : a.grownBy w r) : a.grownBy w.drew r := ⟨h.os, h.tape, h.output, h.size, h.block⟩
theorem Pol.grown {w w' : World} {A : Option Addr} {cap g : Nat} {xs : List Nat} (h : Pol w A cap xs) (hg : w.grownBy w' (some g)) (hne : ∀ ad, A = some ad → ad.block ≠ g) : Pol w' A cap xs :=
  ⟨h.word, h.cap1, h.cap2, fun i hi => by
    obtain ⟨b, o, e, hc⟩ := h.cell i hi
    refine ⟨b, o, e, hg.cell hc ?_⟩
    intro q
    exact hne _ e (by simpa using q)⟩
theorem xor_turn (a b c : Nat) : a ^^^ b ^^^ c = a ^^^ (c ^^^ b) := by rw [Nat.xor_assoc, Nat.xor_comm b c]
/-- What of a word goes up by s bits, and what goes over. -/
theorem up_two (ps ys : List Nat) (n q s k : Nat) (hn : n = 64 * q + s) (hs : s < 64) (hp : Wds ps) (hy : Wds ys) (h1 : q + k < ps.length) (h2 : ys.getD k 0 / 2 ^ (64 - s) ≠ 0 → q + k + 1 < ps.length) (Z : Nat) (hz : leN ps = Z ^^^ leN (ys.take k) * 2 ^ n) :
    (ys.getD k 0 / 2 ^ (64 - s) = 0 → leN (ps.set (q + k) (ps.getD (q + k) 0 ^^^ ys.getD k 0 * 2 ^ s % 18446744073709551616)) = Z ^^^ leN (ys.take (k + 1)) * 2 ^ n) ∧
    (ys.getD k 0 / 2 ^ (64 - s) ≠ 0 → leN ((ps.set (q + k) (ps.getD (q + k) 0 ^^^ ys.getD k 0 * 2 ^ s % 18446744073709551616)).set (q + k + 1) ((ps.set (q + k) (ps.getD (q + k) 0 ^^^ ys.getD k 0 * 2 ^ s % 18446744073709551616)).getD (q + k + 1) 0 ^^^ ys.getD k 0 / 2 ^ (64 - s))) = Z ^^^ leN (ys.take (k + 1)) * 2 ^ n) := by
  have l1 : ys.getD k 0 * 2 ^ s % 18446744073709551616 < 18446744073709551616 := Nat.mod_lt _ (by decide)
  have l2 : ys.getD k 0 / 2 ^ (64 - s) < 18446744073709551616 := Nat.lt_of_le_of_lt (Nat.div_le_self _ _) (hy.get k)
  have e1 := leN_set_xor ps (q + k) _ hp h1 l1
  have dv : ys.getD k 0 * 2 ^ s / 18446744073709551616 = ys.getD k 0 / 2 ^ (64 - s) := div_shift _ s 64 (by omega)
  have two := two_words (ys.getD k 0 * 2 ^ s) (q + k)
  rw [dv] at two
  have goal : Z ^^^ leN (ys.take (k + 1)) * 2 ^ n = leN ps ^^^ (ys.getD k 0 * 2 ^ s) * 2 ^ (64 * (q + k)) := by
    rw [hz, leN_take_succ ys k hy, xor_shift, ← Nat.xor_assoc]
    congr 1
    rw [Nat.mul_assoc, Nat.mul_assoc, ← Nat.pow_add, ← Nat.pow_add]
    congr 2
    omega
  constructor
  · intro z
    rw [z, Nat.zero_mul, Nat.zero_xor] at two
    rw [e1, goal, two]
  · intro nz
    rw [leN_set_xor _ (q + k + 1) _ (hp.set _ _ (word_xor (hp.get _) l1)) (by rw [List.length_set]; exact h2 nz) l2, e1, goal, ← two]
    exact xor_turn _ _ _

end Go.Proofs.Ythohgleklcoglaa
