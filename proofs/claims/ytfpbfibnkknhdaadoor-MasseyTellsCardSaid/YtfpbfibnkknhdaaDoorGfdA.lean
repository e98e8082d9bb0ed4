/-
  What the call addUp of package gfdiv does: a times a power of x is added to a list, on the spot.
-/
import Derived.Test.YtfpbfibnkknhdaaDoorGfpI
import Derived.Test.YtfpbfibnkknhdaaDoorGfdM
import Derived.ChangeAlike
namespace Go.Proofs.YtfpbfibnkknhdaaDoor
open Go.RowKit G
set_option linter.unusedVariables false

/-- The cells of a list of words. -/
def words (ps : List Nat) : List Value := ps.map fun x : Nat => Value.int .u64 (x : Int)
theorem words_length (ps : List Nat) : (words ps).length = ps.length := List.length_map _
/-- A list of the call's own that holds these words. -/
structure Row (base g cap : Nat) (ps : List Nat) (w : World) : Prop where
  own : w.ownsRow base 50 1 (.slice (some ⟨g, 0, none⟩) ps.length cap) ps.length (words ps)
  wds : Wds ps
theorem Row.set {base g cap : Nat} {ps : List Nat} {w : World} (h : Row base g cap ps w) (k v : Nat) (hv : v < 18446744073709551616) : Row base g cap (ps.set k v) (w.setCell ⟨g, k, none⟩ (.int .u64 (v : Int))) := by
  obtain ⟨a, b⟩ := h.own.stored k (.int .u64 (v : Int))
  refine ⟨?_, h.wds.set k v hv⟩
  rw [words, List.map_set, List.length_set]; exact a
theorem Row.cell {base g cap : Nat} {ps : List Nat} {w : World} (h : Row base g cap ps w) (k : Nat) (hk : k < ps.length) : w.cell? ⟨g, k, none⟩ = some (.int .u64 ((ps.getD k 0 : Nat) : Int)) ∧ w.frozen? ⟨g, k, none⟩ = false := by
  refine ⟨?_, h.own.frozenAt k⟩
  rw [h.own.cellAt k (by omega)]
  simp [words, List.getElem?_eq_getElem hk]
theorem Row.drew {base g cap : Nat} {ps : List Nat} {w : World} (h : Row base g cap ps w) : Row base g cap ps w.drew := ⟨h.own, h.wds⟩
theorem Row.pol {base g cap : Nat} {ps : List Nat} {w : World} (h : Row base g cap ps w) : Pol w (some ⟨g, 0, none⟩) cap ps := by
  obtain ⟨A, c, e, P⟩ := Pol.of_owns h.wds h.own
  simp only [Value.slice.injEq, true_and] at e
  obtain ⟨rfl, rfl⟩ := e
  exact P
theorem Row.lt {base g cap : Nat} {ps : List Nat} {w : World} (h : Row base g cap ps w) : base ≤ g ∧ g < w.heap.size := h.own.lt g rfl
theorem Row.below {base g cap : Nat} {ps : List Nat} {w w' : World} (h : Row base g cap ps w) (hb : Below w.heap.size w w') : Row base g cap ps w' := by
  refine ⟨⟨h.own.1, ?_⟩, h.wds⟩
  rcases h.own.2 with h2 | ⟨g', cap', cur, hv, hg, hh, r⟩
  · exact .inl h2
  · exact .inr ⟨g', cap', cur, hv, hg, (hb.block g' (Array.getElem?_eq_some_iff.1 hh).1).trans hh, r⟩
theorem Row.kept {base g cap g' : Nat} {ps : List Nat} {w w' : World} (h : Row base g cap ps w) (hg : w.grownBy w' (some g')) (hne : g ≠ g') : Row base g cap ps w' :=
  ⟨h.own.kept hg (.inr (by simpa [Value.ownBlock] using hne)), h.wds⟩
theorem grown_refl (w : World) (r : Option Nat) : w.grownBy w r := ⟨rfl, rfl, rfl, Nat.le_refl _, fun _ _ _ => rfl⟩
theorem grown_trans {a b c : World} {r : Option Nat} (h : a.grownBy b r) (k : b.grownBy c r) : a.grownBy c r :=
  ⟨k.os.trans h.os, k.tape.trans h.tape, k.output.trans h.output, Nat.le_trans h.size k.size, fun i hi hn => (k.block i (Nat.lt_of_lt_of_le hi h.size) hn).trans (h.block i hi hn)⟩
theorem grown_set {a w : World} {g : Nat} (h : a.grownBy w (some g)) (k : Nat) (u : Value) : a.grownBy (w.setCell ⟨g, k, none⟩ u) (some g) :=
  ⟨h.os, h.tape, h.output, by simpa [World.setCell] using h.size, fun i hi hn => (Below.heap_setCell w ⟨g, k, none⟩ u i (fun e => hn (by rw [e]))).trans (h.block i hi hn)⟩
theorem grown_drew {a w : World} {r : Option Nat} (h : a.grownBy w r) : a.grownBy w.drew r := ⟨h.os, h.tape, h.output, h.size, h.block⟩
theorem Pol.grown {w w' : World} {A : Option Addr} {cap g : Nat} {xs : List Nat} (h : Pol w A cap xs) (hg : w.grownBy w' (some g)) (hne : ∀ ad, A = some ad → ad.block ≠ g) : Pol w' A cap xs :=
  ⟨h.word, h.cap1, h.cap2, fun i hi => by
    obtain ⟨b, o, e, hc⟩ := h.cell i hi
    refine ⟨b, o, e, hg.cell hc ?_⟩
    intro q
    exact hne _ e (by simpa using q)⟩
theorem xor_turn (a b c : Nat) : a ^^^ b ^^^ c = a ^^^ (c ^^^ b) := by rw [Nat.xor_assoc, Nat.xor_comm b c]
/-- What of a word goes up by s bits, and what goes over. -/
theorem up_two (ps ys : List Nat) (n q s k : Nat) (hn : n = 64 * q + s) (hs : s < 64) (hp : Wds ps) (hy : Wds ys) (h1 : q + k < ps.length) (h2 : ys.getD k 0 / 2 ^ (64 - s) ≠ 0 → q + k + 1 < ps.length) (Z : Nat) (hz : leN ps = Z ^^^ leN (ys.take k) * 2 ^ n) :
    (ys.getD k 0 / 2 ^ (64 - s) = 0 → leN (ps.set (q + k) (ps.getD (q + k) 0 ^^^ ys.getD k 0 * 2 ^ s % 18446744073709551616)) = Z ^^^ leN (ys.take (k + 1)) * 2 ^ n) ∧
    (ys.getD k 0 / 2 ^ (64 - s) ≠ 0 → leN ((ps.set (q + k) (ps.getD (q + k) 0 ^^^ ys.getD k 0 * 2 ^ s % 18446744073709551616)).set (q + k + 1) ((ps.set (q + k) (ps.getD (q + k) 0 ^^^ ys.getD k 0 * 2 ^ s % 18446744073709551616)).getD (q + k + 1) 0 ^^^ ys.getD k 0 / 2 ^ (64 - s))) = Z ^^^ leN (ys.take (k + 1)) * 2 ^ n) := by
  have l1 : ys.getD k 0 * 2 ^ s % 18446744073709551616 < 18446744073709551616 := Nat.mod_lt _ (by decide)
  have l2 : ys.getD k 0 / 2 ^ (64 - s) < 18446744073709551616 := Nat.lt_of_le_of_lt (Nat.div_le_self _ _) (hy.get k)
  have e1 := leN_set_xor ps (q + k) _ hp h1 l1
  have dv : ys.getD k 0 * 2 ^ s / 18446744073709551616 = ys.getD k 0 / 2 ^ (64 - s) := div_shift _ s 64 (by omega)
  have two := two_words (ys.getD k 0 * 2 ^ s) (q + k)
  rw [dv] at two
  have goal : Z ^^^ leN (ys.take (k + 1)) * 2 ^ n = leN ps ^^^ (ys.getD k 0 * 2 ^ s) * 2 ^ (64 * (q + k)) := by
    rw [hz, leN_take_succ ys k hy, xor_shift, ← Nat.xor_assoc]
    congr 1
    rw [Nat.mul_assoc, Nat.mul_assoc, ← Nat.pow_add, ← Nat.pow_add]
    congr 2
    omega
  constructor
  · intro z
    rw [z, Nat.zero_mul, Nat.zero_xor] at two
    rw [e1, goal, two]
  · intro nz
    rw [leN_set_xor _ (q + k + 1) _ (hp.set _ _ (word_xor (hp.get _) l1)) (by rw [List.length_set]; exact h2 nz) l2, e1, goal, ← two]
    exact xor_turn _ _ _

set_option maxRecDepth 100000 in
set_option maxHeartbeats 2000000 in
theorem addUpWalk (base g cap L K cb n q s Z : Nat) (B : Option Addr) (ps ys : List Nat) (hL : Hid (ps.length = L)) (hK : Hid (ys.length = K)) (hn : Hid (n = 64 * q + s)) (hs : s < 64) (bL : L ≤ 100000) (bK : K ≤ 100000) (bn : n ≤ 6400000)
    (c1 : K + q ≤ L) (c2 : Hid (∀ i, i < K → ys.getD i 0 / 2 ^ (64 - s) ≠ 0 → q + i + 1 < L)) (w : World) (R : Hid (Row base g cap ps w)) (P : Hid (Pol w B cb ys)) (ne : Hid (∀ ad, B = some ad → ad.block ≠ g)) (hZ : Hid (leN ps = Z)) :
    Calls Tryd.prog 42 #[.slice (some ⟨g, 0, none⟩) L cap, .slice B K cb, .int .i64 (n : Int)] w (fun e w' => ∃ ps', e = .returned (.tuple #[]) ∧ ps'.length = L ∧ leN ps' = Z ^^^ leN ys * 2 ^ n ∧ Row base g cap ps' w' ∧ w.grownBy w' (some g)) := by
  have q1 : (n : Int) / 64 = (q : Int) := by have := hn.out; omega
  have q2 : (n : Int) % 64 = (s : Int) := by have := hn.out; omega
  have q3 : q ≤ 100000 := by omega
  go_enter Tryd.func42, Tryd.ntmps42
  go_wp2
  rw [q2]
  clear q1 q2 q3
  go_loopg [17] K (fun gk i wr => ∃ (k : Nat) (ps' : List Nat), k + gk = K ∧ i = .int .i64 k ∧ Hid (ps'.length = L ∧ leN ps' = Z ^^^ leN (ys.take k) * 2 ^ n) ∧ Hid (Row base g cap ps' wr) ∧ Hid (w.grownBy wr (some g)))
  case atStart => exact ⟨0, ps, by omega, rfl, Lib.hid ⟨hL.out, by rw [hZ.out, List.take_zero]; show _ = _ ^^^ 0 * 2 ^ n; rw [Nat.zero_mul, Nat.xor_zero]⟩, R, Lib.hid (grown_refl _ _)⟩
  case round =>
    obtain ⟨k, ps', hk, rfl, hp, R', G⟩ := hrel
    by_cases hlt : k < K
    · have kl : (k : Int) < (K : Int) := by omega
      have k0 : (0 : Int) ≤ (k : Int) := by omega
      obtain ⟨t, ht⟩ : ∃ t, t = q + k := ⟨_, rfl⟩
      have r1 : (q : Int) + (k : Int) = (t : Int) := by omega
      have r4 : (t : Int) < (L : Int) := by omega
      have r5 : (0 : Int) ≤ (t : Int) := by omega
      have P' := P.out.grown G.out ne.out
      obtain ⟨b, o, rfl, hc⟩ := P'.cell k (by rw [hK.out]; exact hlt)
      have hx := P.out.word.get k
      obtain ⟨d1, d2⟩ := R'.out.cell t (by rw [hp.out.1]; omega)
      have hw := up_two ps' ys n q s k hn.out hs R'.out.wds P.out.word (by rw [hp.out.1]; omega) (fun z => by rw [hp.out.1]; exact c2.out k hlt z) Z hp.out.2
      rw [← ht] at hw
      have l1 : ys.getD k 0 * 2 ^ s % 18446744073709551616 < 18446744073709551616 := Nat.mod_lt _ (by decide)
      have X1 := xor_int _ _ (R'.out.wds.get t) l1
      have R1 := Lib.hid (R'.out.set t (ps'.getD t 0 ^^^ ys.getD k 0 * 2 ^ s % 18446744073709551616) (word_xor (R'.out.wds.get t) l1))
      have G1 := Lib.hid (grown_set G.out t (.int .u64 ((ps'.getD t 0 ^^^ ys.getD k 0 * 2 ^ s % 18446744073709551616 : Nat) : Int)))
      by_cases hz : ys.getD k 0 / 2 ^ (64 - s) = 0
      · have H1 := Lib.hid (show (ps'.set t (ps'.getD t 0 ^^^ ys.getD k 0 * 2 ^ s % 18446744073709551616)).length = L ∧ _ from ⟨by rw [List.length_set]; exact hp.out.1, hw.1 hz⟩)
        generalize ps'.set t (ps'.getD t 0 ^^^ ys.getD k 0 * 2 ^ s % 18446744073709551616) = ps2 at R1 H1
        have t1 : ((ys.getD k 0 : Nat) : Int) / 2 ^ (64 - s) = 0 := by rw [div_int, hz]; rfl
        have t2 : IntKind.u64.wrap (((ys.getD k 0 : Nat) : Int) * 2 ^ s) = ((ys.getD k 0 * 2 ^ s % 18446744073709551616 : Nat) : Int) := by rw [mul_int, wrap_nat]
        clear hw l1 P' hz
        generalize ys.getD k 0 * 2 ^ s % 18446744073709551616 = l at X1 R1 G1 t2
        generalize ys.getD k 0 = x at hc hx t1 t2
        generalize ps'.getD t 0 = p at d1 X1 R1 G1
        generalize p ^^^ l = z at X1 R1 G1
        clear ht
        go_wp2
        go_region
        all_goals go_ways
        all_goals (go_wp2)
        go_roundg (gk - 1)
        case measure => omega
        case rel => exact ⟨k + 1, ps2, by omega, by go_num, H1, Lib.hid R1.out.drew, Lib.hid (grown_drew G1.out)⟩
      · obtain ⟨u, hu⟩ : ∃ u, u = t + 1 := ⟨_, rfl⟩
        have uL : u < L := by have := c2.out k hlt hz; omega
        rw [← hu] at hw
        have l2 : ys.getD k 0 / 2 ^ (64 - s) < 18446744073709551616 := Nat.lt_of_le_of_lt (Nat.div_le_self _ _) hx
        have H1 := Lib.hid (show ((ps'.set t (ps'.getD t 0 ^^^ ys.getD k 0 * 2 ^ s % 18446744073709551616)).set u ((ps'.set t (ps'.getD t 0 ^^^ ys.getD k 0 * 2 ^ s % 18446744073709551616)).getD u 0 ^^^ ys.getD k 0 / 2 ^ (64 - s))).length = L ∧ _ from ⟨by rw [List.length_set, List.length_set]; exact hp.out.1, hw.2 hz⟩)
        have hl2 : (ps'.set t (ps'.getD t 0 ^^^ ys.getD k 0 * 2 ^ s % 18446744073709551616)).length = L := by rw [List.length_set]; exact hp.out.1
        generalize ps'.set t (ps'.getD t 0 ^^^ ys.getD k 0 * 2 ^ s % 18446744073709551616) = ps2 at R1 H1 hl2
        obtain ⟨d3, d4⟩ := R1.out.cell u (by rw [hl2]; exact uL)
        have X2 := xor_int _ _ (R1.out.wds.get u) l2
        have R2 := Lib.hid (R1.out.set u (ps2.getD u 0 ^^^ ys.getD k 0 / 2 ^ (64 - s)) (word_xor (R1.out.wds.get u) l2))
        have G2 := Lib.hid (grown_set G1.out u (.int .u64 ((ps2.getD u 0 ^^^ ys.getD k 0 / 2 ^ (64 - s) : Nat) : Int)))
        have t2 : IntKind.u64.wrap (((ys.getD k 0 : Nat) : Int) * 2 ^ s) = ((ys.getD k 0 * 2 ^ s % 18446744073709551616 : Nat) : Int) := by rw [mul_int, wrap_nat]
        have t3 : ((ys.getD k 0 : Nat) : Int) / 2 ^ (64 - s) = ((ys.getD k 0 / 2 ^ (64 - s) : Nat) : Int) := div_int _ _
        clear hw l1 P'
        generalize ps2.set u (ps2.getD u 0 ^^^ ys.getD k 0 / 2 ^ (64 - s)) = ps3 at R2 H1
        generalize ys.getD k 0 * 2 ^ s % 18446744073709551616 = l at X1 R1 G1 t2 d3 d4 R2 G2
        generalize ys.getD k 0 / 2 ^ (64 - s) = h at X2 hz l2 R2 G2 t3
        generalize ys.getD k 0 = x at hc hx t2 t3
        generalize ps'.getD t 0 = p at d1 X1 R1 G1 d3 d4 R2 G2
        generalize p ^^^ l = z at X1 R1 G1 d3 d4 R2 G2
        generalize ps2.getD u 0 = p2 at d3 X2 R2 G2
        generalize p2 ^^^ h = z2 at X2 R2 G2
        have z1 : (h != 0) = true := by simpa using hz
        have z2' : ((h : Int) != 0) = true := by simp; omega
        have z3 : (h == 0) = false := by simpa using hz
        have z4 : ((h : Int) == 0) = false := by simp; omega
        have r2 : (t : Int) + 1 = (u : Int) := by omega
        have r6 : (u : Int) < (L : Int) := by omega
        have r7 : (0 : Int) ≤ (u : Int) := by omega
        clear ht hu hz
        go_wp2
        go_region
        go_wp2
        go_roundg (gk - 1)
        case measure => omega
        case rel => exact ⟨k + 1, ps3, by omega, by go_num, H1, Lib.hid R2.out.drew, Lib.hid (grown_drew G2.out)⟩
    · obtain rfl : k = K := by omega
      have kl : ¬ ((k : Int) < (k : Int)) := by omega
      have E := Lib.hid (show leN ps' = Z ^^^ leN ys * 2 ^ n from by
        have := hp.out.2
        rw [← hK.out, List.take_length] at this
        exact this)
      go_wp2
      go_end0
      exact ⟨rfl, ps', hp.out.1, E.out, R'.out, G.out⟩
end Go.Proofs.YtfpbfibnkknhdaaDoor
