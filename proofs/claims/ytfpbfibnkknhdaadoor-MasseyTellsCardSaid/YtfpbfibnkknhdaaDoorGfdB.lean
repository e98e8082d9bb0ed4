/-
  What the call Own of package gfp answers, once more: a list that may be written. What the closure of Div does: two lists are changed.
-/
import Derived.Test.YtfpbfibnkknhdaaDoorGfdA
namespace Go.Proofs.YtfpbfibnkknhdaaDoor
open Go.RowKit G
set_option linter.unusedVariables false

/-- An answer that is a polynomial in its own form, in a list of its own that may be written. -/
def AnsR (N : Nat) (w : World) (e : Ending) (w' : World) : Prop :=
  ∃ (A : Option Addr) (cap : Nat), e = .returned (.slice A (wordsOf N).length cap) ∧ w'.ownsRow w.heap.size 50 1 (.slice A (wordsOf N).length cap) (wordsOf N).length (words (wordsOf N)) ∧ Below w.heap.size w w'
theorem ownsRow_shape {w : World} {base n : Nat} {e : TypeId} {v : Value} {xs : List Value} (h : w.ownsRow base e 1 v n xs) : ∃ A cap, v = .slice A n cap := by
  rcases h.2 with ⟨rfl, rfl⟩ | ⟨g, cap, cur, rfl, _⟩
  · exact ⟨_, _, rfl⟩
  · exact ⟨_, _, rfl⟩
theorem ownsRow_mono {w : World} {base base' n : Nat} {e : TypeId} {v : Value} {xs : List Value} (h : w.ownsRow base e 1 v n xs) (hb : base' ≤ base) : w.ownsRow base' e 1 v n xs := by
  refine ⟨h.1, ?_⟩
  rcases h.2 with h2 | ⟨g, cap, cur, hv, hg, r⟩
  · exact .inl h2
  · exact .inr ⟨g, cap, cur, hv, Nat.le_trans hb hg, r⟩
theorem ownsRow_below {w w' : World} {base n : Nat} {e : TypeId} {v : Value} {xs : List Value} (h : w.ownsRow base e 1 v n xs) (hb : Below w.heap.size w w') : w'.ownsRow base e 1 v n xs := by
  refine ⟨h.1, ?_⟩
  rcases h.2 with h2 | ⟨g, cap, cur, hv, hg, hh, r⟩
  · exact .inl h2
  · exact .inr ⟨g, cap, cur, hv, hg, (hb.block g (Array.getElem?_eq_some_iff.1 hh).1).trans hh, r⟩
theorem gOwnR {A : Option Addr} {L ca : Nat} {xs : List Nat} {w : World} (N : Nat) (P : Pol w A ca xs) (hL : xs.length = L) (hN : leN xs = N) (hl : L ≤ 50000) : Calls Tryd.prog 33 #[.slice A L ca] w (AnsR N w) := by
  subst hL
  obtain ⟨e1, e2⟩ := own_take xs N P.word hN
  have hs := cSize A ca xs N hN w P
  cases A with
  | some a =>
    refine (ownSome a ca xs (wordsOf N) (sz N) xs.length rfl e2 (by omega) (Lib.hid e1) (Lib.hid rfl) w P hs).mono ?_
    rintro e w' ⟨v, rfl, own, hb⟩
    obtain ⟨A, c, rfl⟩ := ownsRow_shape own
    exact ⟨A, c, rfl, own, hb⟩
  | none =>
    have e0 : xs = [] := by
      cases xs with
      | nil => rfl
      | cons x r => obtain ⟨b, o, e, _⟩ := P.cell 0 (by simp); cases e
    subst e0
    obtain rfl : 0 = N := hN
    rw [sz_zero] at hs
    refine (ownNone ca P.cap2 w hs).mono ?_
    rintro e w' ⟨rfl, rfl⟩
    refine ⟨none, 0, by rw [wordsOf_zero]; rfl, ?_, Below.refl _ _⟩
    rw [wordsOf_zero]
    exact World.ownsRow_nil _ _ _ _
/-- A variable that is caught: a block of one cell. -/
def Box (w : World) (b : Nat) (t : TypeId) (v : Value) : Prop := w.heap[b]? = some (.cells #[v] t (0, 0))
theorem Box.cell {w : World} {b : Nat} {t : TypeId} {v : Value} (h : Box w b t v) : w.cell? ⟨b, 0, none⟩ = some v := by
  unfold Box at h; simp [World.cell?, h]
theorem Box.free {w : World} {b : Nat} {t : TypeId} {v : Value} (h : Box w b t v) : w.frozen? ⟨b, 0, none⟩ = false := by
  unfold Box at h; simp [World.frozen?, h]
theorem Box.lt {w : World} {b : Nat} {t : TypeId} {v : Value} (h : Box w b t v) : b < w.heap.size := (Array.getElem?_eq_some_iff.1 h).1
theorem Box.below {w w' : World} {b : Nat} {t : TypeId} {v : Value} (h : Box w b t v) (hb : Below w.heap.size w w') : Box w' b t v := (hb.block b h.lt).trans h
theorem Box.grown {w w' : World} {b g : Nat} {t : TypeId} {v : Value} (h : Box w b t v) (hg : w.grownBy w' (some g)) (hne : b ≠ g) : Box w' b t v := (hg.block b h.lt (by simpa using hne)).trans h
theorem Box.far {w : World} {b : Nat} {t : TypeId} {v : Value} (h : Box w b t v) {p : Addr} (hne : b ≠ p.block) (u : Value) : Box (w.setCell p u) b t v := (Below.heap_setCell w p u b hne).trans h
theorem Box.drew {w : World} {b : Nat} {t : TypeId} {v : Value} (h : Box w b t v) : Box w.drew b t v := h
theorem Row.block {base g cap : Nat} {ps : List Nat} {w : World} (h : Row base g cap ps w) : ∃ cur, w.heap[g]? = some (.cells cur 50 (0, 0)) := by
  rcases h.own.2 with ⟨e, _⟩ | ⟨g', cap', cur, e, _, hh, _⟩
  · cases e
  · simp only [Value.slice.injEq, Option.some.injEq, Addr.mk.injEq, and_true, true_and] at e
    obtain ⟨rfl, rfl⟩ := e
    exact ⟨cur, hh⟩
theorem Row.ne_box {base g cap b : Nat} {ps : List Nat} {w : World} {v : Value} (h : Row base g cap ps w) (hb : Box w b 23 v) : b ≠ g := by
  rintro rfl
  obtain ⟨cur, e⟩ := h.block
  unfold Box at hb
  rw [e] at hb
  simp at hb
/-- The state of a division: the rest so far, the parting one, the quotient so far. -/
structure DivSt (base Rb Yb Qb g cap L h : Nat) (B : Option Addr) (cb K : Nat) (ps qs ys : List Nat) (w : World) : Prop where
  bR : Box w Rb 23 (.slice (some ⟨g, 0, none⟩) L cap)
  bY : Box w Yb 23 (.slice B K cb)
  bQ : Box w Qb 23 (.slice (some ⟨h, 0, none⟩) L L)
  row : Row base g cap ps w
  quo : Row base h L qs w
  by_ : Pol w B cb ys
  lp : ps.length = L
  lq : qs.length = L
  lk : ys.length = K
  ne1 : g ≠ h
  ne2 : ∀ ad, B = some ad → ad.block ≠ g ∧ ad.block ≠ h
theorem DivSt.drew {base Rb Yb Qb g cap L h : Nat} {B : Option Addr} {cb K : Nat} {ps qs ys : List Nat} {w : World} (S : DivSt base Rb Yb Qb g cap L h B cb K ps qs ys w) : DivSt base Rb Yb Qb g cap L h B cb K ps qs ys w.drew :=
  ⟨S.bR, S.bY, S.bQ, S.row.drew, S.quo.drew, ⟨S.by_.word, S.by_.cap1, S.by_.cap2, S.by_.cell⟩, S.lp, S.lq, S.lk, S.ne1, S.ne2⟩
/-- The rest turns. -/
theorem DivSt.rest {base Rb Yb Qb g cap L h : Nat} {B : Option Addr} {cb K : Nat} {ps qs ys ps' : List Nat} {w w' : World} (S : DivSt base Rb Yb Qb g cap L h B cb K ps qs ys w) (R : Row base g cap ps' w') (hl : ps'.length = L) (G : w.grownBy w' (some g)) :
    DivSt base Rb Yb Qb g cap L h B cb K ps' qs ys w' :=
  ⟨S.bR.grown G (S.row.ne_box S.bR), S.bY.grown G (S.row.ne_box S.bY), S.bQ.grown G (S.row.ne_box S.bQ), R, S.quo.kept G (fun e => S.ne1 e.symm), S.by_.grown G (fun ad e => (S.ne2 ad e).1), hl, S.lq, S.lk, S.ne1, S.ne2⟩
/-- The quotient turns. -/
theorem DivSt.part {base Rb Yb Qb g cap L h : Nat} {B : Option Addr} {cb K : Nat} {ps qs ys : List Nat} {w : World} (S : DivSt base Rb Yb Qb g cap L h B cb K ps qs ys w) (k v : Nat) (hv : v < 18446744073709551616) :
    DivSt base Rb Yb Qb g cap L h B cb K ps (qs.set k v) ys (w.setCell ⟨h, k, none⟩ (.int .u64 (v : Int))) := by
  have G := grown_set (grown_refl w (some h)) k (.int .u64 (v : Int))
  exact ⟨S.bR.grown G (S.quo.ne_box S.bR), S.bY.grown G (S.quo.ne_box S.bY), S.bQ.grown G (S.quo.ne_box S.bQ), S.row.kept G S.ne1, S.quo.set k v hv, S.by_.grown G (fun ad e => (S.ne2 ad e).2), S.lp, by rw [List.length_set]; exact S.lq, S.lk, S.ne1, S.ne2⟩
theorem or_xor {x s : Nat} (h : x.testBit s = false) : x ||| 2 ^ s = x ^^^ 2 ^ s := by
  refine Nat.eq_of_testBit_eq (fun i => ?_)
  rw [Nat.testBit_or, Nat.testBit_xor]
  by_cases e : i = s
  · subst e; rw [h]; simp
  · rw [Nat.testBit_two_pow_of_ne (fun k => e k.symm)]; simp
theorem low_xor {N n i : Nat} (h : ∀ i, i ≤ n → N.testBit i = false) (hi : i < n) : (N ^^^ 2 ^ n).testBit i = false := by
  rw [Nat.testBit_xor, h i (by omega), Nat.testBit_two_pow_of_ne (by omega)]; rfl
theorem pow_mul_lt (s : Nat) (hs : s < 64) : 2 ^ s < 18446744073709551616 := by
  rw [show (18446744073709551616 : Nat) = 2 ^ 64 from rfl]; exact Nat.pow_lt_pow_right (by decide) hs

/-- What the closure leaves. -/
def TakeP (base Rb Yb Qb g cap L h : Nat) (B : Option Addr) (cb K : Nat) (ps qs ys : List Nat) (n : Nat) (w : World) (e : Ending) (w' : World) : Prop :=
  e = .returned (.tuple #[]) ∧ ∃ ps' qs', DivSt base Rb Yb Qb g cap L h B cb K ps' qs' ys w' ∧ leN ps' = leN ps ^^^ leN ys * 2 ^ n ∧ leN qs' = leN qs ^^^ 2 ^ n ∧ Below base w w'
set_option maxRecDepth 100000 in
set_option maxHeartbeats 2000000 in
theorem takeWalk (base Rb Yb Qb g cap L h cb K n q s : Nat) (B : Option Addr) (ps qs ys : List Nat) (hn : Hid (n = 64 * q + s)) (hs : s < 64) (bL : L ≤ 100000) (bK : K ≤ 100000) (bn : n ≤ 6400000)
    (c1 : K + q ≤ L) (c2 : Hid (∀ i, i < K → ys.getD i 0 / 2 ^ (64 - s) ≠ 0 → q + i + 1 < L)) (hq : q < L) (low : Hid ((leN qs).testBit n = false)) (w : World) (hbase : base ≤ w.heap.size)
    (S : Hid (DivSt base Rb Yb Qb g cap L h B cb K ps qs ys w)) :
    Calls Tryd.prog 41 #[.int .i64 (n : Int), .pointer (some ⟨Rb, 0, none⟩), .pointer (some ⟨Yb, 0, none⟩), .pointer (some ⟨Qb, 0, none⟩)] w (TakeP base Rb Yb Qb g cap L h B cb K ps qs ys n w) := by
  have q1 : (n : Int) / 64 = (q : Int) := by have := hn.out; omega
  have q2 : (n : Int) % 64 = (s : Int) := by have := hn.out; omega
  have q3 : (q : Int) < (L : Int) := by omega
  have q4 : (0 : Int) ≤ (q : Int) := by omega
  have e1 := S.out.bR.cell
  have e2 := S.out.bY.cell
  have C := Lib.hid (addUpWalk base g cap L K cb n q s (leN ps) B ps ys (Lib.hid S.out.lp) (Lib.hid S.out.lk) hn hs bL bK bn c1 c2 w (Lib.hid S.out.row) (Lib.hid S.out.by_) (Lib.hid fun ad e => (S.out.ne2 ad e).1) (Lib.hid rfl))
  go_enter Tryd.func41, Tryd.ntmps41
  go_wp2_with (go_at_call 42; ((with_reducible refine (C.out).mono ?_); rintro e w1 ⟨ps', rfl, lp, hv, R, G⟩))
  have S1 := Lib.hid (S.out.rest R lp G)
  have HG := Lib.hid G
  have HV := Lib.hid hv
  clear G hv R lp e1 e2 C
  have e3 := S1.out.bQ.cell
  obtain ⟨d1, d2⟩ := S1.out.quo.cell q (by rw [S1.out.lq]; exact hq)
  have hw := S1.out.quo.wds.get q
  have hp := pow_mul_lt s hs
  have ho : (qs.getD q 0).testBit s = false := by
    have := bit_leN qs n S1.out.quo.wds
    rw [low.out, show n / 64 = q from by have := hn.out; omega, show n % 64 = s from by have := hn.out; omega] at this
    exact this.symm
  have X : bits .or .u64 ((qs.getD q 0 : Nat) : Int) ((2 ^ s : Nat) : Int) = ((qs.getD q 0 ^^^ 2 ^ s : Nat) : Int) := by
    rw [← or_xor ho]; exact u64_or_nat _ _ hw hp
  have S2 := Lib.hid (S1.out.part q (qs.getD q 0 ^^^ 2 ^ s) (word_xor hw hp))
  have V2 := Lib.hid (show leN (qs.set q (qs.getD q 0 ^^^ 2 ^ s)) = leN qs ^^^ 2 ^ n from by
    rw [leN_set_xor qs q (2 ^ s) S1.out.quo.wds (by rw [S1.out.lq]; exact hq) hp, ← Nat.pow_add, show s + 64 * q = n from by have := hn.out; omega])
  generalize qs.set q (qs.getD q 0 ^^^ 2 ^ s) = qs' at S2 V2
  clear ho hw
  have gh := S1.out.row.lt
  have hh := S1.out.quo.lt
  have t1 : IntKind.u64.wrap ((2 : Int) ^ s) = ((2 ^ s : Nat) : Int) := by
    rw [show (2 : Int) ^ s = ((2 ^ s : Nat) : Int) from by rw [Int.natCast_pow]; rfl, wrap_nat, Nat.mod_eq_of_lt hp]
  generalize qs.getD q 0 = x at d1 X S2
  generalize hz : x ^^^ 2 ^ s = z at X S2
  clear hz
  generalize hm : (2 ^ s : Nat) = m at X t1 hp
  clear hm
  go_region
  go_wp2
  go_end0
  refine ⟨rfl, ps', qs', S2.out.drew, HV.out, V2.out, ?_⟩
  exact (((Below.refl base w).grown HG.out hbase (fun k e => by obtain rfl : g = k := by simpa using e
                                                                exact gh.1)).setCell hh.1 _).drew
end Go.Proofs.YtfpbfibnkknhdaaDoor
