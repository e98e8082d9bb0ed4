/-
  What the calls Words and Bits of package xosh answer, for all states and numbers.
-/
import Derived.Test.YthohgleklcoglaaXshA
import Derived.Test.YthohgleklcoglaaBrA
import Derived.Deep.OwnRows
import Derived.Deep.DeepCutAuto
import Derived.Deep.RegionWith
namespace Go.Proofs.Ythohgleklcoglaa
open Go.RowKit G
set_option linter.unusedVariables false

/-- What a loop keeps that steps a caught state and fills a new list: the state, the list's cells; what was there is as it was. -/
structure KSt (w : World) (b g n : Nat) (T : TypeId) (s : St) (F : Nat → Value) (wr : World) : Prop where
  bx : Bx 24 wr b s
  row : wr.rowIs g T n F
  below : Below w.heap.size w wr
  hb : w.heap.size ≤ b
  hg : w.heap.size ≤ g
  ne : b ≠ g
theorem KSt.next {w wr w' : World} {b g n : Nat} {T : TypeId} {s s' : St} {F : Nat → Value} (h : KSt w b g n T s F wr) (hx : Bx 24 w' b s') (hb : But1 b wr w') : KSt w b g n T s' F w' :=
  ⟨hx, World.rowIs.of_block h.row (hb.block g (World.rowIs.lt h.row) (Ne.symm h.ne)), h.below.trans (hb.low h.hb h.below.size), h.hb, h.hg, h.ne⟩
theorem KSt.far {w wr w' : World} {b g n : Nat} {T : TypeId} {s : St} {F : Nat → Value} (h : KSt w b g n T s F wr) (hb : Below wr.heap.size wr w') : KSt w b g n T s F w' :=
  ⟨h.bx.below hb, World.rowIs.of_block h.row (hb.block g (World.rowIs.lt h.row)), below_then h.below hb, h.hb, h.hg, h.ne⟩
theorem KSt.set {w wr : World} {b g n : Nat} {T : TypeId} {s : St} {F : Nat → Value} (h : KSt w b g n T s F wr) (i : Nat) (v : Value) {G : Nat → Value} (e : ∀ j, j < n → (if j = i then v else F j) = G j) : KSt w b g n T s G (wr.setCell ⟨g, i, none⟩ v) :=
  ⟨h.bx.far (by show b ≠ g; exact h.ne) v, (World.rowIs.set h.row i v).congr e, h.below.setCell h.hg v, h.hb, h.hg, h.ne⟩
/-- The words so far. -/
def fW (us : List Nat) (i : Nat) : Value := .int .u64 ((us.getD i 0 : Nat) : Int)
def fB (us : List Bool) (i : Nat) : Value := .bool (us.getD i false)
theorem getD_next {α : Type} (us : List α) (x z : α) (i : Nat) : (us ++ [x]).getD i z = if i = us.length then x else us.getD i z := by
  simp only [List.getD_eq_getElem?_getD, List.getElem?_append]
  by_cases h : i < us.length
  · rw [if_pos h, if_neg (by omega)]
  · rw [if_neg h]
    by_cases e : i = us.length
    · subst e; simp
    · rw [if_neg e, List.getElem?_eq_none (by simp; omega), List.getElem?_eq_none (by omega)]
theorem fW_next (us : List Nat) (x k : Nat) (hk : us.length = k) (j : Nat) : (if j = k then .int .u64 (x : Int) else fW us j) = fW (us ++ [x]) j := by
  subst hk
  unfold fW
  rw [getD_next]
  split <;> rfl
theorem fB_next (us : List Bool) (x : Bool) (k : Nat) (hk : us.length = k) (j : Nat) : (if j = k then .bool x else fB us j) = fB (us ++ [x]) j := by
  subst hk
  unfold fB
  rw [getD_next]
  split <;> rfl
theorem KSt.pol {w wr : World} {b g n : Nat} {s : St} {us : List Nat} (h : KSt w b g n 22 s (fW us) wr) (hl : us.length = n) (hw : Wds us) (hn : n ≤ 9223372036854775807) : Pol wr (some ⟨g, 0, none⟩) n us :=
  ⟨hw, by omega, hn, fun i hi => ⟨g, 0, rfl, by rw [Nat.zero_add]; exact World.rowIs.cell h.row (by omega)⟩⟩
theorem KSt.polOff {w wr : World} {b g n x : Nat} {s : St} {us : List Nat} (h : KSt w b g n 22 s (fW us) wr) (hl : us.length = n) (hw : Wds us) (hn : n ≤ 9223372036854775807) (hx : g ≠ x) (u v y z : Value) : Pol ((((wr.setCell ⟨x, 0, none⟩ u).setCell ⟨x, 1, none⟩ v).setCell ⟨x, 2, none⟩ y).setCell ⟨x, 3, none⟩ z) (some ⟨g, 0, none⟩) n us :=
  ⟨hw, by omega, hn, fun i hi => ⟨g, 0, rfl, by rw [Nat.zero_add]; exact World.rowIs.cell (World.rowIs.setOther (World.rowIs.setOther (World.rowIs.setOther (World.rowIs.setOther h.row (a := ⟨x, 0, none⟩) hx u) (a := ⟨x, 1, none⟩) hx v) (a := ⟨x, 2, none⟩) hx y) (a := ⟨x, 3, none⟩) hx z) (by omega)⟩⟩
theorem KSt.brs {w wr : World} {b g n : Nat} {s : St} {us : List Bool} (h : KSt w b g n 4 s (fB us) wr) (hl : us.length = n) (hn : n ≤ 9223372036854775807) : Brs wr (some ⟨g, 0, none⟩) n us :=
  ⟨by omega, hn, fun i hi => ⟨g, 0, rfl, by rw [Nat.zero_add]; exact World.rowIs.cell h.row (by omega)⟩⟩
/-- Once the state is caught and the list is made: in either order. -/
def CutK (w : World) (n : Nat) (T : TypeId) (s : St) (F : Nat → Value) (f v : Value) (wr : World) : Prop :=
  ∃ b g, f = .func (.func 23) #[] #[.pointer (some ⟨b, 0, none⟩)] ∧ v = .slice (some ⟨g, 0, none⟩) n n ∧ KSt w b g n T s F wr
theorem CutK.first {w W x : World} {n bB : Nat} {T : TypeId} {s : St} {F : Nat → Value} (z : Value) (hF : ∀ j, j < n → z = F j) (hB : Below w.heap.size w W) (e : W.heap.size ≤ bB) (B : Bx 24 x bB s) (hb : Below W.heap.size W x) :
    CutK w n T s F (.func (.func 23) #[] #[.pointer (some ⟨bB, 0, none⟩)]) (.slice (some ⟨x.heap.size, 0, none⟩) n n) (x.alloc (.cells (madeCells #[z] n) T)) :=
  ⟨bB, x.heap.size, rfl, rfl, B.alloc _, (World.rowIs_made x z n T).congr hF, below_alloc (below_then hB hb) _, Nat.le_trans hB.size e, (below_then hB hb).size, Nat.ne_of_lt B.lt⟩
theorem below_undrew {B : Nat} {w w' : World} (h : Below B w.drew w') : Below B w w' := ⟨h.os, h.tape, h.output, h.size, h.block⟩
theorem CutK.last {w W x : World} {n : Nat} {T : TypeId} {s : St} {F : Nat → Value} (z : Value) (hF : ∀ j, j < n → z = F j) (hB : Below w.heap.size w W) (B : Bx 24 x (W.alloc (.cells (madeCells #[z] n) T)).heap.size s) (hb : Below (W.alloc (.cells (madeCells #[z] n) T)).heap.size (W.alloc (.cells (madeCells #[z] n) T)) x) :
    CutK w n T s F (.func (.func 23) #[] #[.pointer (some ⟨W.heap.size + 1, 0, none⟩)]) (.slice (some ⟨W.heap.size, 0, none⟩) n n) x := by
  have hs : (W.alloc (.cells (madeCells #[z] n) T)).heap.size = W.heap.size + 1 := Array.size_push _
  have R := (World.rowIs_made W z n T).congr hF
  have L := below_then (below_alloc hB _) hb
  rw [hs] at B hb
  exact ⟨W.heap.size + 1, W.heap.size, rfl, rfl, B, World.rowIs.of_block R (hb.block _ (Nat.lt_succ_self _)), L, by have := hB.size; omega, hB.size, by omega⟩
/-- The answer of Words: a list, the state behind it, and OK. -/
def AnsRS (xs : List Nat) (s : St) (w : World) (e : Ending) (w' : World) : Prop := ∃ (a : Addr) (cap : Nat), e = .returned (.tuple #[.slice (some a) xs.length cap, s.val, .int .i64 0]) ∧ Pol w' (some a) cap xs ∧ Below w.heap.size w w'
/-- No words, and why. -/
def NoS (n : Int) (w : World) (e : Ending) (w' : World) : Prop := e = .returned (.tuple #[.slice none 0 0, St.zero.val, .int .i64 n]) ∧ Below w.heap.size w w'
set_option maxHeartbeats 2000000 in
theorem wordsZero (many : Int) (w : World) : Calls Try.prog 13 #[St.zero.val, .int .i64 many] w (NoS 3 w) := by
  have C : ∀ w, Calls Try.prog 12 #[.agg #[.int .u64 0, .int .u64 0, .int .u64 0, .int .u64 0]] w (fun e w' => e = .returned (.bool false) ∧ Below w.heap.size w w') := fun w => cRight St.zero w
  show Calls _ _ #[.agg #[.int .u64 0, .int .u64 0, .int .u64 0, .int .u64 0], .int .i64 many] w _
  go_enter Try.func13, Try.ntmps13
  go_wp2_with fail
  have B1 := Bx.new w ⟨0, 0, 0, 0⟩ 24
  have L1 := below_alloc (Below.refl w.heap.size w) (.cells #[.int .u64 0, .int .u64 0, .int .u64 0, .int .u64 0] 24)
  have S1 : (w.alloc (.cells #[.int .u64 0, .int .u64 0, .int .u64 0, .int .u64 0] 24)).heap.size = w.heap.size + 1 := Array.size_push _
  change Bx _ (w.alloc (.cells #[.int .u64 0, .int .u64 0, .int .u64 0, .int .u64 0] 24)) _ _ at B1
  generalize w.alloc _ = W1 at B1 L1 S1 ⊢
  have B2 := Bx.new W1 St.zero 24
  rw [S1] at B2
  replace B1 := B1.alloc (.cells #[.int .u64 0, .int .u64 0, .int .u64 0, .int .u64 0] 24)
  replace L1 := below_alloc L1 (.cells #[.int .u64 0, .int .u64 0, .int .u64 0, .int .u64 0] 24)
  change Bx _ (W1.alloc (.cells #[.int .u64 0, .int .u64 0, .int .u64 0, .int .u64 0] 24)) _ _ at B2
  clear S1
  generalize W1.alloc _ = W2 at B1 B2 L1 ⊢
  refine (C _).mono ?_
  rintro e w1 ⟨rfl, hb⟩
  clear C
  replace B1 := B1.below hb
  replace B2 := B2.below hb
  replace L1 := below_then L1 hb
  clear hb
  have hX : w.heap.size ≤ w.heap.size + 1 := by omega
  have R := B2.put St.zero
  have LL := below_put (x := .int .u64 0) (y := .int .u64 0) (z := .int .u64 0) (u := .int .u64 0) L1 hX
  change Bx _ ((((w1.setCell ⟨w.heap.size + 1, 0, none⟩ (.int .u64 0)).setCell ⟨w.heap.size + 1, 1, none⟩ (.int .u64 0)).setCell ⟨w.heap.size + 1, 2, none⟩ (.int .u64 0)).setCell ⟨w.heap.size + 1, 3, none⟩ (.int .u64 0)) _ _ at R
  obtain ⟨z0, z1, z2, z3⟩ := B2.cells
  obtain ⟨y0, y1, y2, y3⟩ := B2.free
  obtain ⟨r0, r1, r2, r3⟩ := R.cells
  simp only [St.zero] at z0 z1 z2 z3 r0 r1 r2 r3
  have HL := Lib.hid (And.intro LL (And.intro r0 (And.intro r1 (And.intro r2 r3))))
  clear LL r0 r1 r2 r3 R B1 B2 L1
  go_wp2
  generalize World.setCell (World.setCell (World.setCell (World.setCell w1 _ _) _ _) _ _) _ _ = V at HL ⊢
  obtain ⟨LL, r0, r1, r2, r3⟩ := HL.out
  clear HL z0 z1 z2 z3
  try simp only [Exit.inBlock, Exit.then]
  refine bodyPost_ret (by simp [results, Try.results13, go_sem, r0, r1, r2, r3]; try rfl) rfl ?_
  exact ⟨rfl, LL⟩
set_option maxHeartbeats 2000000 in
theorem wordsArg (s : St) (many : Int) (h0 : s ≠ St.zero) (h : many < 0 ∨ 256 < many) (w : World) : Calls Try.prog 13 #[s.val, .int .i64 many] w (NoS 1 w) := by
  have C : ∀ w, Calls Try.prog 12 #[s.val] w (fun e w' => e = .returned (.bool true) ∧ Below w.heap.size w w') := fun w => by
    have := cRight s w
    rwa [decide_eq_false h0] at this
  clear h0
  obtain ⟨a, b, c, d⟩ := s

  go_enter Try.func13, Try.ntmps13
  go_wp2_with fail
  have B1 := Bx.new w ⟨a, b, c, d⟩ 24
  have L1 := below_alloc (Below.refl w.heap.size w) (.cells #[.int .u64 (a : Int), .int .u64 (b : Int), .int .u64 (c : Int), .int .u64 (d : Int)] 24)
  have S1 : (w.alloc (.cells #[.int .u64 (a : Int), .int .u64 (b : Int), .int .u64 (c : Int), .int .u64 (d : Int)] 24)).heap.size = w.heap.size + 1 := Array.size_push _
  change Bx _ (w.alloc (.cells #[.int .u64 (a : Int), .int .u64 (b : Int), .int .u64 (c : Int), .int .u64 (d : Int)] 24)) _ _ at B1
  generalize w.alloc _ = W1 at B1 L1 S1 ⊢
  have B2 := Bx.new W1 St.zero 24
  rw [S1] at B2
  replace B1 := B1.alloc (.cells #[.int .u64 0, .int .u64 0, .int .u64 0, .int .u64 0] 24)
  replace L1 := below_alloc L1 (.cells #[.int .u64 0, .int .u64 0, .int .u64 0, .int .u64 0] 24)
  change Bx _ (W1.alloc (.cells #[.int .u64 0, .int .u64 0, .int .u64 0, .int .u64 0] 24)) _ _ at B2
  clear S1
  generalize W1.alloc _ = W2 at B1 B2 L1 ⊢
  refine (C _).mono ?_
  rintro e w1 ⟨rfl, hb⟩
  clear C
  replace B1 := B1.below hb
  replace B2 := B2.below hb
  replace L1 := below_then L1 hb
  clear hb
  have hX : w.heap.size ≤ w.heap.size + 1 := by omega
  by_cases hneg : many < 0
  · clear h
    have R := B2.put St.zero
    have LL := below_put (x := .int .u64 0) (y := .int .u64 0) (z := .int .u64 0) (u := .int .u64 0) L1 hX
    change Bx _ ((((w1.setCell ⟨w.heap.size + 1, 0, none⟩ (.int .u64 0)).setCell ⟨w.heap.size + 1, 1, none⟩ (.int .u64 0)).setCell ⟨w.heap.size + 1, 2, none⟩ (.int .u64 0)).setCell ⟨w.heap.size + 1, 3, none⟩ (.int .u64 0)) _ _ at R
    obtain ⟨z0, z1, z2, z3⟩ := B2.cells
    obtain ⟨y0, y1, y2, y3⟩ := B2.free
    obtain ⟨r0, r1, r2, r3⟩ := R.cells
    simp only [St.zero] at z0 z1 z2 z3 r0 r1 r2 r3
    have HL := Lib.hid (And.intro LL (And.intro r0 (And.intro r1 (And.intro r2 r3))))
    clear LL r0 r1 r2 r3 R B1 B2 L1
    go_wp2
    generalize World.setCell (World.setCell (World.setCell (World.setCell w1 _ _) _ _) _ _) _ _ = V at HL ⊢
    obtain ⟨LL, r0, r1, r2, r3⟩ := HL.out
    clear HL z0 z1 z2 z3
    try simp only [Exit.inBlock, Exit.then]
    refine bodyPost_ret (by simp [results, Try.results13, go_sem, r0, r1, r2, r3]; try rfl) rfl ?_
    exact ⟨rfl, LL⟩
  · have h1 : many > 256 := by omega
    clear h
    have R := B2.put St.zero
    have LL := below_put (x := .int .u64 0) (y := .int .u64 0) (z := .int .u64 0) (u := .int .u64 0) L1 hX
    change Bx _ ((((w1.setCell ⟨w.heap.size + 1, 0, none⟩ (.int .u64 0)).setCell ⟨w.heap.size + 1, 1, none⟩ (.int .u64 0)).setCell ⟨w.heap.size + 1, 2, none⟩ (.int .u64 0)).setCell ⟨w.heap.size + 1, 3, none⟩ (.int .u64 0)) _ _ at R
    obtain ⟨z0, z1, z2, z3⟩ := B2.cells
    obtain ⟨y0, y1, y2, y3⟩ := B2.free
    obtain ⟨r0, r1, r2, r3⟩ := R.cells
    simp only [St.zero] at z0 z1 z2 z3 r0 r1 r2 r3
    have HL := Lib.hid (And.intro LL (And.intro r0 (And.intro r1 (And.intro r2 r3))))
    clear LL r0 r1 r2 r3 R B1 B2 L1
    go_wp2
    generalize World.setCell (World.setCell (World.setCell (World.setCell w1 _ _) _ _) _ _) _ _ = V at HL ⊢
    obtain ⟨LL, r0, r1, r2, r3⟩ := HL.out
    clear HL z0 z1 z2 z3
    try simp only [Exit.inBlock, Exit.then]
    refine bodyPost_ret (by simp [results, Try.results13, go_sem, r0, r1, r2, r3]; try rfl) rfl ?_
    exact ⟨rfl, LL⟩
set_option maxHeartbeats 4000000 in
theorem wordsYesW (q : St) (a b c d n : Nat) (hq : Hid (q = ⟨a, b, c, d⟩)) (hs : q.Ok) (h0 : q ≠ St.zero) (hn : n ≤ 256) (w : World) : Calls Try.prog 13 #[.agg #[.int .u64 (a : Int), .int .u64 (b : Int), .int .u64 (c : Int), .int .u64 (d : Int)], .int .i64 n] w (AnsRS (rowS q n) (iterS q n) w) := by
  have C : ∀ w, Calls Try.prog 12 #[.agg #[.int .u64 (a : Int), .int .u64 (b : Int), .int .u64 (c : Int), .int .u64 (d : Int)]] w (fun e w' => e = .returned (.bool true) ∧ Below w.heap.size w w') := fun w => by
    have := cRight ⟨a, b, c, d⟩ w
    rwa [decide_eq_false (by rw [← hq.out]; exact h0)] at this
  have CF : Hid (∀ w, Calls Try.prog 21 #[.agg #[.int .u64 (a : Int), .int .u64 (b : Int), .int .u64 (c : Int), .int .u64 (d : Int)]] w (fun e w' => e = .returned (.func (.func 23) #[] #[.pointer (some ⟨w.heap.size, 0, none⟩)]) ∧ Bx 24 w' w.heap.size q ∧ Below w.heap.size w w')) := Lib.hid (fun w => by rw [hq.out]; exact cFrom ⟨a, b, c, d⟩ w)
  have HN := Lib.hid (fun k => cNext (iterS q k) (hs.iter k))
  have HW := Lib.hid (fun k => cWord (iterS q k) (hs.iter k))
  have hmk := run_make_row' (P := Try.prog) 31 22 (.int .u64 0) 8 Try.underlying31 infoW rfl .i64 .i64 n (by omega) (by omega)
  have n0 : ¬ (n : Int) < 0 := by omega
  have n1 : ¬ (n : Int) > 256 := by omega
  clear h0 hs hq
  go_enter Try.func13, Try.ntmps13
  go_wp2_with fail
  have B1 := Bx.new w ⟨a, b, c, d⟩ 24
  have L1 := below_alloc (Below.refl w.heap.size w) (.cells #[.int .u64 (a : Int), .int .u64 (b : Int), .int .u64 (c : Int), .int .u64 (d : Int)] 24)
  have S1 : (w.alloc (.cells #[.int .u64 (a : Int), .int .u64 (b : Int), .int .u64 (c : Int), .int .u64 (d : Int)] 24)).heap.size = w.heap.size + 1 := Array.size_push _
  change Bx _ (w.alloc (.cells #[.int .u64 (a : Int), .int .u64 (b : Int), .int .u64 (c : Int), .int .u64 (d : Int)] 24)) _ _ at B1
  generalize w.alloc _ = W1 at B1 L1 S1 ⊢
  have B2 := Bx.new W1 St.zero 24
  rw [S1] at B2
  replace B1 := B1.alloc (.cells #[.int .u64 0, .int .u64 0, .int .u64 0, .int .u64 0] 24)
  replace L1 := below_alloc L1 (.cells #[.int .u64 0, .int .u64 0, .int .u64 0, .int .u64 0] 24)
  change Bx _ (W1.alloc (.cells #[.int .u64 0, .int .u64 0, .int .u64 0, .int .u64 0] 24)) _ _ at B2
  clear S1
  generalize W1.alloc _ = W2 at B1 B2 L1 ⊢
  refine (C _).mono ?_
  rintro e w1 ⟨rfl, hb⟩
  clear C
  replace B1 := B1.below hb
  replace B2 := B2.below hb
  replace L1 := below_then L1 hb
  clear hb
  have hX : w.heap.size ≤ w.heap.size + 1 := by omega
  obtain ⟨p0, p1, p2, p3⟩ := B1.cells
  have lt := B1.lt
  have HB := Lib.hid (And.intro B2 L1)
  clear B1 B2 L1
  go_wp2_with fail
  go_cut [7, 8] (CutK w1 n 22 q (fW []))
  case first =>
    go_region_with (go_at_call 21; (with_reducible refine (CF.out _).mono ?_); rintro e x1 ⟨rfl, BX, hb⟩; have HX := Lib.hid (And.intro BX hb); clear BX hb)
    all_goals
      go_wp2_with fail
      go_meet
      first
        | exact CutK.first (W := w1.drew) (.int .u64 0) (fun _ _ => rfl) (Below.refl _ _).drew (Nat.le_refl _) HX.out.1 HX.out.2
        | exact CutK.last (W := w1) (.int .u64 0) (fun _ _ => rfl) (Below.refl _ _) HX.out.1 (below_undrew HX.out.2)
  obtain ⟨bB, g, rfl, rfl, K⟩ := hcut
  have HK := Lib.hid K
  clear K p0 p1 p2 p3 lt
  go_wp2_with fail
  go_loopg [27] n (fun g' i wr => ∃ k : Nat, k + g' = n ∧ i = .int .i64 k ∧ Hid (KSt w1 bB g n 22 (iterS q k) (fW (rowS q k)) wr))
  case atStart => exact ⟨0, by omega, rfl, HK⟩
  case round =>
    obtain ⟨k, hk, rfl, K⟩ := hrel
    clear HK
    by_cases hlt : k < n
    · have kl : (k : Int) < (n : Int) := by omega
      have k0 : (0 : Int) ≤ (k : Int) := by omega
      have C1 := Lib.hid (HN.out k bB wr K.out.bx)
      have C2 := Lib.hid (HW.out k)
      have hl := rowS_len q k
      have E1 := Lib.hid (show rowS q (k + 1) = rowS q k ++ [wordS (iterS q k)] from rfl)
      have E2 := Lib.hid (show iterS q (k + 1) = stepS (iterS q k) from rfl)
      generalize iterS q k = S at C1 C2 E1 E2 K
      generalize rowS q k = us at K hl E1
      generalize wordS S = X at C2 E1
      generalize stepS S = S' at C1 E2
      go_wp2_with fail
      refine (C1.out).mono ?_
      rintro e w2 ⟨rfl, bx2, hb2⟩
      have K2 := Lib.hid (K.out.next bx2 hb2)
      clear bx2 hb2 C1 K
      go_wp2_with fail
      refine (C2.out _).mono ?_
      rintro e w3 ⟨rfl, hb3⟩
      have K3 := Lib.hid (K2.out.far hb3)
      clear hb3 C2 K2
      have c1 := World.rowIs.cell K3.out.row hlt
      have c2 := World.rowIs.frozen K3.out.row k
      have K4 := Lib.hid (K3.out.set k (.int .u64 (X : Int)) (fun j _ => fW_next us X k hl j))
      clear K3
      generalize fW us k = old at c1
      go_wp2_with fail
      go_roundg (gk - 1)
      case measure => omega
      case rel => exact ⟨k + 1, by omega, by go_num, by rw [E1.out, E2.out]; exact K4⟩
    · obtain rfl : k = n := by omega
      have kl : ¬ (k : Int) < (k : Int) := by omega
      have C1 := Lib.hid (HN.out k bB wr K.out.bx)
      have hl := rowS_len q k
      have hw := Lib.hid (rowS_wds q k)
      generalize hS : iterS q k = S at C1 K
      generalize hU : rowS q k = us at K hl hw
      have HS := Lib.hid (And.intro hS hU)
      clear hS hU
      obtain ⟨i0, i1, i2, i3⟩ := S
      go_wp2_with fail
      refine (C1.out).mono ?_
      rintro e w2 ⟨rfl, bx2, hb2⟩
      have K2 := Lib.hid (K.out.next bx2 hb2)
      clear bx2 hb2 C1 K
      have B2 := HB.out.1.below K2.out.below
      have L1 := below_then HB.out.2 K2.out.below
      have R := B2.put ⟨i0, i1, i2, i3⟩
      have LL := below_put (x := .int .u64 (i0 : Int)) (y := .int .u64 (i1 : Int)) (z := .int .u64 (i2 : Int)) (u := .int .u64 (i3 : Int)) L1 hX
      have P := K2.out.polOff hl hw.out (by omega) (x := w.heap.size + 1) (by have := HB.out.1.lt; have := K2.out.hg; omega) (.int .u64 (i0 : Int)) (.int .u64 (i1 : Int)) (.int .u64 (i2 : Int)) (.int .u64 (i3 : Int))
      obtain ⟨z0, z1, z2, z3⟩ := B2.cells
      obtain ⟨y0, y1, y2, y3⟩ := B2.free
      obtain ⟨r0, r1, r2, r3⟩ := R.cells
      simp only [St.zero] at z0 z1 z2 z3 r0 r1 r2 r3
      have HL := Lib.hid (And.intro LL (And.intro P (And.intro r0 (And.intro r1 (And.intro r2 r3)))))
      clear LL P r0 r1 r2 r3 R B2 L1 K2
      generalize w.heap.size + 1 = Z at hX z0 z1 z2 z3 y0 y1 y2 y3 HL ⊢
      go_wp2
      generalize World.setCell (World.setCell (World.setCell (World.setCell w2 _ _) _ _) _ _) _ _ = V at HL ⊢
      obtain ⟨LL, P, r0, r1, r2, r3⟩ := HL.out
      clear HL z0 z1 z2 z3
      try simp only [Exit.inBlock, Exit.then]
      refine bodyPost_ret (by simp [results, Try.results13, go_sem, r0, r1, r2, r3]; try rfl) rfl ?_
      refine ⟨⟨g, 0, none⟩, k, ?_, ?_, LL⟩
      · rw [HS.out.1, HS.out.2, hl]
      · rw [HS.out.2]; exact P
theorem wordsYes (s : St) (hs : s.Ok) (n : Nat) (h0 : s ≠ St.zero) (hn : n ≤ 256) (w : World) : Calls Try.prog 13 #[s.val, .int .i64 n] w (AnsRS (rowS s n) (iterS s n) w) := by
  obtain ⟨a, b, c, d⟩ := s
  exact wordsYesW ⟨a, b, c, d⟩ a b c d n (Lib.hid rfl) hs h0 hn w
end Go.Proofs.Ythohgleklcoglaa
