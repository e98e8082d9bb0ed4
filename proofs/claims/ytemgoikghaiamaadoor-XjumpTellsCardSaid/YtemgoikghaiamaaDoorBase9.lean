/-
  Part 9 of what the statements of this seat stand on: XxjW XxjX.
-/
import Derived.Test.YtemgoikghaiamaaDoorBase7
import Derived.Test.YtemgoikghaiamaaDoorBase6
/-
  awake of layer 8's statements answers true, from what xjump's calls answer. Made by wip/gen/xjumpawake.py.
-/
namespace Go.Proofs.YtemgoikghaiamaaDoor
open Go.RowKit G
set_option linter.unusedVariables false
set_option maxRecDepth 100000

/-- Four words in memory. -/
structure D4 (w : World) (b : Nat) (p q r s : Int) : Prop where
  c0 : w.cell? ⟨b, 0, none⟩ = some (.int .u64 p)
  c1 : w.cell? ⟨b, 1, none⟩ = some (.int .u64 q)
  c2 : w.cell? ⟨b, 2, none⟩ = some (.int .u64 r)
  c3 : w.cell? ⟨b, 3, none⟩ = some (.int .u64 s)
theorem D4.below {w w' : World} {b : Nat} {p q r s : Int} (h : D4 w b p q r s) (hb : Below w.heap.size w w') : D4 w' b p q r s :=
  ⟨(hb.cell (p := ⟨b, 0, none⟩) (World.block_lt_of_cell? w _ h.c0)).trans h.c0, (hb.cell (p := ⟨b, 1, none⟩) (World.block_lt_of_cell? w _ h.c1)).trans h.c1, (hb.cell (p := ⟨b, 2, none⟩) (World.block_lt_of_cell? w _ h.c2)).trans h.c2, (hb.cell (p := ⟨b, 3, none⟩) (World.block_lt_of_cell? w _ h.c3)).trans h.c3⟩
theorem D4.lt {w : World} {b : Nat} {p q r s : Int} (h : D4 w b p q r s) : b < w.heap.size := World.block_lt_of_cell? w _ h.c0
theorem D4.of {t : TypeId} {w : World} {b : Nat} {s : St} (h : Bx t w b s) : D4 w b s.a s.b s.c s.d := ⟨h.cells.1, h.cells.2.1, h.cells.2.2.1, h.cells.2.2.2⟩
theorem D4.new (w : World) (p q r s : Int) (t : TypeId) : D4 (w.alloc (.cells #[.int .u64 p, .int .u64 q, .int .u64 r, .int .u64 s] t)) w.heap.size p q r s := by
  have e := heap_alloc_last w (.cells #[.int .u64 p, .int .u64 q, .int .u64 r, .int .u64 s] t)
  constructor <;> (simp only [World.cell?, e]; rfl)
theorem CutJ.ofL {W0 x x' : World} (Y : St) {k : Int} (hb : Below W0.heap.size W0 x) (e : x' = x.alloc (.cells #[.int .u64 (Y.a : Int), .int .u64 (Y.b : Int), .int .u64 (Y.c : Int), .int .u64 (Y.d : Int)] 24)) : CutJ W0 Y k (.pointer (some ⟨x.heap.size, 0, none⟩)) (.int .i64 k) x' := by
  subst e; exact CutJ.of hb
theorem CutJ.earlyL {W0 x x' : World} (Y : St) {k : Int} {p : Nat} (hb : Below W0.heap.size W0 x) (hp : W0.heap.size ≤ p) (z : Bx 24 x p St.zero) (e : x' = (((x.setCell ⟨p, 0, none⟩ (.int .u64 (Y.a : Int))).setCell ⟨p, 1, none⟩ (.int .u64 (Y.b : Int))).setCell ⟨p, 2, none⟩ (.int .u64 (Y.c : Int))).setCell ⟨p, 3, none⟩ (.int .u64 (Y.d : Int))) : CutJ W0 Y k (.pointer (some ⟨p, 0, none⟩)) (.int .i64 k) x' := by
  subst e; exact CutJ.early hb hp z
theorem s4k : (⟨1, 2, 3, 4⟩ : St).Ok := ⟨by decide, by decide, by decide, by decide⟩
theorem i1k : iterS ⟨1, 2, 3, 4⟩ 1 = ⟨7, 0, 262146, 211106232532992⟩ := by decide +kernel
theorem i2k : iterS ⟨1, 2, 3, 4⟩ (2 ^ 1) = ⟨211106232532999, 262149, 262149, 402653184⟩ := by decide +kernel
theorem p3k : polS 3 ⟨1, 2, 3, 4⟩ = ⟨6, 2, 262145, 211106232532996⟩ := by decide +kernel
theorem p0k : polS 0 ⟨1, 2, 3, 4⟩ = St.zero := by decide +kernel
theorem aAk : (⟨7, 0, 262146, 211106232532992⟩ : St).Ok := ⟨by decide, by decide, by decide, by decide⟩
theorem sAk : stepS ⟨7, 0, 262146, 211106232532992⟩ = ⟨211106232532999, 262149, 262149, 402653184⟩ := by decide +kernel
theorem dAk : addS ⟨1, 2, 3, 4⟩ ⟨7, 0, 262146, 211106232532992⟩ = ⟨6, 2, 262145, 211106232532996⟩ := by decide +kernel
theorem pr200 : pr 2 200 rP = 2 ^ 200 := by decide +kernel
set_option maxHeartbeats 8000000 in
theorem awake8 (X : JX) (w : World) (TB : Tab w) : Calls Tryd.prog 8 #[] w (Bl true w) := by
  have hB : Below w.heap.size w w := Below.refl _ _
  have HT := Lib.hid TB
  clear TB
  have O1 : Hid (∀ W, Calls Tryd.prog 17 #[.int .u64 1] W (fun e w' => e = .returned (.agg #[.int .u64 0, .int .u64 1]) ∧ Below W.heap.size W w')) := Lib.hid (fun W => cOf 1 1 rfl (by decide) W)
  have O0 : Hid (∀ W, Calls Tryd.prog 17 #[.int .u64 0] W (fun e w' => e = .returned (.agg #[.int .u64 0, .int .u64 0]) ∧ Below W.heap.size W w')) := Lib.hid (fun W => cOf 0 0 rfl (by decide) W)
  have O200 : Hid (∀ W, Calls Tryd.prog 17 #[.int .u64 200] W (fun e w' => e = .returned (.agg #[.int .u64 0, .int .u64 200]) ∧ Below W.heap.size W w')) := Lib.hid (fun W => cOf 200 200 rfl (by decide) W)
  have J1 : Hid (∀ W, Tab W → Calls Tryd.prog 9 #[.agg #[.int .u64 1, .int .u64 2, .int .u64 3, .int .u64 4], .agg #[.int .u64 0, .int .u64 1]] W (fun e w' => e = .returned (.tuple #[.agg #[.int .u64 7, .int .u64 0, .int .u64 262146, .int .u64 211106232532992], .int .i64 0]) ∧ Below W.heap.size W w')) := Lib.hid (fun W TW => by
    have := X.jumpY ⟨1, 2, 3, 4⟩ 0 1 1 W s4k (by decide) (sw (by decide)) TW
    rw [i1k] at this
    exact this)
  have J0 : Hid (∀ W, Tab W → Calls Tryd.prog 9 #[.agg #[.int .u64 1, .int .u64 2, .int .u64 3, .int .u64 4], .agg #[.int .u64 0, .int .u64 0]] W (fun e w' => e = .returned (.tuple #[.agg #[.int .u64 1, .int .u64 2, .int .u64 3, .int .u64 4], .int .i64 0]) ∧ Below W.heap.size W w')) := Lib.hid (fun W TW => by
    have := X.jumpY ⟨1, 2, 3, 4⟩ 0 0 0 W s4k (by decide) (sw (by decide)) TW
    exact this)
  have JZ : Hid (∀ W, Tab W → Calls Tryd.prog 9 #[.agg #[.int .u64 0, .int .u64 0, .int .u64 0, .int .u64 0], .agg #[.int .u64 0, .int .u64 1]] W (fun e w' => e = .returned (.tuple #[.agg #[.int .u64 0, .int .u64 0, .int .u64 0, .int .u64 0], .int .i64 3]) ∧ Below W.heap.size W w')) := Lib.hid (fun W TW => by
    have := X.jumpZ 0 1 1 W (sw (by decide)) TW
    exact this)
  have P1 : Hid (∀ W, Tab W → Calls Tryd.prog 10 #[.agg #[.int .u64 1, .int .u64 2, .int .u64 3, .int .u64 4], .int .i64 1] W (fun e w' => e = .returned (.tuple #[.agg #[.int .u64 211106232532999, .int .u64 262149, .int .u64 262149, .int .u64 402653184], .int .i64 0]) ∧ Below W.heap.size W w')) := Lib.hid (fun W TW => by
    have := X.powY ⟨1, 2, 3, 4⟩ 1 W s4k (by decide) (by decide) TW
    rw [i2k] at this
    exact this)
  have PN : Hid (∀ W, Tab W → Calls Tryd.prog 10 #[.agg #[.int .u64 1, .int .u64 2, .int .u64 3, .int .u64 4], .int .i64 (-1)] W (fun e w' => e = .returned (.tuple #[.agg #[.int .u64 0, .int .u64 0, .int .u64 0, .int .u64 0], .int .i64 1]) ∧ Below W.heap.size W w')) := Lib.hid (fun W TW => by
    have := X.powA ⟨1, 2, 3, 4⟩ (-1) W s4k (by decide) (by decide) TW
    exact this)
  have PZ : Hid (∀ W, Tab W → Calls Tryd.prog 10 #[.agg #[.int .u64 0, .int .u64 0, .int .u64 0, .int .u64 0], .int .i64 (-1)] W (fun e w' => e = .returned (.tuple #[.agg #[.int .u64 0, .int .u64 0, .int .u64 0, .int .u64 0], .int .i64 3]) ∧ Below W.heap.size W w')) := Lib.hid (fun W TW => by
    have := X.powZ (-1) W TW
    exact this)
  go_enter Tryd.func8, Tryd.ntmps8
  go_wp2_with fail
  have US := D4.new w 1 2 3 4 24
  replace hB := below_alloc hB (.cells #[.int .u64 1, .int .u64 2, .int .u64 3, .int .u64 4] 24)
  generalize w.alloc _ = V0 at US hB ⊢
  generalize w.heap.size = cS at US ⊢
  have TWa := Lib.hid (HT.out.below hB)
  have HUa := Lib.hid US
  have HBa := Lib.hid hB
  obtain ⟨x1, x2, x3, x4⟩ := US
  go_cut [2, 3] (CutJ V0 ⟨7, 0, 262146, 211106232532992⟩ 0)
  case first =>
    have hX : Below V0.heap.size V0 V0 := Below.refl _ _
    have su := HUa.out.lt
    go_region_with (first
      | (go_at_call 17; (with_reducible refine (O1.out _).mono ?_); rintro e v1 ⟨rfl, hb⟩; (first | (have z : Bx 24 v1 V0.heap.size St.zero := early_of (w := World.drew V0) hb; have zl := Lib.hid (Nat.le_refl V0.heap.size)) | skip); replace hX := (show Below V0.heap.size V0 v1 from below_then (by first | exact hX | exact hX.drew | exact hX.alloc hX.size _ | exact hX.drew.alloc hX.drew.size _ | exact (hX.alloc hX.size _).drew | exact (hX.drew.alloc hX.drew.size _).drew | exact hX.drew.drew) hb); clear hb; clear x1 x2 x3 x4; obtain ⟨x1, x2, x3, x4⟩ := HUa.out.below hX; have su := (HUa.out.below hX).lt)
      | (go_at_call 9; (with_reducible refine (J1.out _ (TWa.out.below (by first | exact hX | exact hX.drew | exact hX.alloc hX.size _ | exact hX.drew.alloc hX.drew.size _ | exact (hX.alloc hX.size _).drew | exact (hX.drew.alloc hX.drew.size _).drew | exact hX.drew.drew))).mono ?_); rintro e v2 ⟨rfl, hb⟩; (first | (replace z := Bx.below z hb) | (have z : Bx 24 v2 v1.heap.size St.zero := early_of hb; have zl := Lib.hid hX.size) | skip); replace hX := (show Below V0.heap.size V0 v2 from below_then (by first | exact hX | exact hX.drew | exact hX.alloc hX.size _ | exact hX.drew.alloc hX.drew.size _ | exact (hX.alloc hX.size _).drew | exact (hX.drew.alloc hX.drew.size _).drew | exact hX.drew.drew) hb); clear hb; (first | (obtain ⟨e0, e1, e2, e3⟩ := z.cells; obtain ⟨f0, f1, f2, f3⟩ := z.free; simp only [St.zero] at e0 e1 e2 e3) | skip)))
    all_goals
      go_wp2_with fail
      go_meet
      first
        | exact CutJ.earlyL ⟨7, 0, 262146, 211106232532992⟩ hX zl.out z rfl
        | exact CutJ.ofL ⟨7, 0, 262146, 211106232532992⟩ hX rfl
  obtain ⟨ca, rfl, rfl, Ba, hb⟩ := hcut
  have US := HUa.out.below hb
  replace hB := below_then HBa.out hb
  have Da := D4.of Ba
  clear hb Ba HUa HBa TWa x1 x2 x3 x4
  go_wp2_with fail
  have TWb := Lib.hid (HT.out.below hB)
  have HUb := Lib.hid US
  have HBb := Lib.hid hB
  obtain ⟨x1, x2, x3, x4⟩ := US
  go_cut [4, 5] (CutJ wc ⟨1, 2, 3, 4⟩ 0)
  case first =>
    have hX : Below wc.heap.size wc wc := Below.refl _ _
    have su := HUb.out.lt
    go_region_with (first
      | (go_at_call 17; (with_reducible refine (O0.out _).mono ?_); rintro e v1 ⟨rfl, hb⟩; (first | (have z : Bx 24 v1 wc.heap.size St.zero := early_of (w := World.drew wc) hb; have zl := Lib.hid (Nat.le_refl wc.heap.size)) | skip); replace hX := (show Below wc.heap.size wc v1 from below_then (by first | exact hX | exact hX.drew | exact hX.alloc hX.size _ | exact hX.drew.alloc hX.drew.size _ | exact (hX.alloc hX.size _).drew | exact (hX.drew.alloc hX.drew.size _).drew | exact hX.drew.drew) hb); clear hb; clear x1 x2 x3 x4; obtain ⟨x1, x2, x3, x4⟩ := HUb.out.below hX; have su := (HUb.out.below hX).lt)
      | (go_at_call 9; (with_reducible refine (J0.out _ (TWb.out.below (by first | exact hX | exact hX.drew | exact hX.alloc hX.size _ | exact hX.drew.alloc hX.drew.size _ | exact (hX.alloc hX.size _).drew | exact (hX.drew.alloc hX.drew.size _).drew | exact hX.drew.drew))).mono ?_); rintro e v2 ⟨rfl, hb⟩; (first | (replace z := Bx.below z hb) | (have z : Bx 24 v2 v1.heap.size St.zero := early_of hb; have zl := Lib.hid hX.size) | skip); replace hX := (show Below wc.heap.size wc v2 from below_then (by first | exact hX | exact hX.drew | exact hX.alloc hX.size _ | exact hX.drew.alloc hX.drew.size _ | exact (hX.alloc hX.size _).drew | exact (hX.drew.alloc hX.drew.size _).drew | exact hX.drew.drew) hb); clear hb; (first | (obtain ⟨e0, e1, e2, e3⟩ := z.cells; obtain ⟨f0, f1, f2, f3⟩ := z.free; simp only [St.zero] at e0 e1 e2 e3) | skip)))
    all_goals
      go_wp2_with fail
      go_meet
      first
        | exact CutJ.earlyL ⟨1, 2, 3, 4⟩ hX zl.out z rfl
        | exact CutJ.ofL ⟨1, 2, 3, 4⟩ hX rfl
  obtain ⟨cb, rfl, rfl, Bb, hb⟩ := hcut
  have US := HUb.out.below hb
  replace hB := below_then HBb.out hb
  have Db := D4.of Bb
  replace Da := Da.below hb
  clear hb Bb HUb HBb TWb x1 x2 x3 x4
  go_wp2_with fail
  refine (O1.out _).mono ?_
  rintro e e1 ⟨rfl, hb⟩
  replace US := US.below hb
  replace Da := Da.below hb
  replace Db := Db.below hb
  replace hB := below_then hB hb
  clear hb
  go_wp2_with fail
  refine (JZ.out _ (HT.out.below hB)).mono ?_
  rintro e e2 ⟨rfl, hb⟩
  replace US := US.below hb
  replace Da := Da.below hb
  replace Db := Db.below hb
  replace hB := below_then hB hb
  clear hb
  go_upto_region 5 with fail
  have LB : Below e2.heap.size e2 (e2.alloc (.cells #[.int .u64 0, .int .u64 0, .int .u64 0, .int .u64 0] 24)) := below_alloc (Below.refl _ _) _
  replace US := US.below LB
  replace Da := Da.below LB
  replace Db := Db.below LB
  replace hB := below_then hB LB
  clear LB
  generalize e2.alloc _ = e3 at US Da Db hB ⊢
  obtain ⟨x1, x2, x3, x4⟩ := id US
  go_wp2_with fail
  clear x1 x2 x3 x4
  refine (P1.out _ (HT.out.below hB)).mono ?_
  rintro e e4 ⟨rfl, hb⟩
  replace US := US.below hb
  replace Da := Da.below hb
  replace Db := Db.below hb
  replace hB := below_then hB hb
  clear hb
  go_upto_region 6 with fail
  have Dc := D4.new e4 211106232532999 262149 262149 402653184 24
  have LB : Below e4.heap.size e4 (e4.alloc (.cells #[.int .u64 211106232532999, .int .u64 262149, .int .u64 262149, .int .u64 402653184] 24)) := below_alloc (Below.refl _ _) _
  replace US := US.below LB
  replace Da := Da.below LB
  replace Db := Db.below LB
  replace hB := below_then hB LB
  clear LB
  generalize e4.alloc _ = e5 at US Da Db Dc hB ⊢
  obtain ⟨x1, x2, x3, x4⟩ := id US
  go_wp2_with fail
  clear x1 x2 x3 x4
  refine (PN.out _ (HT.out.below hB)).mono ?_
  rintro e e6 ⟨rfl, hb⟩
  replace US := US.below hb
  replace Da := Da.below hb
  replace Db := Db.below hb
  replace Dc := Dc.below hb
  replace hB := below_then hB hb
  clear hb
  go_upto_region 7 with fail
  have LB : Below e6.heap.size e6 (e6.alloc (.cells #[.int .u64 0, .int .u64 0, .int .u64 0, .int .u64 0] 24)) := below_alloc (Below.refl _ _) _
  replace US := US.below LB
  replace Da := Da.below LB
  replace Db := Db.below LB
  replace Dc := Dc.below LB
  replace hB := below_then hB LB
  clear LB
  generalize e6.alloc _ = e7 at US Da Db Dc hB ⊢
  go_wp2_with fail
  refine (PZ.out _ (HT.out.below hB)).mono ?_
  rintro e e8 ⟨rfl, hb⟩
  replace US := US.below hb
  replace Da := Da.below hb
  replace Db := Db.below hb
  replace Dc := Dc.below hb
  replace hB := below_then hB hb
  clear hb
  go_upto_region 8 with fail
  have LB : Below e8.heap.size e8 (e8.alloc (.cells #[.int .u64 0, .int .u64 0, .int .u64 0, .int .u64 0] 24)) := below_alloc (Below.refl _ _) _
  replace US := US.below LB
  replace Da := Da.below LB
  replace Db := Db.below LB
  replace Dc := Dc.below LB
  replace hB := below_then hB LB
  clear LB
  generalize e8.alloc _ = e9 at US Da Db Dc hB ⊢
  have TV := Lib.hid (HT.out.below hB)
  have w3 : wordsOf 3 = [3] := by rw [wordsOf_pos (by decide), wordsOf_zero]
  have CS : Hid (∀ W, Calls Tryd.prog 30 #[.agg #[.int .u64 7, .int .u64 0, .int .u64 262146, .int .u64 211106232532992]] W (fun e w' => e = .returned (.agg #[.int .u64 211106232532999, .int .u64 262149, .int .u64 262149, .int .u64 402653184]) ∧ Below W.heap.size W w')) := Lib.hid (fun W => by
    have := xStep ⟨7, 0, 262146, 211106232532992⟩ aAk W
    rw [sAk] at this; exact this)
  have CA : Hid (∀ W, Calls Tryd.prog 20 #[.agg #[.int .u64 1, .int .u64 2, .int .u64 3, .int .u64 4], .agg #[.int .u64 7, .int .u64 0, .int .u64 262146, .int .u64 211106232532992]] W (fun e w' => e = .returned (.agg #[.int .u64 6, .int .u64 2, .int .u64 262145, .int .u64 211106232532996]) ∧ Below W.heap.size W w')) := Lib.hid (fun W => by
    have := xAdd ⟨1, 2, 3, 4⟩ ⟨7, 0, 262146, 211106232532992⟩ s4k aAk W
    rw [dAk] at this; exact this)
  have A3 : Hid (∀ (W : World) (B : Option Addr) (cap : Nat), Below e9.heap.size e9 W → Pol W B cap [3] → Calls Tryd.prog 11 #[.slice B 1 cap, .agg #[.int .u64 1, .int .u64 2, .int .u64 3, .int .u64 4]] W (fun e w' => e = .returned (.agg #[.int .u64 6, .int .u64 2, .int .u64 262145, .int .u64 211106232532996]) ∧ Below W.heap.size W w')) := Lib.hid (fun W B cap hW P => by
    have := X.at_ ⟨1, 2, 3, 4⟩ B cap 1 [3] W s4k P rfl (by decide) (TV.out.below hW)
    rw [show leN [3] = 3 from rfl, p3k] at this; exact this)
  have A0 : Hid (∀ (W : World), Below e9.heap.size e9 W → Calls Tryd.prog 11 #[.slice none 0 0, .agg #[.int .u64 1, .int .u64 2, .int .u64 3, .int .u64 4]] W (fun e w' => e = .returned (.agg #[.int .u64 0, .int .u64 0, .int .u64 0, .int .u64 0]) ∧ Below W.heap.size W w')) := Lib.hid (fun W hW => by
    have := X.at_ ⟨1, 2, 3, 4⟩ none 0 0 [] W s4k (Pol.nil W none 0 (by decide)) rfl (by decide) (TV.out.below hW)
    rw [show leN [] = 0 from rfl, p0k] at this; exact this)
  have RU : Hid (∀ (W : World), Below e9.heap.size e9 W → Calls Tryd.prog 22 #[] W (Ans rP W)) := Lib.hid (fun W hW => X.rule W (TV.out.below hW))
  have PO : Hid (∀ (W : World), Below e9.heap.size e9 W → Calls Tryd.prog 31 #[.agg #[.int .u64 0, .int .u64 200]] W (Ans (2 ^ 200) W)) := Lib.hid (fun W hW => by
    have := X.poly 0 200 200 W (sw (by decide)) (TV.out.below hW)
    rw [pr200] at this; exact this)
  have lR := Lib.hid (words_of_len (Nat.le_of_eq rP_len) 5 (by decide))
  have l2 := Lib.hid (words_of_len (n := 2 ^ 200) (m := 201) (len_le (Nat.pow_lt_pow_right (by decide) (by decide))) 5 (by decide))
  have lD : Hid ((len (leN (wordsOf rP)) : Int) - 1 = 256) := Lib.hid (by rw [leN_wordsOf, rP_len]; decide)
  have CX : Hid (∀ W, Calls Tryd.prog 25 #[.int .i64 200] W (Ans (2 ^ 200) W)) := Lib.hid (fun W => cX 200 (by decide) W)
  have HQ : ∀ (a b c d a' b' c' d' : Int) (w : World), Sem.run Tryd.prog (Op.equalIn 10000 24 (.agg #[.int .u64 a, .int .u64 b, .int .u64 c, .int .u64 d]) (.agg #[.int .u64 a', .int .u64 b', .int .u64 c', .int .u64 d'])) w = .ok (a == a' && (b == b' && (c == c' && d == d'))) w := eqS
  have H1 := Lib.hid US
  have H2 := Lib.hid Da
  have H3 := Lib.hid Db
  have H4 := Lib.hid Dc
  have HB := Lib.hid hB
  clear US Da Db Dc hB w3
  go_cut [0] (CutR e9)
  case first =>
    have fX : Below e9.heap.size e9 e9 := Below.refl _ _
    obtain ⟨k10, k11, k12, k13⟩ := H1.out.below fX; have su1 := (H1.out.below fX).lt; obtain ⟨k20, k21, k22, k23⟩ := H2.out.below fX; have su2 := (H2.out.below fX).lt; obtain ⟨k30, k31, k32, k33⟩ := H3.out.below fX; have su3 := (H3.out.below fX).lt; obtain ⟨k40, k41, k42, k43⟩ := H4.out.below fX; have su4 := (H4.out.below fX).lt
    go_region_held3 (fun w' => (w'.cell? ⟨cS, 0, none⟩ = some (.int .u64 1) ∧ w'.cell? ⟨cS, 1, none⟩ = some (.int .u64 2) ∧ w'.cell? ⟨cS, 2, none⟩ = some (.int .u64 3) ∧ w'.cell? ⟨cS, 3, none⟩ = some (.int .u64 4)) ∧ (w'.cell? ⟨ca, 0, none⟩ = some (.int .u64 7) ∧ w'.cell? ⟨ca, 1, none⟩ = some (.int .u64 0) ∧ w'.cell? ⟨ca, 2, none⟩ = some (.int .u64 262146) ∧ w'.cell? ⟨ca, 3, none⟩ = some (.int .u64 211106232532992)) ∧ (w'.cell? ⟨cb, 0, none⟩ = some (.int .u64 1) ∧ w'.cell? ⟨cb, 1, none⟩ = some (.int .u64 2) ∧ w'.cell? ⟨cb, 2, none⟩ = some (.int .u64 3) ∧ w'.cell? ⟨cb, 3, none⟩ = some (.int .u64 4)) ∧ (w'.cell? ⟨e4.heap.size, 0, none⟩ = some (.int .u64 211106232532999) ∧ w'.cell? ⟨e4.heap.size, 1, none⟩ = some (.int .u64 262149) ∧ w'.cell? ⟨e4.heap.size, 2, none⟩ = some (.int .u64 262149) ∧ w'.cell? ⟨e4.heap.size, 3, none⟩ = some (.int .u64 402653184))) (go_keep)
      (first
        | (go_at_call 30; ((with_reducible refine (CS.out _).mono ?_); rintro e x1 ⟨rfl, hb⟩; clear k10 k11 k12 k13 su1 k20 k21 k22 k23 su2 k30 k31 k32 k33 su3 k40 k41 k42 k43 su4; replace fX := below_then (by first | exact fX | exact fX.drew | exact fX.alloc fX.size _ | exact fX.drew.alloc fX.drew.size _) hb; clear hb; obtain ⟨k10, k11, k12, k13⟩ := H1.out.below fX; have su1 := (H1.out.below fX).lt; obtain ⟨k20, k21, k22, k23⟩ := H2.out.below fX; have su2 := (H2.out.below fX).lt; obtain ⟨k30, k31, k32, k33⟩ := H3.out.below fX; have su3 := (H3.out.below fX).lt; obtain ⟨k40, k41, k42, k43⟩ := H4.out.below fX; have su4 := (H4.out.below fX).lt; skip))
        | (go_at_call 22; ((with_reducible refine (RU.out _ (by first | exact fX | exact fX.drew | exact fX.alloc fX.size _ | exact fX.drew.alloc fX.drew.size _)).mono ?_); rintro e x1 ⟨A5, c5, rfl, P5, hb⟩; clear k10 k11 k12 k13 su1 k20 k21 k22 k23 su2 k30 k31 k32 k33 su3 k40 k41 k42 k43 su4; replace fX := below_then (by first | exact fX | exact fX.drew | exact fX.alloc fX.size _ | exact fX.drew.alloc fX.drew.size _) hb; clear hb; have H5 := Lib.hid P5; clear P5; obtain ⟨k10, k11, k12, k13⟩ := H1.out.below fX; have su1 := (H1.out.below fX).lt; obtain ⟨k20, k21, k22, k23⟩ := H2.out.below fX; have su2 := (H2.out.below fX).lt; obtain ⟨k30, k31, k32, k33⟩ := H3.out.below fX; have su3 := (H3.out.below fX).lt; obtain ⟨k40, k41, k42, k43⟩ := H4.out.below fX; have su4 := (H4.out.below fX).lt; skip))
        | (go_at_call 29; ((with_reducible refine (gDeg 256 (H5.out.below (Below.refl _ _)) rfl lD.out (by have := lR.out; omega)).mono ?_); rintro e x2 ⟨rfl, rfl⟩))
        | (go_at_call 11; ((with_reducible refine (A3.out _ _ _ (by first | exact fX | exact fX.drew | exact fX.alloc fX.size _ | exact fX.drew.alloc fX.drew.size _) (pol1 _ 3 3 rfl (by decide))).mono ?_); rintro e x1 ⟨rfl, hb⟩; clear k10 k11 k12 k13 su1 k20 k21 k22 k23 su2 k30 k31 k32 k33 su3 k40 k41 k42 k43 su4; replace fX := below_then (by first | exact fX | exact fX.drew | exact fX.alloc fX.size _ | exact fX.drew.alloc fX.drew.size _) hb; clear hb; obtain ⟨k10, k11, k12, k13⟩ := H1.out.below fX; have su1 := (H1.out.below fX).lt; obtain ⟨k20, k21, k22, k23⟩ := H2.out.below fX; have su2 := (H2.out.below fX).lt; obtain ⟨k30, k31, k32, k33⟩ := H3.out.below fX; have su3 := (H3.out.below fX).lt; obtain ⟨k40, k41, k42, k43⟩ := H4.out.below fX; have su4 := (H4.out.below fX).lt; skip))
        | (go_at_call 20; ((with_reducible refine (CA.out _).mono ?_); rintro e x1 ⟨rfl, hb⟩; clear k10 k11 k12 k13 su1 k20 k21 k22 k23 su2 k30 k31 k32 k33 su3 k40 k41 k42 k43 su4; replace fX := below_then (by first | exact fX | exact fX.drew | exact fX.alloc fX.size _ | exact fX.drew.alloc fX.drew.size _) hb; clear hb; obtain ⟨k10, k11, k12, k13⟩ := H1.out.below fX; have su1 := (H1.out.below fX).lt; obtain ⟨k20, k21, k22, k23⟩ := H2.out.below fX; have su2 := (H2.out.below fX).lt; obtain ⟨k30, k31, k32, k33⟩ := H3.out.below fX; have su3 := (H3.out.below fX).lt; obtain ⟨k40, k41, k42, k43⟩ := H4.out.below fX; have su4 := (H4.out.below fX).lt; skip))
        | (go_at_call 11; ((with_reducible refine (A0.out _ (by first | exact fX | exact fX.drew | exact fX.alloc fX.size _ | exact fX.drew.alloc fX.drew.size _)).mono ?_); rintro e x1 ⟨rfl, hb⟩; clear k10 k11 k12 k13 su1 k20 k21 k22 k23 su2 k30 k31 k32 k33 su3 k40 k41 k42 k43 su4; replace fX := below_then (by first | exact fX | exact fX.drew | exact fX.alloc fX.size _ | exact fX.drew.alloc fX.drew.size _) hb; clear hb; obtain ⟨k10, k11, k12, k13⟩ := H1.out.below fX; have su1 := (H1.out.below fX).lt; obtain ⟨k20, k21, k22, k23⟩ := H2.out.below fX; have su2 := (H2.out.below fX).lt; obtain ⟨k30, k31, k32, k33⟩ := H3.out.below fX; have su3 := (H3.out.below fX).lt; obtain ⟨k40, k41, k42, k43⟩ := H4.out.below fX; have su4 := (H4.out.below fX).lt; skip))
        | (go_at_call 17; ((with_reducible refine (O200.out _).mono ?_); rintro e x1 ⟨rfl, hb⟩; clear k10 k11 k12 k13 su1 k20 k21 k22 k23 su2 k30 k31 k32 k33 su3 k40 k41 k42 k43 su4; replace fX := below_then (by first | exact fX | exact fX.drew | exact fX.alloc fX.size _ | exact fX.drew.alloc fX.drew.size _) hb; clear hb; obtain ⟨k10, k11, k12, k13⟩ := H1.out.below fX; have su1 := (H1.out.below fX).lt; obtain ⟨k20, k21, k22, k23⟩ := H2.out.below fX; have su2 := (H2.out.below fX).lt; obtain ⟨k30, k31, k32, k33⟩ := H3.out.below fX; have su3 := (H3.out.below fX).lt; obtain ⟨k40, k41, k42, k43⟩ := H4.out.below fX; have su4 := (H4.out.below fX).lt; skip))
        | (go_at_call 31; ((with_reducible refine (PO.out _ (by first | exact fX | exact fX.drew | exact fX.alloc fX.size _ | exact fX.drew.alloc fX.drew.size _)).mono ?_); rintro e x1 ⟨A6, c6, rfl, P6, hb⟩; clear k10 k11 k12 k13 su1 k20 k21 k22 k23 su2 k30 k31 k32 k33 su3 k40 k41 k42 k43 su4; replace fX := below_then (by first | exact fX | exact fX.drew | exact fX.alloc fX.size _ | exact fX.drew.alloc fX.drew.size _) hb; clear hb; have H6 := Lib.hid P6; clear P6; have F6 := Lib.hid fX; obtain ⟨k10, k11, k12, k13⟩ := H1.out.below fX; have su1 := (H1.out.below fX).lt; obtain ⟨k20, k21, k22, k23⟩ := H2.out.below fX; have su2 := (H2.out.below fX).lt; obtain ⟨k30, k31, k32, k33⟩ := H3.out.below fX; have su3 := (H3.out.below fX).lt; obtain ⟨k40, k41, k42, k43⟩ := H4.out.below fX; have su4 := (H4.out.below fX).lt; skip))
        | (go_at_call 25; ((with_reducible refine (CX.out _).mono ?_); rintro e x1 ⟨A7, c7, rfl, P7, hb⟩; clear k10 k11 k12 k13 su1 k20 k21 k22 k23 su2 k30 k31 k32 k33 su3 k40 k41 k42 k43 su4; replace H6 := Lib.hid (H6.out.below hb); replace fX := below_then (by first | exact fX | exact fX.drew | exact fX.alloc fX.size _ | exact fX.drew.alloc fX.drew.size _) hb; clear hb; have H7 := Lib.hid P7; clear P7; obtain ⟨k10, k11, k12, k13⟩ := H1.out.below fX; have su1 := (H1.out.below fX).lt; obtain ⟨k20, k21, k22, k23⟩ := H2.out.below fX; have su2 := (H2.out.below fX).lt; obtain ⟨k30, k31, k32, k33⟩ := H3.out.below fX; have su3 := (H3.out.below fX).lt; obtain ⟨k40, k41, k42, k43⟩ := H4.out.below fX; have su4 := (H4.out.below fX).lt; skip))
        | (go_at_call 28; ((with_reducible refine (gSame true H6.out H7.out rfl rfl (by unfold sameN; exact decide_eq_true rfl) (by have := l2.out; omega)).mono ?_); rintro e x1 ⟨rfl, hb⟩; clear k10 k11 k12 k13 su1 k20 k21 k22 k23 su2 k30 k31 k32 k33 su3 k40 k41 k42 k43 su4; replace fX := below_then (by first | exact fX | exact fX.drew | exact fX.alloc fX.size _ | exact fX.drew.alloc fX.drew.size _) hb; clear hb; obtain ⟨k10, k11, k12, k13⟩ := H1.out.below fX; have su1 := (H1.out.below fX).lt; obtain ⟨k20, k21, k22, k23⟩ := H2.out.below fX; have su2 := (H2.out.below fX).lt; obtain ⟨k30, k31, k32, k33⟩ := H3.out.below fX; have su3 := (H3.out.below fX).lt; obtain ⟨k40, k41, k42, k43⟩ := H4.out.below fX; have su4 := (H4.out.below fX).lt; skip)))
    all_goals
      go_wp2_with fail
      go_meet
      exact ⟨rfl, fX⟩
  obtain ⟨rfl, hb⟩ := hcut
  have hB := below_then HB.out hb
  go_wp2
  go_ret
  exact ⟨rfl, hB⟩
end Go.Proofs.YtemgoikghaiamaaDoor
/-
  awake of layer 8's statements answers true, over the landed program; and what the statements' walks stand on.
-/
namespace Go.Proofs.YtemgoikghaiamaaDoor
open Go.RowKit G
theorem awake8h : Hid (∀ W, Tab W → Calls Tryd.prog 8 #[] W (Bl true W)) := Lib.hid fun W T => awake8 jx W T
end Go.Proofs.YtemgoikghaiamaaDoor
