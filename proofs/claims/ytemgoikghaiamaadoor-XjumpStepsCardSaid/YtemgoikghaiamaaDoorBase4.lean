/-
  Part 4 of what the statements of this seat stand on: GfpP WideA WideM WideC GfdA GfdB GfdC GfdD GfdE GfpG GfwA GfwB GfwC GfwD GfwP.
-/
import Derived.Test.YtemgoikghaiamaaDoorBase1
import Derived.Lib.SmallJoins
import Derived.WideKeyArgs
import Derived.ChangeSlices
import Derived.ChangeSame
import Derived.Test.YtemgoikghaiamaaDoorRows
import Derived.WalkKit
import Derived.ProofKit
import Derived.OpenShut
import Derived.Handy
import Derived.Lib.Mul64
import Derived.Lib.Hide
import Derived.Deep.QuietTactic
import Derived.Laws.Bits64b
import Derived.Lib.BitFns
import Derived.ChangeAlike
import Derived.Deep.RegionHeld3
import Derived.LoopTactic
import Derived.RangeFuncNested
import Derived.RangeFuncBound
import Derived.RangeFuncCalls
import Derived.RangeFuncLeaves
import Derived.RangeFuncBox
import Derived.Shelf.Abstract
import Derived.Shelf.RegionOpen
import Derived.OwnWalkIn
import Derived.TacticsInMore
import Derived.LoopNIn
import Derived.LoopIn
import Derived.Sort.CutIn
import Derived.Stop.RegionWithIn
import Derived.Deep.DeepCutAuto
import Derived.Deep.CutRange
import Derived.Deep.RegionWith
/-
  Words for the last step of a statement's proof: a list of words among the arguments is opened, what was read is read again behind the call, and what a walk leaves alone is handed on.
-/
namespace Go.Proofs.YtemgoikghaiamaaDoor
open Go.ChangeShapes Go.WideShapes Go.ChangeAt Go.RowKit Go.Joins G
set_option linter.unusedVariables false
set_option maxRecDepth 100000

theorem own : ownKnob Tryd.prog.godebug = none := by kernel_rfl
theorem laidOut : laidOutB Tryd.prog = true := by kernel_rfl
theorem cellsW : Tryd.prog.cellsOf 22 = 1 := by kernel_rfl
section
variable {H : Type} {enc : TypeId × Value → H}
/-- What was read of an argument is read again where nothing of what was there has turned. -/
theorem trod_below {t : TypeId} (hr : Tryd.prog.readableRec t = true) (hrow : t < Tryd.prog.types.size) {W W' : World} {sp : Nat → Bool} {v : Value} {d : DataW H} {ps : List MemPlace}
    (h : DataW.Trod enc Tryd.prog W 0 (fun _ => true) true t v d ps) (hb : Below W.heap.size W W') (hs : ∀ p ∈ ps, sp p.block = true) : DataW.Trod enc Tryd.prog W' 0 sp true t v d ps := by
  refine WideElems.Trod_stays laidOut hr hrow h (fun p hp => ?_) hs
  have lt : p.block < W.heap.size := by
    have := DataW.TrodAll.lt (trodAll_mk1 h) p hp
    exact this
  cases p with
  | cell b o => exact World.cell?_of_block (w := W) (hb.block b lt)
  | map b => exact hb.block b lt
theorem nat_of_wf {n : Int} (h : (Lit.int .u64 n).wf = true) : ((n.toNat : Nat) : Int) = n ∧ n.toNat < 18446744073709551616 := by
  have := bounds_u64 h
  omega
set_option maxRecDepth 100000 in
/-- An argument that is a list of words. -/
theorem openP {W : World} {base : Nat} {t : TypeId} {v : Value} {d : DataW H} {p : List MemPlace} (ht : Tryd.prog.underlying t = some (.slice 22)) (ok : Value.okWide Tryd.prog W .any base t v)
    (h : DataW.Trod enc Tryd.prog W 0 (fun _ => true) true t v d p) : ∃ (A : Option Addr) (L ca : Nat) (xs : List Nat), v = .slice A L ca ∧ xs.length = L ∧ Pol W A ca xs := by
  obtain ⟨a0, len, cap, rfl⟩ := okWide_slice ht ok
  obtain ⟨fuel, hf⟩ := h
  rcases open_ints ht Tryd.underlying22 cellsW hf with ⟨hcs, hx⟩ | ⟨a, len', cap', zs, hcs, _, hl, hm, hz, hx, hcell, hwz⟩
  · simp [Value.cells] at hcs
    obtain ⟨rfl, rfl, rfl⟩ := hcs
    exact ⟨none, 0, 0, [], rfl, rfl, Pol.nil _ _ _ (by decide)⟩
  · simp [Value.cells] at hcs
    obtain ⟨rfl, rfl, rfl⟩ := hcs
    simp only [if_true] at hz
    have hl' : ((zs.take len).map Int.toNat).length = len := by rw [List.length_map, List.length_take]; omega
    refine ⟨some a, len, cap, (zs.take len).map Int.toNat, rfl, hl', fun x hx => ?_, by rw [hl']; exact hl, hm, fun i hi => ?_⟩
    · obtain ⟨y, hy, rfl⟩ := List.mem_map.1 hx
      exact (nat_of_wf (hwz y (List.mem_of_mem_take hy))).2
    · rw [hl'] at hi
      have c := hcell i (by omega)
      obtain ⟨b, off, spot⟩ := a
      have hspot : spot = none := by
        have c0 := World.cell?_spot (hcell 0 (by omega))
        simpa [Addr.add] using c0
      subst hspot
      refine ⟨b, off, rfl, ?_⟩
      rw [Addr.add_lit] at c
      rw [c]
      have e : zs[i]? = some (zs[i]'(by omega)) := List.getElem?_eq_getElem (by omega)
      have e2 : (((zs.take len).map Int.toNat).getD i 0 : Nat) = (zs.getD i 0).toNat := by
        simp [List.getD_eq_getElem?_getD, List.getElem?_map, hi, e]
      rw [e2]
      have w := nat_of_wf (hwz (zs[i]'(by omega)) (List.getElem_mem _))
      rw [List.getD_eq_getElem?_getD, e]
      simp only [Option.getD_some]
      rw [w.1]
end
section
variable {H : Type} {enc : TypeId × Value → H} {P : Program}
/-- The last step where of the end's world it is known that nothing of what was there has turned. -/
theorem post_of_below {f : Func} {s : ChangeSpec} {apart fresh handsOn again : Bool} {W W' : World} {args : Array Value} {v : Value} {ds gs : List (DataW H)} {before pa pv : List MemPlace}
    (hW : DataW.Whole enc P f.params.toList s.vars apart W args.toList ds gs before)
    (hres : ∀ (b : Nat) (sp : Nat → Bool) (hd : Bool), DataW.TrodAll enc P W' b sp hd f.resultTypes.toList (v.resultList f.resultTypes.size) (s.fn H (ds ++ gs)).results [])
    (hargs : ∀ sp : Nat → Bool, (∀ p ∈ before, sp p.block = true) → DataW.TrodAll enc P W' 0 sp true f.params.toList args.toList (s.fn H (ds ++ gs)).args pa)
    (hvars : ∀ sp : Nat → Bool, (∀ p ∈ before, sp p.block = true) → DataW.TrodVars enc P W' sp s.vars (s.fn H (ds ++ gs)).vars pv)
    (hps : before = pa ++ pv) (hb : Below W.heap.size W W')
    (hok : ∀ (j : Nat) (t : TypeId) (r : Value), f.resultTypes[j]? = some t → (v.resultList f.resultTypes.size)[j]? = some r → Value.okWide P W' .any 0 t r) :
    s.post enc P f apart fresh handsOn again W args v W' := by
  have lt : ∀ p ∈ before, p.block < W.heap.size := fun p hp => hW.lt p hp
  have old : ∀ p ∈ before, (fun b => decide (b < W.heap.size)) p.block = true := fun p hp => by simpa using lt p hp
  refine ⟨ds, gs, before, [], pa, pv, hW, hres _ _ _, hargs _ old, hvars _ old, World.keptBut_mono (fun p hp => ⟨hp, ?_⟩) (hb.frame (· ∈ before)), fun _ => ?_⟩
  · rw [hps, List.mem_append] at hp
    exact Or.inr hp
  · obtain ⟨_, _, _, _, _, fz, nd⟩ := hW
    refine ⟨hok, _, _, ([] ++ pa) ++ pv, ⟨[] ++ pa, pv, trodAll_append (hargs _ (fun _ _ => rfl)) (hres _ _ _), hvars _ (fun _ _ => rfl), rfl, ?_, ?_⟩, ?_⟩
    · intro b off hp
      have inb : MemPlace.cell b off ∈ before := by rw [hps]; simpa using hp
      rw [hb.frozen (lt _ inb)]
      exact fz b off inb
    · intro ha
      have := nd ha
      rw [hps] at this
      simpa using this
    · intro p hp _
      rw [hps]
      simpa using hp
end
end Go.Proofs.YtemgoikghaiamaaDoor
/-
  What the calls Of, Cmp, Add, Sub, Full and Mul of package wide answer, as numbers: sums, differences and products modulo 2^128, for all pairs of words.
  No condition beside that each word lies below 2^64.
-/
namespace Go.Proofs.YtemgoikghaiamaaDoor.Wd
open Go.RowKit
set_option linter.unusedVariables false

/-- h and l are the two words of n. -/
def Is (n h l : Int) : Prop := 0 ≤ h ∧ h < 18446744073709551616 ∧ 0 ≤ l ∧ l < 18446744073709551616 ∧ h * 18446744073709551616 + l = n
/-- An answer that is one number of 128 bits. -/
def U1 (P : Int → Int → Prop) (w : World) (e : Ending) (w' : World) : Prop :=
  ∃ h l : Int, P h l ∧ e = .returned (.agg #[.int .u64 h, .int .u64 l]) ∧ Below w.heap.size w w'
/-- An answer that is one number of 128 bits, and a bool. -/
def U2 (P : Int → Int → Bool → Prop) (w : World) (e : Ending) (w' : World) : Prop :=
  ∃ (h l : Int) (c : Bool), P h l c ∧ e = .returned (.tuple #[.agg #[.int .u64 h, .int .u64 l], .bool c]) ∧ Below w.heap.size w w'
/-- An answer that is one integer of 64 bits. -/
def I1 (P : Int → Prop) (w : World) (e : Ending) (w' : World) : Prop :=
  ∃ n : Int, P n ∧ e = .returned (.int .i64 n) ∧ Below w.heap.size w w'

/-- What a callee leaves alone, and what its caller laid before. -/
theorem below_then {w W w' : World} (h : Below w.heap.size w W) (hb : Below W.heap.size W w') : Below w.heap.size w w' :=
  h.trans (hb.mono h.size)
/-- Block b holds the two words of a number. -/
def Has (w : World) (b : Nat) (h l : Int) : Prop :=
  b < w.heap.size ∧ w.cell? ⟨b, 0, none⟩ = some (.int .u64 h) ∧ w.cell? ⟨b, 1, none⟩ = some (.int .u64 l)
theorem Has.below {W w' : World} {b : Nat} {h l : Int} (k : Has W b h l) (hb : Below W.heap.size W w') : Has w' b h l :=
  ⟨Nat.lt_of_lt_of_le k.1 hb.size, (hb.cell (p := ⟨b, 0, none⟩) k.1).trans k.2.1, (hb.cell (p := ⟨b, 1, none⟩) k.1).trans k.2.2⟩
theorem Has.alloc {W : World} {b : Nat} {h l : Int} (k : Has W b h l) (o : Obj) : Has (W.alloc o) b h l :=
  ⟨by simp; have := k.1; omega, by rw [World.cell?_alloc_lt _ _ _ k.1]; exact k.2.1, by rw [World.cell?_alloc_lt _ _ _ k.1]; exact k.2.2⟩
theorem Has.fresh (W : World) (h l : Int) (t : TypeId) : Has (W.alloc (.cells #[.int .u64 h, .int .u64 l] t)) W.heap.size h l :=
  ⟨by simp, by simp, by simp⟩
theorem Has.drew {W : World} {b : Nat} {h l : Int} (k : Has W b h l) : Has W.drew b h l := k

/-- Block b holds two values, and may be written. -/
def Own (w : World) (b : Nat) (u v : Value) : Prop :=
  b < w.heap.size ∧ w.cell? ⟨b, 0, none⟩ = some u ∧ w.cell? ⟨b, 1, none⟩ = some v ∧ w.frozen? ⟨b, 0, none⟩ = false ∧ w.frozen? ⟨b, 1, none⟩ = false
theorem Own.below {W w' : World} {b : Nat} {u v : Value} (k : Own W b u v) (hb : Below W.heap.size W w') : Own w' b u v :=
  ⟨Nat.lt_of_lt_of_le k.1 hb.size, (hb.cell (p := ⟨b, 0, none⟩) k.1).trans k.2.1, (hb.cell (p := ⟨b, 1, none⟩) k.1).trans k.2.2.1,
    (hb.frozen (p := ⟨b, 0, none⟩) k.1).trans k.2.2.2.1, (hb.frozen (p := ⟨b, 1, none⟩) k.1).trans k.2.2.2.2⟩
theorem Own.alloc {W : World} {b : Nat} {u v : Value} (k : Own W b u v) (o : Obj) : Own (W.alloc o) b u v :=
  k.below ((Below.refl _ _).alloc (Nat.le_refl _) _)
theorem Own.fresh (W : World) (u v : Value) (t : TypeId) : Own (W.alloc (.cells #[u, v] t)) W.heap.size u v :=
  ⟨by simp, by simp, by simp, by simp [go_sem], by simp [go_sem]⟩
theorem Own.drewN {W : World} {b : Nat} {u v : Value} (k : Own W b u v) (n : Nat) : Own (W.drewN n) b u v := k
theorem Has.drewN {W : World} {b : Nat} {h l : Int} (k : Has W b h l) (n : Nat) : Has (W.drewN n) b h l := k
theorem below_drewN {w : World} (n : Nat) : Below w.heap.size w (w.drewN n) := ⟨rfl, rfl, rfl, Nat.le_refl _, fun _ _ => rfl⟩
theorem below_drewN' {B : Nat} {a w : World} (h : Below B a w) (n : Nat) : Below B a (w.drewN n) := ⟨h.os, h.tape, h.output, h.size, h.block⟩

theorem below_alloc {w W : World} (h : Below w.heap.size w W) (o : Obj) : Below w.heap.size w (W.alloc o) := h.alloc h.size o

theorem add64 (x y c : Int) (hx : 0 ≤ x) (hy : 0 ≤ y) (hc0 : 0 ≤ c) (hc : c ≤ 1) (w : World) :
    (callFunc 40 #[.int .u64 x, .int .u64 y, .int .u64 c]).run Tryd.prog w =
      .ok (.value (.tuple #[.int .u64 ((x + y + c) % 18446744073709551616), .int .u64 ((x + y + c) / 18446744073709551616)])) w := by
  obtain ⟨x, rfl⟩ := Int.eq_ofNat_of_zero_le hx
  obtain ⟨y, rfl⟩ := Int.eq_ofNat_of_zero_le hy
  obtain ⟨c, rfl⟩ := Int.eq_ofNat_of_zero_le hc0
  rw [run_callFunc_extern Tryd.func40 (by kernel_rfl) (by kernel_rfl) (by kernel_rfl) (e := add64Entry) (by kernel_rfl), run_add64 x y c (by omega) (by omega) (by omega) (by omega)]
  simp only [Result.andThen]

/-- The model's entry for Sub64. -/
def sub64E : Array Value → Sem Value := fun args => do
  let (x, y, b) ← Extern.MathBitsCarry.three "Sub64" args
  pure (Extern.MathBitsCarry.pair ((x + Extern.MathBitsCarry.m64 - y - b) % Extern.MathBitsCarry.m64) (if x < y + b then 1 else 0))
theorem run_sub64E (x y b : Nat) (hb : b ≤ 1) (w : World) :
    (sub64E #[.int .u64 x, .int .u64 y, .int .u64 b]).run Tryd.prog w =
      .ok (.tuple #[.int .u64 (((x + 18446744073709551616 - y - b) % 18446744073709551616 : Nat) : Int), .int .u64 ((if x < y + b then 1 else 0 : Nat) : Int)]) w := by
  have : b = 0 ∨ b = 1 := by omega
  rcases this with rfl | rfl <;> rfl
set_option maxRecDepth 100000 in
set_option maxHeartbeats 400000 in
theorem wAdd (ah al bh bl : Int) (a1 : 0 ≤ ah) (a2 : ah < 18446744073709551616) (a3 : 0 ≤ al) (a4 : al < 18446744073709551616) (b1 : 0 ≤ bh) (b2 : bh < 18446744073709551616) (b3 : 0 ≤ bl) (b4 : bl < 18446744073709551616) (w : World) :
    Calls Tryd.prog 19 #[.agg #[.int .u64 ah, .int .u64 al], .agg #[.int .u64 bh, .int .u64 bl]] w
      (U2 (fun h l c => Is ((ah * 18446744073709551616 + al + (bh * 18446744073709551616 + bl)) % 340282366920938463463374607431768211456) h l ∧ c = decide (340282366920938463463374607431768211456 ≤ ah * 18446744073709551616 + al + (bh * 18446744073709551616 + bl))) w) := by
  have q1 := add64 al bl 0 a3 b3 (by omega) (by omega)
  have q2 := add64 ah bh ((al + bl) / 18446744073709551616) a1 b1 (by omega) (by omega)
  rw [Int.add_zero] at q1
  go_enter Tryd.func19, Tryd.ntmps19
  go_wp2
  go_returns
  refine ⟨_, _, _, ⟨⟨?_, ?_, ?_, ?_, ?_⟩, ?_⟩, rfl, ?_⟩
  · omega
  · omega
  · omega
  · omega
  · omega
  · rw [Bool.eq_iff_iff]; simp; omega
  · go_grown

def cmpOf (a b : Int) : Int := if a = b then 0 else if a < b then -1 else 1

set_option maxRecDepth 100000 in
set_option maxHeartbeats 400000 in
theorem wOf (a : Int) (a1 : 0 ≤ a) (a2 : a < 18446744073709551616) (w : World) :
    Calls Tryd.prog 17 #[.int .u64 a] w (U1 (fun h l => h = 0 ∧ l = a) w) := by
  go_enter Tryd.func17, Tryd.ntmps17
  go_wp2
  go_returns
  refine ⟨_, _, ⟨rfl, rfl⟩, rfl, ?_⟩
  go_grown

theorem maskI (a : Nat) (ha : a < 18446744073709551616) : bits .and .u64 (a : Int) 4294967295 = ((a % 4294967296 : Nat) : Int) := by
  have h := bits_and_u64_nat a 4294967295 ha (by omega)
  rw [show a &&& 4294967295 = a % 4294967296 from Nat.and_two_pow_sub_one_eq_mod a 32] at h
  exact h
theorem wrapI (a : Nat) (ha : a < 18446744073709551616) : IntKind.u64.wrap (a : Int) = (a : Int) := by rw [IntKind.wrap_u64]; omega
theorem wrapJ (a : Nat) : IntKind.u64.wrap (a : Int) = ((a % 18446744073709551616 : Nat) : Int) := by rw [IntKind.wrap_u64]; omega
theorem divI (a : Nat) : (a : Int) / 4294967296 = ((a / 4294967296 : Nat) : Int) := by omega

theorem mul_bd (x y : Int) (hx0 : 0 ≤ x) (hx : x < 18446744073709551616) (hy0 : 0 ≤ y) (hy : y < 18446744073709551616) : 0 ≤ x * y ∧ x * y < 340282366920938463463374607431768211456 := by
  refine ⟨Int.mul_nonneg hx0 hy0, ?_⟩
  have h1 : x * y ≤ 18446744073709551615 * 18446744073709551615 := Int.mul_le_mul (by omega) (by omega) hy0 (by omega)
  omega

theorem mul128 (ah al bh bl h l : Int) (hv : h * 18446744073709551616 + l = al * bl) (b1 : 0 ≤ h) (b2 : h < 18446744073709551616) (b3 : 0 ≤ l) (b4 : l < 18446744073709551616) :
    Is (((ah * 18446744073709551616 + al) * (bh * 18446744073709551616 + bl)) % 340282366920938463463374607431768211456) ((h + (ah * bl + al * bh)) % 18446744073709551616) l := by
  have e : (ah * 18446744073709551616 + al) * (bh * 18446744073709551616 + bl) = ah * bh * 340282366920938463463374607431768211456 + (ah * bl + al * bh) * 18446744073709551616 + al * bl := by
    rw [Int.add_mul, Int.mul_add, Int.mul_add]
    have e1 : ah * 18446744073709551616 * (bh * 18446744073709551616) = ah * bh * 340282366920938463463374607431768211456 := by
      rw [Int.mul_assoc, ← Int.mul_assoc 18446744073709551616 bh, Int.mul_comm 18446744073709551616 bh, Int.mul_assoc bh, ← Int.mul_assoc, show (18446744073709551616 : Int) * 18446744073709551616 = 340282366920938463463374607431768211456 from by decide]
    have e2 : ah * 18446744073709551616 * bl = ah * bl * 18446744073709551616 := by rw [Int.mul_assoc, Int.mul_comm 18446744073709551616 bl, ← Int.mul_assoc]
    have e3 : al * (bh * 18446744073709551616) = al * bh * 18446744073709551616 := by rw [← Int.mul_assoc]
    rw [e1, e2, e3]
    omega
  rw [e]
  generalize ah * bh = p at *
  generalize ah * bl + al * bh = q at *
  generalize al * bl = r at *
  refine ⟨?_, ?_, ?_, ?_, ?_⟩ <;> omega

end Go.Proofs.YtemgoikghaiamaaDoor.Wd
/-
  Plain arithmetic, without the program: what two words of 64 bits become when both go to the left or to the right.
-/
namespace Go.Proofs.YtemgoikghaiamaaDoor.Wd
set_option linter.unusedVariables false

theorem pow_split (n : Nat) (h : n ≤ 64) : 2 ^ n * 2 ^ (64 - n) = 18446744073709551616 := by
  rw [← Nat.pow_add, show n + (64 - n) = 64 from by omega]

theorem wrap_shl (a n : Nat) : IntKind.u64.wrap ((a : Int) * 2 ^ n) = ((a * 2 ^ n % 18446744073709551616 : Nat) : Int) := by
  rw [IntKind.wrap_u64]
  have : ((a * 2 ^ n : Nat) : Int) = (a : Int) * 2 ^ n := by rw [Int.natCast_mul, Int.natCast_pow]; rfl
  rw [← this]
  omega

theorem div_shr (a n : Nat) : (a : Int) / 2 ^ n = ((a / 2 ^ n : Nat) : Int) := by
  rw [Int.natCast_ediv, Int.natCast_pow]; rfl

/-- To the left by 1 to 63. -/
theorem left_low (ah al n : Nat) (hn : n ≤ 64) (h1 : ah < 18446744073709551616) (h2 : al < 18446744073709551616) :
    bits .or .u64 (IntKind.u64.wrap ((ah : Int) * 2 ^ n)) ((al : Int) / 2 ^ (64 - n)) = ((ah * 2 ^ n % 18446744073709551616 + al / 2 ^ (64 - n) : Nat) : Int) ∧
    ah * 2 ^ n % 18446744073709551616 + al / 2 ^ (64 - n) < 18446744073709551616 ∧
    (ah * 2 ^ n % 18446744073709551616 + al / 2 ^ (64 - n)) * 18446744073709551616 + al * 2 ^ n % 18446744073709551616 = (ah * 18446744073709551616 + al) * 2 ^ n % 340282366920938463463374607431768211456 := by
  have hm := pow_split n hn
  have hp : 0 < 2 ^ n := Nat.pow_pos (by omega)
  have hq : 0 < 2 ^ (64 - n) := Nat.pow_pos (by omega)
  have e1 : ah * 2 ^ n % 18446744073709551616 = 2 ^ n * (ah % 2 ^ (64 - n)) := by
    rw [← hm, Nat.mul_comm ah, Nat.mul_mod_mul_left]
  have e2 : al * 2 ^ n % 18446744073709551616 = 2 ^ n * (al % 2 ^ (64 - n)) := by
    rw [← hm, Nat.mul_comm al, Nat.mul_mod_mul_left]
  have b1 : al / 2 ^ (64 - n) < 2 ^ n := by
    rw [Nat.div_lt_iff_lt_mul hq, hm]; exact h2
  have ho : 2 ^ n * (ah % 2 ^ (64 - n)) ||| al / 2 ^ (64 - n) = 2 ^ n * (ah % 2 ^ (64 - n)) + al / 2 ^ (64 - n) :=
    (Nat.two_pow_add_eq_or_of_lt b1 _).symm
  have hr := Nat.mod_lt ah hq
  have hs := Nat.mod_lt al hq
  have hrm : 2 ^ n * (ah % 2 ^ (64 - n)) + 2 ^ n ≤ 18446744073709551616 := by
    rw [← hm]
    calc 2 ^ n * (ah % 2 ^ (64 - n)) + 2 ^ n = 2 ^ n * (ah % 2 ^ (64 - n) + 1) := by rw [Nat.mul_add, Nat.mul_one]
      _ ≤ 2 ^ n * 2 ^ (64 - n) := Nat.mul_le_mul_left _ hr
  have hsm : 2 ^ n * (al % 2 ^ (64 - n)) < 18446744073709551616 := by
    rw [← hm]; exact Nat.mul_lt_mul_of_pos_left hs hp
  refine ⟨?_, ?_, ?_⟩
  · rw [wrap_shl, div_shr, bits_or_u64_nat _ _ (Nat.mod_lt _ (by omega)) (by omega), e1, ho]
  · rw [e1]; omega
  · rw [e1, e2]
    have k1 := Nat.div_add_mod ah (2 ^ (64 - n))
    have k2 := Nat.div_add_mod al (2 ^ (64 - n))
    have k3 : ah * 2 ^ n = ah / 2 ^ (64 - n) * 18446744073709551616 + 2 ^ n * (ah % 2 ^ (64 - n)) := by
      rw [← hm]
      conv => lhs; rw [← k1]
      rw [Nat.add_mul, Nat.mul_comm (ah % 2 ^ (64 - n)), Nat.mul_comm (2 ^ (64 - n)) (ah / 2 ^ (64 - n)), Nat.mul_assoc, Nat.mul_comm (2 ^ (64 - n)) (2 ^ n)]
    have k4 : al * 2 ^ n = al / 2 ^ (64 - n) * 18446744073709551616 + 2 ^ n * (al % 2 ^ (64 - n)) := by
      rw [← hm]
      conv => lhs; rw [← k2]
      rw [Nat.add_mul, Nat.mul_comm (al % 2 ^ (64 - n)), Nat.mul_comm (2 ^ (64 - n)) (al / 2 ^ (64 - n)), Nat.mul_assoc, Nat.mul_comm (2 ^ (64 - n)) (2 ^ n)]
    have k5 : (ah * 18446744073709551616 + al) * 2 ^ n = ah * 2 ^ n * 18446744073709551616 + al * 2 ^ n := by rw [Nat.add_mul, Nat.mul_right_comm]
    rw [k5, k3, k4]
    generalize 2 ^ n * (ah % 2 ^ (64 - n)) = x at *
    generalize 2 ^ n * (al % 2 ^ (64 - n)) = y at *
    generalize ah / 2 ^ (64 - n) = u at *
    generalize al / 2 ^ (64 - n) = v at *
    omega

/-- To the right by 1 to 63. -/
theorem right_low (ah al n : Nat) (hn : n ≤ 64) (h1 : ah < 18446744073709551616) (h2 : al < 18446744073709551616) :
    bits .or .u64 ((al : Int) / 2 ^ n) (IntKind.u64.wrap ((ah : Int) * 2 ^ (64 - n))) = ((al / 2 ^ n + ah * 2 ^ (64 - n) % 18446744073709551616 : Nat) : Int) ∧
    al / 2 ^ n + ah * 2 ^ (64 - n) % 18446744073709551616 < 18446744073709551616 ∧
    ah / 2 ^ n * 18446744073709551616 + (al / 2 ^ n + ah * 2 ^ (64 - n) % 18446744073709551616) = (ah * 18446744073709551616 + al) / 2 ^ n := by
  have hm := pow_split n hn
  have hp : 0 < 2 ^ n := Nat.pow_pos (by omega)
  have hq : 0 < 2 ^ (64 - n) := Nat.pow_pos (by omega)
  have e1 : ah * 2 ^ (64 - n) % 18446744073709551616 = 2 ^ (64 - n) * (ah % 2 ^ n) := by
    rw [← hm, Nat.mul_comm ah, Nat.mul_comm (2 ^ n), Nat.mul_mod_mul_left]
  have b1 : al / 2 ^ n < 2 ^ (64 - n) := by
    rw [Nat.div_lt_iff_lt_mul hp, Nat.mul_comm, hm]; exact h2
  have ho : al / 2 ^ n ||| 2 ^ (64 - n) * (ah % 2 ^ n) = al / 2 ^ n + 2 ^ (64 - n) * (ah % 2 ^ n) := by
    rw [Nat.or_comm, Nat.add_comm]; exact (Nat.two_pow_add_eq_or_of_lt b1 _).symm
  have hr := Nat.mod_lt ah hp
  have hrm : 2 ^ (64 - n) * (ah % 2 ^ n) + 2 ^ (64 - n) ≤ 18446744073709551616 := by
    rw [← hm, Nat.mul_comm (2 ^ n)]
    calc 2 ^ (64 - n) * (ah % 2 ^ n) + 2 ^ (64 - n) = 2 ^ (64 - n) * (ah % 2 ^ n + 1) := by rw [Nat.mul_add, Nat.mul_one]
      _ ≤ 2 ^ (64 - n) * 2 ^ n := Nat.mul_le_mul_left _ hr
  have hl : al / 2 ^ n ≤ al := Nat.div_le_self _ _
  refine ⟨?_, ?_, ?_⟩
  · rw [wrap_shl, div_shr, bits_or_u64_nat _ _ (by omega) (Nat.mod_lt _ (by omega)), e1, ho]
  · rw [e1]; omega
  · rw [e1]
    have k1 := Nat.div_add_mod ah (2 ^ n)
    have k3 : ah * 18446744073709551616 + al = (ah * 2 ^ (64 - n)) * 2 ^ n + al := by
      rw [Nat.mul_assoc, Nat.mul_comm (2 ^ (64 - n)), hm]
    rw [k3, Nat.mul_comm _ (2 ^ n), Nat.mul_add_div hp]
    have k4 : ah * 2 ^ (64 - n) = ah / 2 ^ n * 18446744073709551616 + 2 ^ (64 - n) * (ah % 2 ^ n) := by
      rw [← hm]
      conv => lhs; rw [← k1]
      rw [Nat.add_mul, Nat.mul_comm (ah % 2 ^ n), Nat.mul_comm (2 ^ n) (ah / 2 ^ n), Nat.mul_assoc]
    rw [k4]
    generalize ah / 2 ^ n = x
    generalize 2 ^ (64 - n) * (ah % 2 ^ n) = y
    generalize al / 2 ^ n = z
    rw [Nat.add_assoc, Nat.add_comm y]

/-- To the left by 64 to 127. -/
theorem left_high (ah al k : Nat) (h2 : al < 18446744073709551616) :
    al * 2 ^ k % 18446744073709551616 * 18446744073709551616 = (ah * 18446744073709551616 + al) * 2 ^ (64 + k) % 340282366920938463463374607431768211456 := by
  rw [Nat.pow_add, ← Nat.mul_assoc, Nat.add_mul, Nat.add_mul]
  have e : ah * 18446744073709551616 * 2 ^ 64 * 2 ^ k = ah * 2 ^ k * 340282366920938463463374607431768211456 := by
    rw [Nat.mul_right_comm, Nat.mul_right_comm ah, Nat.mul_assoc, Nat.mul_assoc]
  have e2 : al * 2 ^ 64 * 2 ^ k = al * 2 ^ k * 18446744073709551616 := Nat.mul_right_comm _ _ _
  rw [e, e2]
  generalize ah * 2 ^ k = x
  generalize al * 2 ^ k = y
  omega

theorem right_high (ah al k : Nat) (h2 : al < 18446744073709551616) :
    ah / 2 ^ k = (ah * 18446744073709551616 + al) / 2 ^ (64 + k) := by
  rw [Nat.pow_add, ← Nat.div_div_eq_div_mul]
  congr 1
  omega

theorem left_out (v n : Nat) (hn : 128 ≤ n) : v * 2 ^ n % 340282366920938463463374607431768211456 = 0 := by
  obtain ⟨k, rfl⟩ := Nat.exists_eq_add_of_le hn
  rw [Nat.pow_add, Nat.mul_left_comm]
  exact Nat.mul_mod_right _ _

theorem right_out (v n : Nat) (hv : v < 340282366920938463463374607431768211456) (hn : 128 ≤ n) : v / 2 ^ n = 0 := by
  apply Nat.div_eq_of_lt
  calc v < 2 ^ 128 := hv
    _ ≤ 2 ^ n := Nat.pow_le_pow_right (by omega) hn

theorem bitLenAux_le : ∀ f x : Nat, Lib.bitLenAux f x ≤ f
  | 0, _ => Nat.le_refl _
  | f + 1, x => by
    unfold Lib.bitLenAux
    split
    · omega
    · have := bitLenAux_le f (x / 2)
      omega
theorem bitLen_le (x : Nat) : Lib.bitLen x ≤ 64 := bitLenAux_le 64 x
theorem bitLenAux_bd : ∀ f x : Nat, x < 2 ^ f → x < 2 ^ Lib.bitLenAux f x ∧ (x ≠ 0 → 2 ^ Lib.bitLenAux f x ≤ 2 * x) ∧ (x = 0 → Lib.bitLenAux f x = 0) ∧ (x ≠ 0 → 1 ≤ Lib.bitLenAux f x)
  | 0, x => by
    intro h
    have : x = 0 := by simp at h; omega
    subst this
    simp [Lib.bitLenAux]
  | f + 1, x => by
    intro h
    rw [Nat.pow_succ] at h
    by_cases h0 : x = 0
    · subst h0; simp [Lib.bitLenAux]
    · obtain ⟨i1, i2, i3, i4⟩ := bitLenAux_bd f (x / 2) (by omega)
      have e : Lib.bitLenAux (f + 1) x = 1 + Lib.bitLenAux f (x / 2) := by simp [Lib.bitLenAux, h0]
      rw [e, Nat.pow_add, Nat.pow_one]
      refine ⟨by omega, fun _ => ?_, fun k => absurd k h0, fun _ => by omega⟩
      by_cases h1 : x / 2 = 0
      · rw [i3 h1, Nat.pow_zero]; omega
      · have := i2 h1
        omega
/-- The number of a number's bits: up to its highest 1. -/
theorem bitLen_bd (x : Nat) (h : x < 18446744073709551616) : x < 2 ^ Lib.bitLen x ∧ (x ≠ 0 → 2 ^ Lib.bitLen x ≤ 2 * x) ∧ (x = 0 → Lib.bitLen x = 0) ∧ (x ≠ 0 → 1 ≤ Lib.bitLen x) :=
  bitLenAux_bd 64 x h
theorem and_one (l : Int) (h0 : 0 ≤ l) (h1 : l < 18446744073709551616) : bits .and .u64 l 1 = l % 2 := by
  obtain ⟨l, rfl⟩ := Int.eq_ofNat_of_zero_le h0
  have h := bits_and_u64_nat l 1 (by omega) (by omega)
  rw [Nat.and_one_is_mod] at h
  exact h
end Go.Proofs.YtemgoikghaiamaaDoor.Wd
/-
  What the calls Left, Right, Bit and Len of package wide answer: a times 2^n modulo 2^128, a by 2^n down, a bit, and how many bits there are, for all words and all places.
  No condition beside that each word lies below 2^64 and each place is an int.
-/
namespace Go.Proofs.YtemgoikghaiamaaDoor.Wd
open Go.RowKit
set_option linter.unusedVariables false

theorem is_of_nat {n h l : Nat} (b2 : h < 18446744073709551616) (b4 : l < 18446744073709551616) (hv : h * 18446744073709551616 + l = n) : Is (n : Int) (h : Int) (l : Int) :=
  ⟨by omega, by omega, by omega, by omega, by omega⟩

set_option maxRecDepth 100000 in
set_option maxHeartbeats 400000 in
theorem wRightNeg (ah al n : Int) (hn : n ≤ 0) (w : World) :
    Calls Tryd.prog 77 #[.agg #[.int .u64 ah, .int .u64 al], .int .i64 n] w (U1 (fun h l => h = ah ∧ l = al) w) := by
  go_enter Tryd.func77, Tryd.ntmps77
  go_wp2
  go_returns
  exact ⟨_, _, ⟨rfl, rfl⟩, rfl, by go_grown⟩

set_option maxRecDepth 100000 in
set_option maxHeartbeats 400000 in
theorem wRightOut (ah al : Int) (n : Nat) (hn : 128 ≤ n) (w : World) :
    Calls Tryd.prog 77 #[.agg #[.int .u64 ah, .int .u64 al], .int .i64 n] w (U1 (fun h l => h = 0 ∧ l = 0) w) := by
  go_enter Tryd.func77, Tryd.ntmps77
  go_wp2
  go_returns
  exact ⟨_, _, ⟨rfl, rfl⟩, rfl, by go_grown⟩

set_option maxRecDepth 100000 in
set_option maxHeartbeats 400000 in
theorem wRightHigh (ah al n : Nat) (h1 : ah < 18446744073709551616) (h2 : al < 18446744073709551616) (hn : 64 ≤ n) (hm : n < 128) (w : World) :
    Calls Tryd.prog 77 #[.agg #[.int .u64 ah, .int .u64 al], .int .i64 n] w (U1 (fun h l => Is (((ah * 18446744073709551616 + al) / 2 ^ n : Nat) : Int) h l) w) := by
  go_enter Tryd.func77, Tryd.ntmps77
  go_wp2
  go_returns
  refine ⟨_, _, ?_, rfl, by go_grown⟩
  rw [div_shr]
  have hl : ah / 2 ^ (n - 64) ≤ ah := Nat.div_le_self _ _
  refine is_of_nat (h := 0) (by omega) (by omega) ?_
  have := right_high ah al (n - 64) h2
  rw [show 64 + (n - 64) = n from by omega] at this
  rw [← this, Nat.zero_mul, Nat.zero_add]

set_option maxRecDepth 100000 in
set_option maxHeartbeats 400000 in
theorem wRightLow (ah al n : Nat) (h1 : ah < 18446744073709551616) (h2 : al < 18446744073709551616) (hn : 0 < n) (hm : n < 64) (w : World) :
    Calls Tryd.prog 77 #[.agg #[.int .u64 ah, .int .u64 al], .int .i64 n] w (U1 (fun h l => Is (((ah * 18446744073709551616 + al) / 2 ^ n : Nat) : Int) h l) w) := by
  go_enter Tryd.func77, Tryd.ntmps77
  go_wp2
  go_region
  go_wp2
  go_returns
  refine ⟨_, _, ?_, rfl, by go_grown⟩
  obtain ⟨e1, e2, e3⟩ := right_low ah al n (by omega) h1 h2
  rw [e1, div_shr]
  have hl : ah / 2 ^ n ≤ ah := Nat.div_le_self _ _
  exact is_of_nat (by omega) e2 e3

theorem wRight (ah al n : Int) (a1 : 0 ≤ ah) (a2 : ah < 18446744073709551616) (a3 : 0 ≤ al) (a4 : al < 18446744073709551616) (w : World) :
    Calls Tryd.prog 77 #[.agg #[.int .u64 ah, .int .u64 al], .int .i64 n] w
      (U1 (fun h l => Is ((ah * 18446744073709551616 + al) / 2 ^ n.toNat) h l) w) := by
  by_cases hn : n ≤ 0
  · refine (wRightNeg ah al n hn w).mono ?_
    rintro e w' ⟨h, l, ⟨rfl, rfl⟩, rfl, hb⟩
    rw [show n.toNat = 0 from by omega]
    exact ⟨_, _, ⟨a1, a2, a3, a4, by omega⟩, rfl, hb⟩
  · obtain ⟨ah, rfl⟩ := Int.eq_ofNat_of_zero_le a1
    obtain ⟨al, rfl⟩ := Int.eq_ofNat_of_zero_le a3
    obtain ⟨n, rfl⟩ := Int.eq_ofNat_of_zero_le (show 0 ≤ n from by omega)
    have e : (((ah : Int) * 18446744073709551616 + al) / 2 ^ ((n : Int).toNat)) = (((ah * 18446744073709551616 + al) / 2 ^ n : Nat) : Int) := by
      rw [Int.natCast_ediv, Int.natCast_pow, Int.natCast_add, Int.natCast_mul, Int.toNat_natCast]; rfl
    rw [e]
    by_cases h1 : n < 64
    · exact wRightLow ah al n (by omega) (by omega) (by omega) h1 w
    · by_cases h2 : n < 128
      · exact wRightHigh ah al n (by omega) (by omega) (by omega) h2 w
      · refine (wRightOut ah al n (by omega) w).mono ?_
        rintro e w' ⟨h, l, ⟨rfl, rfl⟩, rfl, hb⟩
        rw [right_out _ n (by omega) (by omega)]
        exact ⟨_, _, ⟨by omega, by omega, by omega, by omega, by omega⟩, rfl, hb⟩

/-- A bit of a number. -/
def bitOf (v n : Int) : Int := if n < 0 then 0 else v / 2 ^ n.toNat % 2

set_option maxRecDepth 100000 in
set_option maxHeartbeats 400000 in
theorem wBit (ah al n : Int) (a1 : 0 ≤ ah) (a2 : ah < 18446744073709551616) (a3 : 0 ≤ al) (a4 : al < 18446744073709551616) (w : World) :
    Calls Tryd.prog 75 #[.agg #[.int .u64 ah, .int .u64 al], .int .i64 n] w
      (I1 (fun r => r = bitOf (ah * 18446744073709551616 + al) n) w) := by
  by_cases hn : n < 0
  · have E := Lib.hid (show 0 = bitOf (ah * 18446744073709551616 + al) n from by rw [bitOf, if_pos hn])
    go_enter Tryd.func75, Tryd.ntmps75
    go_wp2
    go_returns
    exact ⟨_, E.out, rfl, by go_grown⟩
  · have E := Lib.hid (show (ah * 18446744073709551616 + al) / 2 ^ n.toNat % 2 = bitOf (ah * 18446744073709551616 + al) n from by rw [bitOf, if_neg hn])
    go_enter Tryd.func75, Tryd.ntmps75
    go_wp2_with fail
    refine (wRight _ _ _ a1 a2 a3 a4 _).mono ?_
    rintro e w' ⟨h, l, ⟨c1, c2, c3, c4, hv⟩, rfl, hb⟩
    have hb0 : Below w.heap.size w w' := below_then (by go_grown) hb
    have e1 := and_one l c3 c4
    have fld : ∀ w0 : World, (Instr.field 26 (.agg #[.int .u64 h, .int .u64 l]) 1).run Tryd.prog w0 = .ok (.int .u64 l) w0 := fun _ => by kernel_rfl
    have HV := Lib.hid hv
    clear hv
    go_wp2
    go_returns
    refine ⟨_, ?_, rfl, hb0⟩
    have hv := HV.out
    rw [← E.out, ← hv]
    omega
end Go.Proofs.YtemgoikghaiamaaDoor.Wd
/-
  What the call addUp of package gfdiv does: a times a power of x is added to a list, on the spot.
-/
namespace Go.Proofs.YtemgoikghaiamaaDoor
open Go.RowKit G
set_option linter.unusedVariables false

/-- The cells of a list of words. -/
def words (ps : List Nat) : List Value := ps.map fun x : Nat => Value.int .u64 (x : Int)
theorem words_length (ps : List Nat) : (words ps).length = ps.length := List.length_map _
/-- A list of the call's own that holds these words. -/
structure Row (base g cap : Nat) (ps : List Nat) (w : World) : Prop where
  own : w.ownsRow base 22 1 (.slice (some ⟨g, 0, none⟩) ps.length cap) ps.length (words ps)
  wds : Wds ps
theorem Row.set {base g cap : Nat} {ps : List Nat} {w : World} (h : Row base g cap ps w) (k v : Nat) (hv : v < 18446744073709551616) : Row base g cap (ps.set k v) (w.setCell ⟨g, k, none⟩ (.int .u64 (v : Int))) := by
  obtain ⟨a, b⟩ := h.own.stored k (.int .u64 (v : Int))
  refine ⟨?_, h.wds.set k v hv⟩
  rw [words, List.map_set, List.length_set]; exact a
theorem Row.cell {base g cap : Nat} {ps : List Nat} {w : World} (h : Row base g cap ps w) (k : Nat) (hk : k < ps.length) : w.cell? ⟨g, k, none⟩ = some (.int .u64 ((ps.getD k 0 : Nat) : Int)) ∧ w.frozen? ⟨g, k, none⟩ = false := by
  refine ⟨?_, h.own.frozenAt k⟩
  rw [h.own.cellAt k (by omega)]
  simp [words, List.getElem?_eq_getElem hk]
theorem Row.drew {base g cap : Nat} {ps : List Nat} {w : World} (h : Row base g cap ps w) : Row base g cap ps w.drew := ⟨h.own, h.wds⟩
theorem Row.pol {base g cap : Nat} {ps : List Nat} {w : World} (h : Row base g cap ps w) : Pol w (some ⟨g, 0, none⟩) cap ps := by
  obtain ⟨A, c, e, P⟩ := Pol.of_owns h.wds h.own
  simp only [Value.slice.injEq, true_and] at e
  obtain ⟨rfl, rfl⟩ := e
  exact P
theorem Row.lt {base g cap : Nat} {ps : List Nat} {w : World} (h : Row base g cap ps w) : base ≤ g ∧ g < w.heap.size := h.own.lt g rfl
theorem Row.below {base g cap : Nat} {ps : List Nat} {w w' : World} (h : Row base g cap ps w) (hb : Below w.heap.size w w') : Row base g cap ps w' := by
  refine ⟨⟨h.own.1, ?_⟩, h.wds⟩
  rcases h.own.2 with h2 | ⟨g', cap', cur, hv, hg, hh, r⟩
  · exact .inl h2
  · exact .inr ⟨g', cap', cur, hv, hg, (hb.block g' (Array.getElem?_eq_some_iff.1 hh).1).trans hh, r⟩
theorem Row.kept {base g cap g' : Nat} {ps : List Nat} {w w' : World} (h : Row base g cap ps w) (hg : w.grownBy w' (some g')) (hne : g ≠ g') : Row base g cap ps w' :=
  ⟨h.own.kept hg (.inr (by simpa [Value.ownBlock] using hne)), h.wds⟩
theorem grown_refl (w : World) (r : Option Nat) : w.grownBy w r := ⟨rfl, rfl, rfl, Nat.le_refl _, fun _ _ _ => rfl⟩
theorem grown_trans {a b c : World} {r : Option Nat} (h : a.grownBy b r) (k : b.grownBy c r) : a.grownBy c r :=
  ⟨k.os.trans h.os, k.tape.trans h.tape, k.output.trans h.output, Nat.le_trans h.size k.size, fun i hi hn => (k.block i (Nat.lt_of_lt_of_le hi h.size) hn).trans (h.block i hi hn)⟩
theorem grown_set {a w : World} {g : Nat} (h : a.grownBy w (some g)) (k : Nat) (u : Value) : a.grownBy (w.setCell ⟨g, k, none⟩ u) (some g) :=
  ⟨h.os, h.tape, h.output, by simpa [World.setCell] using h.size, fun i hi hn => (Below.heap_setCell w ⟨g, k, none⟩ u i (fun e => hn (by rw [e]))).trans (h.block i hi hn)⟩
theorem grown_drew {a w : World} {r : Option Nat} (h : a.grownBy w r) : a.grownBy w.drew r := ⟨h.os, h.tape, h.output, h.size, h.block⟩
theorem Pol.grown {w w' : World} {A : Option Addr} {cap g : Nat} {xs : List Nat} (h : Pol w A cap xs) (hg : w.grownBy w' (some g)) (hne : ∀ ad, A = some ad → ad.block ≠ g) : Pol w' A cap xs :=
  ⟨h.word, h.cap1, h.cap2, fun i hi => by
    obtain ⟨b, o, e, hc⟩ := h.cell i hi
    refine ⟨b, o, e, hg.cell hc ?_⟩
    intro q
    exact hne _ e (by simpa using q)⟩
theorem xor_turn (a b c : Nat) : a ^^^ b ^^^ c = a ^^^ (c ^^^ b) := by rw [Nat.xor_assoc, Nat.xor_comm b c]
/-- What of a word goes up by s bits, and what goes over. -/
theorem up_two (ps ys : List Nat) (n q s k : Nat) (hn : n = 64 * q + s) (hs : s < 64) (hp : Wds ps) (hy : Wds ys) (h1 : q + k < ps.length) (h2 : ys.getD k 0 / 2 ^ (64 - s) ≠ 0 → q + k + 1 < ps.length) (Z : Nat) (hz : leN ps = Z ^^^ leN (ys.take k) * 2 ^ n) :
    (ys.getD k 0 / 2 ^ (64 - s) = 0 → leN (ps.set (q + k) (ps.getD (q + k) 0 ^^^ ys.getD k 0 * 2 ^ s % 18446744073709551616)) = Z ^^^ leN (ys.take (k + 1)) * 2 ^ n) ∧
    (ys.getD k 0 / 2 ^ (64 - s) ≠ 0 → leN ((ps.set (q + k) (ps.getD (q + k) 0 ^^^ ys.getD k 0 * 2 ^ s % 18446744073709551616)).set (q + k + 1) ((ps.set (q + k) (ps.getD (q + k) 0 ^^^ ys.getD k 0 * 2 ^ s % 18446744073709551616)).getD (q + k + 1) 0 ^^^ ys.getD k 0 / 2 ^ (64 - s))) = Z ^^^ leN (ys.take (k + 1)) * 2 ^ n) := by
  have l1 : ys.getD k 0 * 2 ^ s % 18446744073709551616 < 18446744073709551616 := Nat.mod_lt _ (by decide)
  have l2 : ys.getD k 0 / 2 ^ (64 - s) < 18446744073709551616 := Nat.lt_of_le_of_lt (Nat.div_le_self _ _) (hy.get k)
  have e1 := leN_set_xor ps (q + k) _ hp h1 l1
  have dv : ys.getD k 0 * 2 ^ s / 18446744073709551616 = ys.getD k 0 / 2 ^ (64 - s) := div_shift _ s 64 (by omega)
  have two := two_words (ys.getD k 0 * 2 ^ s) (q + k)
  rw [dv] at two
  have goal : Z ^^^ leN (ys.take (k + 1)) * 2 ^ n = leN ps ^^^ (ys.getD k 0 * 2 ^ s) * 2 ^ (64 * (q + k)) := by
    rw [hz, leN_take_succ ys k hy, xor_shift, ← Nat.xor_assoc]
    congr 1
    rw [Nat.mul_assoc, Nat.mul_assoc, ← Nat.pow_add, ← Nat.pow_add]
    congr 2
    omega
  constructor
  · intro z
    rw [z, Nat.zero_mul, Nat.zero_xor] at two
    rw [e1, goal, two]
  · intro nz
    rw [leN_set_xor _ (q + k + 1) _ (hp.set _ _ (word_xor (hp.get _) l1)) (by rw [List.length_set]; exact h2 nz) l2, e1, goal, ← two]
    exact xor_turn _ _ _

set_option maxRecDepth 100000 in
set_option maxHeartbeats 2000000 in
theorem addUpWalk (base g cap L K cb n q s Z : Nat) (B : Option Addr) (ps ys : List Nat) (hL : Hid (ps.length = L)) (hK : Hid (ys.length = K)) (hn : Hid (n = 64 * q + s)) (hs : s < 64) (bL : L ≤ 100000) (bK : K ≤ 100000) (bn : n ≤ 6400000)
    (c1 : K + q ≤ L) (c2 : Hid (∀ i, i < K → ys.getD i 0 / 2 ^ (64 - s) ≠ 0 → q + i + 1 < L)) (w : World) (R : Hid (Row base g cap ps w)) (P : Hid (Pol w B cb ys)) (ne : Hid (∀ ad, B = some ad → ad.block ≠ g)) (hZ : Hid (leN ps = Z)) :
    Calls Tryd.prog 59 #[.slice (some ⟨g, 0, none⟩) L cap, .slice B K cb, .int .i64 (n : Int)] w (fun e w' => ∃ ps', e = .returned (.tuple #[]) ∧ ps'.length = L ∧ leN ps' = Z ^^^ leN ys * 2 ^ n ∧ Row base g cap ps' w' ∧ w.grownBy w' (some g)) := by
  have q1 : (n : Int) / 64 = (q : Int) := by have := hn.out; omega
  have q2 : (n : Int) % 64 = (s : Int) := by have := hn.out; omega
  have q3 : q ≤ 100000 := by omega
  go_enter Tryd.func59, Tryd.ntmps59
  go_wp2
  rw [q2]
  clear q1 q2 q3
  go_loopg [17] K (fun gk i wr => ∃ (k : Nat) (ps' : List Nat), k + gk = K ∧ i = .int .i64 k ∧ Hid (ps'.length = L ∧ leN ps' = Z ^^^ leN (ys.take k) * 2 ^ n) ∧ Hid (Row base g cap ps' wr) ∧ Hid (w.grownBy wr (some g)))
  case atStart => exact ⟨0, ps, by omega, rfl, Lib.hid ⟨hL.out, by rw [hZ.out, List.take_zero]; show _ = _ ^^^ 0 * 2 ^ n; rw [Nat.zero_mul, Nat.xor_zero]⟩, R, Lib.hid (grown_refl _ _)⟩
  case round =>
    obtain ⟨k, ps', hk, rfl, hp, R', G⟩ := hrel
    by_cases hlt : k < K
    · have kl : (k : Int) < (K : Int) := by omega
      have k0 : (0 : Int) ≤ (k : Int) := by omega
      obtain ⟨t, ht⟩ : ∃ t, t = q + k := ⟨_, rfl⟩
      have r1 : (q : Int) + (k : Int) = (t : Int) := by omega
      have r4 : (t : Int) < (L : Int) := by omega
      have r5 : (0 : Int) ≤ (t : Int) := by omega
      have P' := P.out.grown G.out ne.out
      obtain ⟨b, o, rfl, hc⟩ := P'.cell k (by rw [hK.out]; exact hlt)
      have hx := P.out.word.get k
      obtain ⟨d1, d2⟩ := R'.out.cell t (by rw [hp.out.1]; omega)
      have hw := up_two ps' ys n q s k hn.out hs R'.out.wds P.out.word (by rw [hp.out.1]; omega) (fun z => by rw [hp.out.1]; exact c2.out k hlt z) Z hp.out.2
      rw [← ht] at hw
      have l1 : ys.getD k 0 * 2 ^ s % 18446744073709551616 < 18446744073709551616 := Nat.mod_lt _ (by decide)
      have X1 := xor_int _ _ (R'.out.wds.get t) l1
      have R1 := Lib.hid (R'.out.set t (ps'.getD t 0 ^^^ ys.getD k 0 * 2 ^ s % 18446744073709551616) (word_xor (R'.out.wds.get t) l1))
      have G1 := Lib.hid (grown_set G.out t (.int .u64 ((ps'.getD t 0 ^^^ ys.getD k 0 * 2 ^ s % 18446744073709551616 : Nat) : Int)))
      by_cases hz : ys.getD k 0 / 2 ^ (64 - s) = 0
      · have H1 := Lib.hid (show (ps'.set t (ps'.getD t 0 ^^^ ys.getD k 0 * 2 ^ s % 18446744073709551616)).length = L ∧ _ from ⟨by rw [List.length_set]; exact hp.out.1, hw.1 hz⟩)
        generalize ps'.set t (ps'.getD t 0 ^^^ ys.getD k 0 * 2 ^ s % 18446744073709551616) = ps2 at R1 H1
        have t1 : ((ys.getD k 0 : Nat) : Int) / 2 ^ (64 - s) = 0 := by rw [div_int, hz]; rfl
        have t2 : IntKind.u64.wrap (((ys.getD k 0 : Nat) : Int) * 2 ^ s) = ((ys.getD k 0 * 2 ^ s % 18446744073709551616 : Nat) : Int) := by rw [mul_int, wrap_nat]
        clear hw l1 P' hz
        generalize ys.getD k 0 * 2 ^ s % 18446744073709551616 = l at X1 R1 G1 t2
        generalize ys.getD k 0 = x at hc hx t1 t2
        generalize ps'.getD t 0 = p at d1 X1 R1 G1
        generalize p ^^^ l = z at X1 R1 G1
        clear ht
        go_wp2
        go_region
        all_goals go_ways
        all_goals (go_wp2)
        go_roundg (gk - 1)
        case measure => omega
        case rel => exact ⟨k + 1, ps2, by omega, by go_num, H1, Lib.hid R1.out.drew, Lib.hid (grown_drew G1.out)⟩
      · obtain ⟨u, hu⟩ : ∃ u, u = t + 1 := ⟨_, rfl⟩
        have uL : u < L := by have := c2.out k hlt hz; omega
        rw [← hu] at hw
        have l2 : ys.getD k 0 / 2 ^ (64 - s) < 18446744073709551616 := Nat.lt_of_le_of_lt (Nat.div_le_self _ _) hx
        have H1 := Lib.hid (show ((ps'.set t (ps'.getD t 0 ^^^ ys.getD k 0 * 2 ^ s % 18446744073709551616)).set u ((ps'.set t (ps'.getD t 0 ^^^ ys.getD k 0 * 2 ^ s % 18446744073709551616)).getD u 0 ^^^ ys.getD k 0 / 2 ^ (64 - s))).length = L ∧ _ from ⟨by rw [List.length_set, List.length_set]; exact hp.out.1, hw.2 hz⟩)
        have hl2 : (ps'.set t (ps'.getD t 0 ^^^ ys.getD k 0 * 2 ^ s % 18446744073709551616)).length = L := by rw [List.length_set]; exact hp.out.1
        generalize ps'.set t (ps'.getD t 0 ^^^ ys.getD k 0 * 2 ^ s % 18446744073709551616) = ps2 at R1 H1 hl2
        obtain ⟨d3, d4⟩ := R1.out.cell u (by rw [hl2]; exact uL)
        have X2 := xor_int _ _ (R1.out.wds.get u) l2
        have R2 := Lib.hid (R1.out.set u (ps2.getD u 0 ^^^ ys.getD k 0 / 2 ^ (64 - s)) (word_xor (R1.out.wds.get u) l2))
        have G2 := Lib.hid (grown_set G1.out u (.int .u64 ((ps2.getD u 0 ^^^ ys.getD k 0 / 2 ^ (64 - s) : Nat) : Int)))
        have t2 : IntKind.u64.wrap (((ys.getD k 0 : Nat) : Int) * 2 ^ s) = ((ys.getD k 0 * 2 ^ s % 18446744073709551616 : Nat) : Int) := by rw [mul_int, wrap_nat]
        have t3 : ((ys.getD k 0 : Nat) : Int) / 2 ^ (64 - s) = ((ys.getD k 0 / 2 ^ (64 - s) : Nat) : Int) := div_int _ _
        clear hw l1 P'
        generalize ps2.set u (ps2.getD u 0 ^^^ ys.getD k 0 / 2 ^ (64 - s)) = ps3 at R2 H1
        generalize ys.getD k 0 * 2 ^ s % 18446744073709551616 = l at X1 R1 G1 t2 d3 d4 R2 G2
        generalize ys.getD k 0 / 2 ^ (64 - s) = h at X2 hz l2 R2 G2 t3
        generalize ys.getD k 0 = x at hc hx t2 t3
        generalize ps'.getD t 0 = p at d1 X1 R1 G1 d3 d4 R2 G2
        generalize p ^^^ l = z at X1 R1 G1 d3 d4 R2 G2
        generalize ps2.getD u 0 = p2 at d3 X2 R2 G2
        generalize p2 ^^^ h = z2 at X2 R2 G2
        have z1 : (h != 0) = true := by simpa using hz
        have z2' : ((h : Int) != 0) = true := by simp; omega
        have z3 : (h == 0) = false := by simpa using hz
        have z4 : ((h : Int) == 0) = false := by simp; omega
        have r2 : (t : Int) + 1 = (u : Int) := by omega
        have r6 : (u : Int) < (L : Int) := by omega
        have r7 : (0 : Int) ≤ (u : Int) := by omega
        clear ht hu hz
        go_wp2
        go_region
        go_wp2
        go_roundg (gk - 1)
        case measure => omega
        case rel => exact ⟨k + 1, ps3, by omega, by go_num, H1, Lib.hid R2.out.drew, Lib.hid (grown_drew G2.out)⟩
    · obtain rfl : k = K := by omega
      have kl : ¬ ((k : Int) < (k : Int)) := by omega
      have E := Lib.hid (show leN ps' = Z ^^^ leN ys * 2 ^ n from by
        have := hp.out.2
        rw [← hK.out, List.take_length] at this
        exact this)
      go_wp2
      go_end0
      exact ⟨rfl, ps', hp.out.1, E.out, R'.out, G.out⟩
end Go.Proofs.YtemgoikghaiamaaDoor
/-
  What the call Own of package gfp answers, once more: a list that may be written. What the closure of Div does: two lists are changed.
-/
namespace Go.Proofs.YtemgoikghaiamaaDoor
open Go.RowKit G
set_option linter.unusedVariables false

/-- An answer that is a polynomial in its own form, in a list of its own that may be written. -/
def AnsR (N : Nat) (w : World) (e : Ending) (w' : World) : Prop :=
  ∃ (A : Option Addr) (cap : Nat), e = .returned (.slice A (wordsOf N).length cap) ∧ w'.ownsRow w.heap.size 22 1 (.slice A (wordsOf N).length cap) (wordsOf N).length (words (wordsOf N)) ∧ Below w.heap.size w w'
theorem ownsRow_shape {w : World} {base n : Nat} {e : TypeId} {v : Value} {xs : List Value} (h : w.ownsRow base e 1 v n xs) : ∃ A cap, v = .slice A n cap := by
  rcases h.2 with ⟨rfl, rfl⟩ | ⟨g, cap, cur, rfl, _⟩
  · exact ⟨_, _, rfl⟩
  · exact ⟨_, _, rfl⟩
theorem ownsRow_mono {w : World} {base base' n : Nat} {e : TypeId} {v : Value} {xs : List Value} (h : w.ownsRow base e 1 v n xs) (hb : base' ≤ base) : w.ownsRow base' e 1 v n xs := by
  refine ⟨h.1, ?_⟩
  rcases h.2 with h2 | ⟨g, cap, cur, hv, hg, r⟩
  · exact .inl h2
  · exact .inr ⟨g, cap, cur, hv, Nat.le_trans hb hg, r⟩
theorem ownsRow_below {w w' : World} {base n : Nat} {e : TypeId} {v : Value} {xs : List Value} (h : w.ownsRow base e 1 v n xs) (hb : Below w.heap.size w w') : w'.ownsRow base e 1 v n xs := by
  refine ⟨h.1, ?_⟩
  rcases h.2 with h2 | ⟨g, cap, cur, hv, hg, hh, r⟩
  · exact .inl h2
  · exact .inr ⟨g, cap, cur, hv, hg, (hb.block g (Array.getElem?_eq_some_iff.1 hh).1).trans hh, r⟩
theorem gOwnR {A : Option Addr} {L ca : Nat} {xs : List Nat} {w : World} (N : Nat) (P : Pol w A ca xs) (hL : xs.length = L) (hN : leN xs = N) (hl : L ≤ 50000) : Calls Tryd.prog 44 #[.slice A L ca] w (AnsR N w) := by
  subst hL
  obtain ⟨e1, e2⟩ := own_take xs N P.word hN
  have hs := cSize A ca xs N hN w P
  cases A with
  | some a =>
    refine (ownSome a ca xs (wordsOf N) (sz N) xs.length rfl e2 (by omega) (Lib.hid e1) (Lib.hid rfl) w P hs).mono ?_
    rintro e w' ⟨v, rfl, own, hb⟩
    obtain ⟨A, c, rfl⟩ := ownsRow_shape own
    exact ⟨A, c, rfl, own, hb⟩
  | none =>
    have e0 : xs = [] := by
      cases xs with
      | nil => rfl
      | cons x r => obtain ⟨b, o, e, _⟩ := P.cell 0 (by simp); cases e
    subst e0
    obtain rfl : 0 = N := hN
    rw [sz_zero] at hs
    refine (ownNone ca P.cap2 w hs).mono ?_
    rintro e w' ⟨rfl, rfl⟩
    refine ⟨none, 0, by rw [wordsOf_zero]; rfl, ?_, Below.refl _ _⟩
    rw [wordsOf_zero]
    exact World.ownsRow_nil _ _ _ _
/-- A variable that is caught: a block of one cell. -/
def Box (w : World) (b : Nat) (t : TypeId) (v : Value) : Prop := w.heap[b]? = some (.cells #[v] t (0, 0))
theorem Box.cell {w : World} {b : Nat} {t : TypeId} {v : Value} (h : Box w b t v) : w.cell? ⟨b, 0, none⟩ = some v := by
  unfold Box at h; simp [World.cell?, h]
theorem Box.free {w : World} {b : Nat} {t : TypeId} {v : Value} (h : Box w b t v) : w.frozen? ⟨b, 0, none⟩ = false := by
  unfold Box at h; simp [World.frozen?, h]
theorem Box.lt {w : World} {b : Nat} {t : TypeId} {v : Value} (h : Box w b t v) : b < w.heap.size := (Array.getElem?_eq_some_iff.1 h).1
theorem Box.below {w w' : World} {b : Nat} {t : TypeId} {v : Value} (h : Box w b t v) (hb : Below w.heap.size w w') : Box w' b t v := (hb.block b h.lt).trans h
theorem Box.grown {w w' : World} {b g : Nat} {t : TypeId} {v : Value} (h : Box w b t v) (hg : w.grownBy w' (some g)) (hne : b ≠ g) : Box w' b t v := (hg.block b h.lt (by simpa using hne)).trans h
theorem Box.far {w : World} {b : Nat} {t : TypeId} {v : Value} (h : Box w b t v) {p : Addr} (hne : b ≠ p.block) (u : Value) : Box (w.setCell p u) b t v := (Below.heap_setCell w p u b hne).trans h
theorem Box.drew {w : World} {b : Nat} {t : TypeId} {v : Value} (h : Box w b t v) : Box w.drew b t v := h
theorem Row.block {base g cap : Nat} {ps : List Nat} {w : World} (h : Row base g cap ps w) : ∃ cur, w.heap[g]? = some (.cells cur 22 (0, 0)) := by
  rcases h.own.2 with ⟨e, _⟩ | ⟨g', cap', cur, e, _, hh, _⟩
  · cases e
  · simp only [Value.slice.injEq, Option.some.injEq, Addr.mk.injEq, and_true, true_and] at e
    obtain ⟨rfl, rfl⟩ := e
    exact ⟨cur, hh⟩
theorem Row.ne_box {base g cap b : Nat} {ps : List Nat} {w : World} {v : Value} (h : Row base g cap ps w) (hb : Box w b 28 v) : b ≠ g := by
  rintro rfl
  obtain ⟨cur, e⟩ := h.block
  unfold Box at hb
  rw [e] at hb
  simp at hb
/-- The state of a division: the rest so far, the parting one, the quotient so far. -/
structure DivSt (base Rb Yb Qb g cap L h : Nat) (B : Option Addr) (cb K : Nat) (ps qs ys : List Nat) (w : World) : Prop where
  bR : Box w Rb 28 (.slice (some ⟨g, 0, none⟩) L cap)
  bY : Box w Yb 28 (.slice B K cb)
  bQ : Box w Qb 28 (.slice (some ⟨h, 0, none⟩) L L)
  row : Row base g cap ps w
  quo : Row base h L qs w
  by_ : Pol w B cb ys
  lp : ps.length = L
  lq : qs.length = L
  lk : ys.length = K
  ne1 : g ≠ h
  ne2 : ∀ ad, B = some ad → ad.block ≠ g ∧ ad.block ≠ h
theorem DivSt.drew {base Rb Yb Qb g cap L h : Nat} {B : Option Addr} {cb K : Nat} {ps qs ys : List Nat} {w : World} (S : DivSt base Rb Yb Qb g cap L h B cb K ps qs ys w) : DivSt base Rb Yb Qb g cap L h B cb K ps qs ys w.drew :=
  ⟨S.bR, S.bY, S.bQ, S.row.drew, S.quo.drew, ⟨S.by_.word, S.by_.cap1, S.by_.cap2, S.by_.cell⟩, S.lp, S.lq, S.lk, S.ne1, S.ne2⟩
/-- The rest turns. -/
theorem DivSt.rest {base Rb Yb Qb g cap L h : Nat} {B : Option Addr} {cb K : Nat} {ps qs ys ps' : List Nat} {w w' : World} (S : DivSt base Rb Yb Qb g cap L h B cb K ps qs ys w) (R : Row base g cap ps' w') (hl : ps'.length = L) (G : w.grownBy w' (some g)) :
    DivSt base Rb Yb Qb g cap L h B cb K ps' qs ys w' :=
  ⟨S.bR.grown G (S.row.ne_box S.bR), S.bY.grown G (S.row.ne_box S.bY), S.bQ.grown G (S.row.ne_box S.bQ), R, S.quo.kept G (fun e => S.ne1 e.symm), S.by_.grown G (fun ad e => (S.ne2 ad e).1), hl, S.lq, S.lk, S.ne1, S.ne2⟩
/-- The quotient turns. -/
theorem DivSt.part {base Rb Yb Qb g cap L h : Nat} {B : Option Addr} {cb K : Nat} {ps qs ys : List Nat} {w : World} (S : DivSt base Rb Yb Qb g cap L h B cb K ps qs ys w) (k v : Nat) (hv : v < 18446744073709551616) :
    DivSt base Rb Yb Qb g cap L h B cb K ps (qs.set k v) ys (w.setCell ⟨h, k, none⟩ (.int .u64 (v : Int))) := by
  have G := grown_set (grown_refl w (some h)) k (.int .u64 (v : Int))
  exact ⟨S.bR.grown G (S.quo.ne_box S.bR), S.bY.grown G (S.quo.ne_box S.bY), S.bQ.grown G (S.quo.ne_box S.bQ), S.row.kept G S.ne1, S.quo.set k v hv, S.by_.grown G (fun ad e => (S.ne2 ad e).2), S.lp, by rw [List.length_set]; exact S.lq, S.lk, S.ne1, S.ne2⟩
theorem or_xor {x s : Nat} (h : x.testBit s = false) : x ||| 2 ^ s = x ^^^ 2 ^ s := by
  refine Nat.eq_of_testBit_eq (fun i => ?_)
  rw [Nat.testBit_or, Nat.testBit_xor]
  by_cases e : i = s
  · subst e; rw [h]; simp
  · rw [Nat.testBit_two_pow_of_ne (fun k => e k.symm)]; simp
theorem low_xor {N n i : Nat} (h : ∀ i, i ≤ n → N.testBit i = false) (hi : i < n) : (N ^^^ 2 ^ n).testBit i = false := by
  rw [Nat.testBit_xor, h i (by omega), Nat.testBit_two_pow_of_ne (by omega)]; rfl
theorem pow_mul_lt (s : Nat) (hs : s < 64) : 2 ^ s < 18446744073709551616 := by
  rw [show (18446744073709551616 : Nat) = 2 ^ 64 from rfl]; exact Nat.pow_lt_pow_right (by decide) hs

/-- What the closure leaves. -/
def TakeP (base Rb Yb Qb g cap L h : Nat) (B : Option Addr) (cb K : Nat) (ps qs ys : List Nat) (n : Nat) (w : World) (e : Ending) (w' : World) : Prop :=
  e = .returned (.tuple #[]) ∧ ∃ ps' qs', DivSt base Rb Yb Qb g cap L h B cb K ps' qs' ys w' ∧ leN ps' = leN ps ^^^ leN ys * 2 ^ n ∧ leN qs' = leN qs ^^^ 2 ^ n ∧ Below base w w'
set_option maxRecDepth 100000 in
set_option maxHeartbeats 2000000 in
theorem takeWalk (base Rb Yb Qb g cap L h cb K n q s : Nat) (B : Option Addr) (ps qs ys : List Nat) (hn : Hid (n = 64 * q + s)) (hs : s < 64) (bL : L ≤ 100000) (bK : K ≤ 100000) (bn : n ≤ 6400000)
    (c1 : K + q ≤ L) (c2 : Hid (∀ i, i < K → ys.getD i 0 / 2 ^ (64 - s) ≠ 0 → q + i + 1 < L)) (hq : q < L) (low : Hid ((leN qs).testBit n = false)) (w : World) (hbase : base ≤ w.heap.size)
    (S : Hid (DivSt base Rb Yb Qb g cap L h B cb K ps qs ys w)) :
    Calls Tryd.prog 58 #[.int .i64 (n : Int), .pointer (some ⟨Rb, 0, none⟩), .pointer (some ⟨Yb, 0, none⟩), .pointer (some ⟨Qb, 0, none⟩)] w (TakeP base Rb Yb Qb g cap L h B cb K ps qs ys n w) := by
  have q1 : (n : Int) / 64 = (q : Int) := by have := hn.out; omega
  have q2 : (n : Int) % 64 = (s : Int) := by have := hn.out; omega
  have q3 : (q : Int) < (L : Int) := by omega
  have q4 : (0 : Int) ≤ (q : Int) := by omega
  have e1 := S.out.bR.cell
  have e2 := S.out.bY.cell
  have C := Lib.hid (addUpWalk base g cap L K cb n q s (leN ps) B ps ys (Lib.hid S.out.lp) (Lib.hid S.out.lk) hn hs bL bK bn c1 c2 w (Lib.hid S.out.row) (Lib.hid S.out.by_) (Lib.hid fun ad e => (S.out.ne2 ad e).1) (Lib.hid rfl))
  go_enter Tryd.func58, Tryd.ntmps58
  go_wp2_with (go_at_call 59; ((with_reducible refine (C.out).mono ?_); rintro e w1 ⟨ps', rfl, lp, hv, R, G⟩))
  have S1 := Lib.hid (S.out.rest R lp G)
  have HG := Lib.hid G
  have HV := Lib.hid hv
  clear G hv R lp e1 e2 C
  have e3 := S1.out.bQ.cell
  obtain ⟨d1, d2⟩ := S1.out.quo.cell q (by rw [S1.out.lq]; exact hq)
  have hw := S1.out.quo.wds.get q
  have hp := pow_mul_lt s hs
  have ho : (qs.getD q 0).testBit s = false := by
    have := bit_leN qs n S1.out.quo.wds
    rw [low.out, show n / 64 = q from by have := hn.out; omega, show n % 64 = s from by have := hn.out; omega] at this
    exact this.symm
  have X : bits .or .u64 ((qs.getD q 0 : Nat) : Int) ((2 ^ s : Nat) : Int) = ((qs.getD q 0 ^^^ 2 ^ s : Nat) : Int) := by
    rw [← or_xor ho]; exact u64_or_nat _ _ hw hp
  have S2 := Lib.hid (S1.out.part q (qs.getD q 0 ^^^ 2 ^ s) (word_xor hw hp))
  have V2 := Lib.hid (show leN (qs.set q (qs.getD q 0 ^^^ 2 ^ s)) = leN qs ^^^ 2 ^ n from by
    rw [leN_set_xor qs q (2 ^ s) S1.out.quo.wds (by rw [S1.out.lq]; exact hq) hp, ← Nat.pow_add, show s + 64 * q = n from by have := hn.out; omega])
  generalize qs.set q (qs.getD q 0 ^^^ 2 ^ s) = qs' at S2 V2
  clear ho hw
  have gh := S1.out.row.lt
  have hh := S1.out.quo.lt
  have t1 : IntKind.u64.wrap ((2 : Int) ^ s) = ((2 ^ s : Nat) : Int) := by
    rw [show (2 : Int) ^ s = ((2 ^ s : Nat) : Int) from by rw [Int.natCast_pow]; rfl, wrap_nat, Nat.mod_eq_of_lt hp]
  generalize qs.getD q 0 = x at d1 X S2
  generalize hz : x ^^^ 2 ^ s = z at X S2
  clear hz
  generalize hm : (2 ^ s : Nat) = m at X t1 hp
  clear hm
  go_region
  go_wp2
  go_end0
  refine ⟨rfl, ps', qs', S2.out.drew, HV.out, V2.out, ?_⟩
  exact (((Below.refl base w).grown HG.out hbase (fun k e => by obtain rfl : g = k := by simpa using e
                                                                exact gh.1)).setCell hh.1 _).drew
end Go.Proofs.YtemgoikghaiamaaDoor
/-
  What the calls Div and Mod of package gfdiv answer, for all lists of words (of up to 50000).
-/
namespace Go.Proofs.YtemgoikghaiamaaDoor
open Go.RowKit G
set_option linter.unusedVariables false

/-- An answer that is a quotient and a rest, each in its own form, in a list of its own. -/
def Ans2 (M N : Nat) (w : World) (e : Ending) (w' : World) : Prop :=
  ∃ (A B : Option Addr) (ca cb : Nat), e = .returned (.tuple #[.slice A (wordsOf M).length ca, .slice B (wordsOf N).length cb, .int .i64 0]) ∧ Pol w' A ca (wordsOf M) ∧ Pol w' B cb (wordsOf N) ∧ Below w.heap.size w w'

theorem len_word_ge (xs : List Nat) (hw : Wds xs) (i t : Nat) (h : xs.getD i 0 / 2 ^ t ≠ 0) : 64 * i + t + 1 ≤ len (leN xs) := by
  have l : t < len (xs.getD i 0) := by
    rcases Nat.lt_or_ge t (len (xs.getD i 0)) with q | q
    · exact q
    · exact absurd (Nat.div_eq_of_lt (Nat.lt_of_lt_of_le (len_lt _) (Nat.pow_le_pow_right (by decide) q))) h
  have l2 := len_word (hw.get i)
  have n0 : xs.getD i 0 ≠ 0 := by intro e; rw [e] at h; simp at h
  have b := len_bit n0
  rcases Nat.lt_or_ge (64 * i + t) (len (leN xs)) with q | q
  · exact q
  · exfalso
    have := bit_leN xs (64 * i + (len (xs.getD i 0) - 1)) hw
    rw [show (64 * i + (len (xs.getD i 0) - 1)) / 64 = i from by omega, show (64 * i + (len (xs.getD i 0) - 1)) % 64 = len (xs.getD i 0) - 1 from by omega, b, len_bit_out (by omega)] at this
    cases this
theorem words_over {N : Nat} (h : N ≠ 0) : 64 * (wordsOf N).length < len N + 64 := by
  obtain ⟨m, hm⟩ : ∃ m, sz N = m + 1 := ⟨sz N - 1, by have : 0 < sz N := by unfold sz; rw [wordsOf_pos h]; simp
                                                      omega⟩
  obtain ⟨d1, d2, _⟩ := deg_top (wordsOf N) N m (wds_wordsOf N) (leN_wordsOf N) hm
  have := len_pos d1
  have : (wordsOf N).length = m + 1 := hm
  omega
theorem len_words {xs : List Nat} (h : Wds xs) : len (leN xs) ≤ 64 * xs.length := len_le (leN_lt xs h)
theorem div_round {Q R a b m k : Nat} (hb : len b = m + 1) (h : clm Q b ^^^ R = a) (hl : len R ≤ m + 1 + k) (low : ∀ j, j ≤ k → Q.testBit j = false) :
    (R / 2 ^ (m + k) % 2 = 0 → len R ≤ m + k) ∧ (R / 2 ^ (m + k) % 2 = 1 → len R = m + k + 1 ∧ len (R ^^^ b * 2 ^ k) ≤ m + k ∧ clm (Q ^^^ 2 ^ k) b ^^^ (R ^^^ b * 2 ^ k) = a ∧ ∀ j, j < k → (Q ^^^ 2 ^ k).testBit j = false) := by
  have h0 : b ≠ 0 := by intro e; rw [e, len_zero] at hb; omega
  have lb := len_mul_pow h0 k
  constructor
  · intro z
    rcases Nat.lt_or_ge (m + k) (len R) with q | q
    · have := top_bit (N := R) (k := m + k) (by omega)
      omega
    · exact q
  · intro z
    have lR : len R = m + k + 1 := by
      rcases Nat.lt_or_ge (m + k) (len R) with q | q
      · omega
      · have := len_bit_out (a := R) (i := m + k) q
        rw [Nat.testBit_eq_decide_div_mod_eq] at this
        simp at this
        omega
    have R0 : R ≠ 0 := by intro e; rw [e, len_zero] at lR; omega
    have := len_xor_top (a := R) (b := b * 2 ^ k) (by omega) R0
    refine ⟨lR, by omega, ?_, fun j hj => low_xor low hj⟩
    rw [clm_xor_left, clm_comm (2 ^ k), clm_pow, xor4, Nat.xor_self, Nat.xor_zero]
    exact h
theorem div_fit {ps ys : List Nat} {q s k m M N : Nat} (hk : k = 64 * q + s) (hs : s < 64) (hp : Wds ps) (hy : Wds ys) (lp : ps.length = M) (hN : ys.length = N) (sN : 64 * N < len (leN ys) + 64) (hb : len (leN ys) = m + 1) (hR : len (leN ps) = m + k + 1) :
    N + q ≤ M ∧ q < M ∧ ∀ i, i < N → ys.getD i 0 / 2 ^ (64 - s) ≠ 0 → q + i + 1 < M := by
  have b := len_words hp
  rw [lp] at b
  refine ⟨by omega, by omega, fun i hi hz => ?_⟩
  have := len_word_ge ys hy i (64 - s) hz
  omega
/-- Own's answers, their lengths by name. -/
def OwnR (N M : Nat) (w : World) (e : Ending) (w' : World) : Prop :=
  ∃ (A : Option Addr) (cap : Nat), e = .returned (.slice A M cap) ∧ w'.ownsRow w.heap.size 22 1 (.slice A M cap) M (words (wordsOf N)) ∧ Below w.heap.size w w'
def OwnL (N M : Nat) (w : World) (e : Ending) (w' : World) : Prop :=
  ∃ (A : Option Addr) (cap : Nat), e = .returned (.slice A M cap) ∧ Pol w' A cap (wordsOf N) ∧ Below w.heap.size w w'
theorem ownR {N M : Nat} (h : (wordsOf N).length = M) {w : World} {e : Ending} {w' : World} (k : AnsR N w e w') : OwnR N M w e w' := by subst h; exact k
theorem ownL {N M : Nat} (h : (wordsOf N).length = M) {w : World} {e : Ending} {w' : World} (k : Ans N w e w') : OwnL N M w e w' := by subst h; exact k
set_option maxHeartbeats 1000000 in
theorem divZero (A B : Option Addr) (ca cb L K : Nat) (ys : List Nat) (bK : K ≤ 50000) (w : World) (Q : Pol w B cb ys) (hK : ys.length = K) (hy : leN ys = 0) :
    Calls Tryd.prog 43 #[.slice A L ca, .slice B K cb] w (fun e w' => e = .returned (.tuple #[.slice none 0 0, .slice none 0 0, .int .i64 8]) ∧ w = w') := by
  have D := Lib.hid (gDeg (-1) Q hK (by rw [hy]; rfl) bK)
  clear Q hK hy
  go_enter Tryd.func43, Tryd.ntmps43
  go_wp2_with (go_at_call 29; ((with_reducible refine (D.out).mono ?_); rintro e w' ⟨rfl, rfl⟩))
  go_ret3
  exact ⟨rfl, rfl⟩

/-- The state of a division, the rest nil or not. -/
structure DivG (base Rb Yb Qb : Nat) (G : Option Addr) (cg M h : Nat) (B : Option Addr) (cb K : Nat) (ps qs ys : List Nat) (w : World) : Prop where
  bR : Box w Rb 28 (.slice G M cg)
  bQ : Box w Qb 28 (.slice (some ⟨h, 0, none⟩) M M)
  rest : Pol w G cg ps
  quo : Pol w (some ⟨h, 0, none⟩) M qs
  lp : ps.length = M
  lq : qs.length = M
  st : 0 < M → ∃ g, G = some ⟨g, 0, none⟩ ∧ DivSt base Rb Yb Qb g cg M h B cb K ps qs ys w
theorem DivSt.gen {base Rb Yb Qb g cap L h : Nat} {B : Option Addr} {cb K : Nat} {ps qs ys : List Nat} {w : World} (S : DivSt base Rb Yb Qb g cap L h B cb K ps qs ys w) : DivG base Rb Yb Qb (some ⟨g, 0, none⟩) cap L h B cb K ps qs ys w :=
  ⟨S.bR, S.bQ, S.row.pol, S.quo.pol, S.lp, S.lq, fun _ => ⟨g, rfl, S⟩⟩
theorem heap_new2 (w : World) (o p : Obj) : ((w.alloc o).alloc p).heap[w.heap.size]? = some o := by
  rw [Below.heap_alloc _ _ _ (by simp)]; exact heap_alloc_new w o
theorem below_allocs (w : World) (o : Obj) : Below w.heap.size w (w.alloc o) := below_alloc (Below.refl _ _) o
theorem box_new (w : World) (t : TypeId) (v : Value) : Box (w.alloc (.cells #[v] t)) w.heap.size t v := heap_alloc_new w _
theorem quo_new (w : World) (base M : Nat) (hb : base ≤ w.heap.size) (hM : M ≤ 9223372036854775807) : Row base w.heap.size M (List.replicate M 0) (w.alloc (.cells (madeCells #[.int .u64 0] M) 22)) := by
  have F := Fill.start w M
  have P := F.pol hM
  refine ⟨⟨by simp [words], .inr ⟨w.heap.size, M, madeCells #[.int .u64 0] M, by rw [List.length_replicate], hb, heap_alloc_new w _, by simp, hM, ?_, ?_⟩⟩, F.wds⟩
  · rw [size_madeCells, Nat.mul_one]
  · rw [toList_madeCells_one, List.length_replicate, Nat.mul_one, words, List.map_replicate, List.take_replicate, Nat.min_self]
    rfl

theorem divStart (base M N cg cy : Nat) (G Y : Option Addr) (ps ys : List Nat) (w0 w : World) (hb : base ≤ w.heap.size) (own0 : w0.ownsRow base 22 1 (.slice G M cg) M (words ps)) (h0w : Below w0.heap.size w0 w) (wp : Wds ps) (wy : Wds ys) (ownY : w.ownsRow w0.heap.size 22 1 (.slice Y N cy) N (words ys)) (lp : ps.length = M) (ly : ys.length = N) (hM : M ≤ 9223372036854775807) :
    DivG base w.heap.size (w.heap.size + 1) (w.heap.size + 1 + 1 + 1) G cg M (w.heap.size + 1 + 1) Y cy N ps (List.replicate M 0) ys
      ((((w.alloc (.cells #[.slice G M cg] 28)).alloc (.cells #[.slice Y N cy] 28)).alloc (.cells (madeCells #[.int .u64 0] M) 22)).alloc (.cells #[.slice (some ⟨w.heap.size + 1 + 1, 0, none⟩) M M] 28)) := by
  have own := ownsRow_below own0 h0w
  have P : Pol w Y cy ys := by
    obtain ⟨A', c', e, RP⟩ := Pol.of_owns wy (show w.ownsRow w0.heap.size 22 1 (.slice Y N cy) ys.length (words ys) by rw [ly]; exact ownY)
    simp only [Value.slice.injEq] at e
    obtain ⟨rfl, _, rfl⟩ := e
    exact RP
  have hbR : Box (w.alloc (.cells #[.slice G M cg] 28)) w.heap.size 28 (.slice G M cg) := box_new _ _ _
  generalize hw1 : w.alloc (.cells #[.slice G M cg] 28) = w1 at hbR ⊢
  have s1 : w1.heap.size = w.heap.size + 1 := by rw [← hw1]; simp
  have B1 : Below w.heap.size w w1 := by rw [← hw1]; exact below_allocs w _
  have hbY : Box (w1.alloc (.cells #[.slice Y N cy] 28)) w1.heap.size 28 (.slice Y N cy) := box_new _ _ _
  generalize hw2 : w1.alloc (.cells #[.slice Y N cy] 28) = w2 at hbY ⊢
  have s2 : w2.heap.size = w.heap.size + 1 + 1 := by rw [← hw2]; simp [s1]
  have B2 : Below w1.heap.size w1 w2 := by rw [← hw2]; exact below_allocs w1 _
  have hq := quo_new w2 base M (by omega) hM
  generalize hw3 : w2.alloc (.cells (madeCells #[.int .u64 0] M) 22) = w3 at hq ⊢
  have s3 : w3.heap.size = w.heap.size + 1 + 1 + 1 := by rw [← hw3]; simp [s2]
  have B3 : Below w2.heap.size w2 w3 := by rw [← hw3]; exact below_allocs w2 _
  have hbQ : Box (w3.alloc (.cells #[.slice (some ⟨w.heap.size + 1 + 1, 0, none⟩) M M] 28)) w3.heap.size 28 (.slice (some ⟨w.heap.size + 1 + 1, 0, none⟩) M M) := box_new _ _ _
  generalize hw4 : w3.alloc (.cells #[.slice (some ⟨w.heap.size + 1 + 1, 0, none⟩) M M] 28) = w4 at hbQ ⊢
  have B4 : Below w3.heap.size w3 w4 := by rw [← hw4]; exact below_allocs w3 _
  have B34 := below_then B3 B4
  have B24 := below_then B2 B34
  have B14 := below_then B1 B24
  rw [s3] at hbQ
  rw [s2] at hq
  rw [s1] at hbY
  have own4 := ownsRow_below own B14
  have hY := hbY.below B34
  have hR := hbR.below B24
  have hQ := hq.below B4
  obtain ⟨A', c', e, RP⟩ := Pol.of_owns wp (show w4.ownsRow base 22 1 (.slice G M cg) ps.length (words ps) by rw [lp]; exact own4)
  simp only [Value.slice.injEq] at e
  obtain ⟨rfl, _, rfl⟩ := e
  refine ⟨hR, hbQ, RP, hQ.pol, lp, List.length_replicate, fun h0 => ?_⟩
  rcases own0.2 with ⟨_, hn⟩ | ⟨g, cap, cur, ev, _, hh, _⟩
  · omega
  have hG : G = some ⟨g, 0, none⟩ := by injection ev
  subst hG
  have lg : g < w0.heap.size := (Array.getElem?_eq_some_iff.1 hh).1
  have := h0w.size
  refine ⟨g, rfl, hR, hY, hbQ, ⟨by rw [lp]; exact own4, wp⟩, hQ, P.below B14, lp, List.length_replicate, ly, by omega, fun ad e => ?_⟩
  subst e
  rcases ownY.2 with ⟨ev2, _⟩ | ⟨g', cap', cur', ev2, hg', hh', _⟩
  · cases ev2
  · have lg' : g' < w.heap.size := (Array.getElem?_eq_some_iff.1 hh').1
    have e2 : ad = ⟨g', 0, none⟩ := by
      injection ev2 with e2
      injection e2
    subst e2
    exact ⟨by show g' ≠ g; omega, by show g' ≠ w.heap.size + 1 + 1; omega⟩
theorem divBelow (w0 w : World) (M : Nat) (h : Below w0.heap.size w0 w) (x y z : Value) :
    Below w0.heap.size w0 ((((w.alloc (.cells #[x] 28)).alloc (.cells #[y] 28)).alloc (.cells (madeCells #[.int .u64 0] M) 22)).alloc (.cells #[z] 28)) :=
  below_alloc (below_alloc (below_alloc (below_alloc h _) _) _) _

set_option maxRecDepth 100000 in
set_option maxHeartbeats 4000000 in
theorem divWalk (A B : Option Addr) (ca cb L K m M N : Nat) (xs ys : List Nat) (hL : Hid (xs.length = L)) (hK : Hid (ys.length = K)) (bL : L ≤ 50000) (bK : K ≤ 50000) (w : World) (P : Hid (Pol w A ca xs)) (Q : Hid (Pol w B cb ys)) (a b : Nat) (ha : Hid (leN xs = a)) (hb : Hid (leN ys = b)) (hm : Hid (len b = m + 1)) (hM : Hid ((wordsOf a).length = M)) (hN : Hid ((wordsOf b).length = N)) (bM : M ≤ 50000) (bN : N ≤ 50000) :
    Calls Tryd.prog 43 #[.slice A L ca, .slice B K cb] w (Ans2 (qt a b) (rt a b) w) := by
  have D := Lib.hid (gDeg (m : Int) Q.out hK.out (by rw [hb.out, hm.out]; omega) bK)
  have O1 := Lib.hid ((gOwnR a P.out hL.out ha.out bL).mono fun _ _ h => ownR hM.out h)
  have hmk := run_make_row' (P := Tryd.prog) 28 22 (.int .u64 0) 8 Tryd.underlying28 infoW rfl .i64 .i64 M (by omega) (by omega)
  go_enter Tryd.func43, Tryd.ntmps43
  go_wp2_with fail
  refine (D.out).mono ?_
  rintro e w' ⟨rfl, rfl⟩
  go_wp2_with fail
  refine (O1.out).mono ?_
  rintro e w1 ⟨G, cg, rfl, OW, hb1⟩
  have HOW := Lib.hid OW
  have HB1 := Lib.hid hb1
  clear OW hb1
  have O2 := Lib.hid ((gOwnR b (Q.out.below HB1.out) hK.out hb.out bK).mono fun _ _ h => ownR hN.out h)
  go_wp2_with fail
  refine (O2.out).mono ?_
  rintro e w2 ⟨Y, cy, rfl, PY, hb2⟩
  have HPY := Lib.hid PY
  have HB2 := Lib.hid hb2
  clear PY hb2
  go_wp2_with fail
  have hlb : w.heap.size ≤ w2.heap.size := Nat.le_trans HB1.out.size HB2.out.size
  have ST := Lib.hid (divStart w.heap.size M N cg cy G Y (wordsOf a) (wordsOf b) w1 w2 hlb HOW.out HB2.out (wds_wordsOf a) (wds_wordsOf b) HPY.out hM.out hN.out (by omega))
  have BW := Lib.hid (show Below w.heap.size w _ from divBelow w w2 M (below_then HB1.out HB2.out) (.slice G M cg) (.slice Y N cy) (.slice (some ⟨w2.heap.size + 1 + 1, 0, none⟩) M M))
  have V0 := Lib.hid (show clm (leN (List.replicate M 0)) b ^^^ leN (wordsOf a) = a ∧ (∀ j, (leN (List.replicate M 0)).testBit j = false) from by
    rw [leN_zero (fun i => getD_zero M i), clm_zero_left, Nat.zero_xor, leN_wordsOf]; exact ⟨rfl, fun j => Nat.zero_testBit j⟩)
  generalize List.replicate M 0 = qs0 at ST V0
  generalize hV : World.alloc _ _ = V at ST BW ⊢
  clear hV
  have la : len a ≤ 3200000 := by
    have := len_words (wds_wordsOf a)
    rw [leN_wordsOf, hM.out] at this
    omega
  have lm : m ≤ 3200000 := by
    have := len_words (wds_wordsOf b)
    rw [leN_wordsOf, hN.out, hm.out] at this
    omega
  obtain ⟨d, hd⟩ : ∃ d : Int, d = (len a : Int) - 1 := ⟨_, rfl⟩
  have d1 : -1 ≤ d := by omega
  have d2 : d ≤ 3200000 := by omega
  have HD := Lib.hid hd
  have DG := Lib.hid (gDeg d ST.out.rest ST.out.lp (by rw [leN_wordsOf, hd]) bM)
  clear hd la
  have m0 : (0 : Int) ≤ (m : Int) := by omega
  go_wp2_with fail
  refine (DG.out).mono ?_
  rintro e w' ⟨rfl, rfl⟩
  clear DG
  go_wp2_with fail
  go_loopw [12] (fun n wr => ∃ (i : Int) (ps qs : List Nat), n = .int .i64 i ∧ -4000000 ≤ i ∧ i ≤ 3200000 ∧ Hid (DivG w.heap.size w2.heap.size (w2.heap.size + 1) (w2.heap.size + 1 + 1 + 1) G cg M (w2.heap.size + 1 + 1) Y cy N ps qs (wordsOf b) wr) ∧
      Hid (clm (leN qs) b ^^^ leN ps = a ∧ (len (leN ps) : Int) ≤ (m : Int) + 1 + i ∧ ∀ j : Nat, (j : Int) ≤ i → (leN qs).testBit j = false) ∧ Hid (Below w.heap.size w wr)) (fun n _ => (intOf n + 4000000).toNat)
  case atStart => exact ⟨d - (m : Int), wordsOf a, qs0, rfl, by omega, by omega, ST, Lib.hid ⟨V0.out.1, by rw [leN_wordsOf]; have := HD.out; omega, fun j _ => V0.out.2 j⟩, BW⟩
  case round =>
    obtain ⟨i, ps, qs, rfl, i1, i2, S, HV, HB⟩ := hrel
    clear ST BW V0
    by_cases hi : 0 ≤ i
    · obtain ⟨k, rfl⟩ : ∃ k : Nat, i = (k : Int) := ⟨i.toNat, by omega⟩
      have DR := Lib.hid (div_round (k := k) hm.out HV.out.1 (by have := HV.out.2.1; omega) (fun j hj => HV.out.2.2 j (by omega)))
      obtain ⟨t, ht⟩ : ∃ t, m + k = t := ⟨_, rfl⟩
      have k1 : (m : Int) + (k : Int) = (t : Int) := by omega
      rw [ht] at DR
      have HT := Lib.hid ht
      have bt : t ≤ 6400000 := by omega
      clear ht
      rcases Nat.mod_two_eq_zero_or_one (leN ps / 2 ^ t) with hy | hy
      · have BT := Lib.hid (gBit t 0 S.out.rest S.out.lp (by rw [hy]; rfl) (by omega))
        have L0 := Lib.hid (DR.out.1 hy)
        clear hy DR
        have bR := S.out.bR.cell
        go_wp2_with fail
        refine (BT.out).mono ?_
        rintro e w' ⟨rfl, rfl⟩
        clear BT
        go_wp2_with fail
        go_roundw
        case rel => exact ⟨(k : Int) - 1, ps, qs, rfl, by omega, by omega, S, Lib.hid ⟨HV.out.1, by have := L0.out; have := HT.out; omega, fun j hj => HV.out.2.2 j (by omega)⟩, HB⟩
        case measure => simp [intOf]; omega
      · have BT := Lib.hid (gBit t 1 S.out.rest S.out.lp (by rw [hy]; rfl) (by omega))
        obtain ⟨lR, L1, V1, T1⟩ := DR.out.2 hy
        have HL1 := Lib.hid L1
        have HV1 := Lib.hid V1
        have HT1 := Lib.hid T1
        have M0 : 0 < M := by
          rcases Nat.eq_zero_or_pos M with z | z
          · exfalso
            have := len_words S.out.rest.word
            rw [S.out.lp, z] at this
            omega
          · exact z
        obtain ⟨g, rfl, S'⟩ := S.out.st M0
        have sN := words_over (N := b) (by intro e; have := hm.out; rw [e, len_zero] at this; omega)
        rw [hN.out] at sN
        obtain ⟨f1, f2, f3⟩ := div_fit (q := k / 64) (s := k % 64) (k := k) (M := M) (N := N) (m := m) (by omega) (by omega) S'.row.wds (wds_wordsOf b) S'.lp hN.out (by rw [leN_wordsOf]; exact sN) (by rw [leN_wordsOf]; exact hm.out) (by rw [HT.out]; exact lR)
        have T := Lib.hid (takeWalk w.heap.size w2.heap.size (w2.heap.size + 1) (w2.heap.size + 1 + 1 + 1) g cg M (w2.heap.size + 1 + 1) cy N k (k / 64) (k % 64) Y ps qs (wordsOf b) (Lib.hid (by omega)) (by omega) (by omega) (by omega) (by omega) f1 (Lib.hid f3) f2 (Lib.hid (HV.out.2.2 k (by omega))) wr HB.out.size (Lib.hid S'))
        clear hy DR lR L1 V1 T1 sN f1 f2 f3 S' M0
        have bR := S.out.bR.cell
        go_wp2_with fail
        refine (BT.out).mono ?_
        rintro e w' ⟨rfl, rfl⟩
        clear BT
        go_wp2_with fail
        refine (T.out).mono ?_
        rintro e w' ⟨rfl, ps', qs', S2, v1, v2, hb2⟩
        have HS2 := Lib.hid S2.gen
        have HV2 := Lib.hid (show clm (leN qs') b ^^^ leN ps' = a ∧ (len (leN ps') : Int) ≤ (m : Int) + 1 + ((k : Int) - 1) ∧ ∀ j : Nat, (j : Int) ≤ (k : Int) - 1 → (leN qs').testBit j = false from by
          rw [v1, v2, leN_wordsOf]
          exact ⟨HV1.out, by have := HL1.out; have := HT.out; omega, fun j hj => HT1.out j (by omega)⟩)
        have HB2 := Lib.hid (HB.out.trans hb2)
        clear S2 v1 v2 hb2 T
        go_wp2_with fail
        go_roundw
        case rel => exact ⟨(k : Int) - 1, ps', qs', rfl, by omega, by omega, HS2, HV2, HB2⟩
        case measure => simp [intOf]; omega
    · have bR := S.out.bR.cell
      have bQ := S.out.bQ.cell
      have QR := Lib.hid (qr_of (a := a) (b := b) (by intro e; have := hm.out; rw [e, len_zero] at this; omega) HV.out.1 (by have := HV.out.2.1; have := hm.out; omega))
      have eq1 := Lib.hid QR.out.1.symm
      have eq2 := Lib.hid QR.out.2.symm
      clear QR
      have hX : Below wr.heap.size wr wr := Below.refl _ _
      go_wp2_with fail
      go_region_held3 (fun w' => w'.cell? ⟨w2.heap.size + 1 + 1 + 1, 0, none⟩ = some (.slice (some ⟨w2.heap.size + 1 + 1, 0, none⟩) M M) ∧ w'.cell? ⟨w2.heap.size, 0, none⟩ = some (.slice G M cg)) (first | go_keep | exact ⟨(S.out.bQ.below hX).cell, (S.out.bR.below hX).cell⟩)
        (first
        | (go_at_call 44; ((with_reducible refine (gOwn (qt a b) (S.out.quo.below hX.drew) S.out.lq eq1.out bM).mono ?_); rintro e x ⟨A1, c1, rfl, PA1, hb⟩; (try replace PA2 := PA2.below hb); replace hX := below_then hX.drew hb; clear hb))
        | (go_at_call 44; ((with_reducible refine (gOwn (qt a b) (S.out.quo.below hX) S.out.lq eq1.out bM).mono ?_); rintro e x ⟨A1, c1, rfl, PA1, hb⟩; (try replace PA2 := PA2.below hb); replace hX := below_then hX hb; clear hb))
        | (go_at_call 44; ((with_reducible refine (gOwn (rt a b) (S.out.rest.below hX.drew) S.out.lp eq2.out bM).mono ?_); rintro e x ⟨A2, c2, rfl, PA2, hb⟩; (try replace PA1 := PA1.below hb); replace hX := below_then hX.drew hb; clear hb))
        | (go_at_call 44; ((with_reducible refine (gOwn (rt a b) (S.out.rest.below hX) S.out.lp eq2.out bM).mono ?_); rintro e x ⟨A2, c2, rfl, PA2, hb⟩; (try replace PA1 := PA1.below hb); replace hX := below_then hX hb; clear hb)))
      all_goals
        go_wp2_with fail
        go_ret3
        exact ⟨_, _, _, _, rfl, PA1, PA2, below_then HB.out hX⟩
theorem cDiv {A B : Option Addr} {L K ca cb : Nat} {xs ys : List Nat} {w : World} (a b : Nat) (P : Pol w A ca xs) (Q : Pol w B cb ys) (hL : xs.length = L) (hK : ys.length = K) (ha : leN xs = a) (hb : leN ys = b) (bL : L ≤ 50000) (bK : K ≤ 50000) (h0 : b ≠ 0) :
    Calls Tryd.prog 43 #[.slice A L ca, .slice B K cb] w (Ans2 (qt a b) (rt a b) w) := by
  have l := len_pos h0
  have l1 := own_take xs a P.word ha
  have l2 := own_take ys b Q.word hb
  have e1 : (wordsOf a).length = sz a := rfl
  have e2 : (wordsOf b).length = sz b := rfl
  exact divWalk A B ca cb L K (len b - 1) _ _ xs ys (Lib.hid hL) (Lib.hid hK) bL bK w (Lib.hid P) (Lib.hid Q) a b (Lib.hid ha) (Lib.hid hb) (Lib.hid (by omega)) (Lib.hid rfl) (Lib.hid rfl) (by omega) (by omega)
end Go.Proofs.YtemgoikghaiamaaDoor
/-
  What the calls Mod and MulMod of package gfdiv answer.
-/
namespace Go.Proofs.YtemgoikghaiamaaDoor
open Go.RowKit G
set_option linter.unusedVariables false

/-- An answer that is a polynomial in its own form, in a list of its own, and an error's number. -/
def AnsE (N : Nat) (k : Int) (w : World) (e : Ending) (w' : World) : Prop :=
  ∃ (A : Option Addr) (cap : Nat), e = .returned (.tuple #[.slice A (wordsOf N).length cap, .int .i64 k]) ∧ Pol w' A cap (wordsOf N) ∧ Below w.heap.size w w'
/-- No answer: nil, and an error's number. -/
def NilE (k : Int) (w : World) (e : Ending) (w' : World) : Prop := e = .returned (.tuple #[.slice none 0 0, .int .i64 k]) ∧ Below w.heap.size w w'
theorem NilE.ans {k : Int} {w : World} {e : Ending} {w' : World} (h : NilE k w e w') : AnsE 0 k w e w' :=
  ⟨none, 0, by rw [wordsOf_zero]; exact h.1, by rw [wordsOf_zero]; exact Pol.nil _ _ _ (by omega), h.2⟩
/-- The lengths of answers. -/
theorem wl_len {N k : Nat} (h : len N ≤ 64 * k) : (wordsOf N).length ≤ k := wl k (pow_up (len_lt N) h)
theorem wl_rt {a b k : Nat} (hb : b ≠ 0) (h : len b ≤ 64 * k) : (wordsOf (rt a b)).length ≤ k := wl_len (by have := rt_lt (a := a) hb; omega)
theorem wl_qt {a b k : Nat} (hb : b ≠ 0) (h : len a ≤ 64 * k) : (wordsOf (qt a b)).length ≤ k := wl_len (qt_lt hb h)
theorem wl_gc {a b k : Nat} (ha : len a ≤ 64 * k) (hb : len b ≤ 64 * k) : (wordsOf (gc a b)).length ≤ k := wl_len (gc_lt ha hb)
theorem len_pol {w : World} {A : Option Addr} {cap L : Nat} {xs : List Nat} (P : Pol w A cap xs) (hL : xs.length = L) : len (leN xs) ≤ 64 * L := by rw [← hL]; exact len_words P.word

set_option maxHeartbeats 1000000 in
theorem gMod {A B : Option Addr} {L K ca cb : Nat} {xs ys : List Nat} {w : World} (R : Nat) (P : Pol w A ca xs) (Q : Pol w B cb ys) (hL : xs.length = L) (hK : ys.length = K) (hR : rt (leN xs) (leN ys) = R) (bL : L ≤ 50000) (bK : K ≤ 50000) (h0 : leN ys ≠ 0) :
    Calls Tryd.prog 23 #[.slice A L ca, .slice B K cb] w (AnsE R 0 w) := by
  have D := Lib.hid (cDiv _ _ P Q hL hK rfl rfl bL bK h0)
  rw [hR] at D
  clear P Q hL hK hR h0
  generalize qt (leN xs) (leN ys) = q at D
  go_enter Tryd.func23, Tryd.ntmps23
  go_wp2_with fail
  refine (D.out).mono ?_
  rintro e w1 ⟨A1, B1, c1, d1, rfl, P1, Q1, hb⟩
  have HQ := Lib.hid Q1
  have HB := Lib.hid hb
  clear P1 Q1 hb
  go_wp2_with fail
  go_ret2
  exact ⟨B1, d1, rfl, HQ.out, HB.out⟩
set_option maxHeartbeats 1000000 in
theorem gModZero {A B : Option Addr} {L K ca cb : Nat} {ys : List Nat} {w : World} (Q : Pol w B cb ys) (hK : ys.length = K) (bK : K ≤ 50000) (h0 : leN ys = 0) :
    Calls Tryd.prog 23 #[.slice A L ca, .slice B K cb] w (NilE 8 w) := by
  have D := Lib.hid (divZero A B ca cb L K ys bK w Q hK h0)
  clear Q hK h0
  go_enter Tryd.func23, Tryd.ntmps23
  go_wp2_with fail
  refine (D.out).mono ?_
  rintro e w1 ⟨rfl, rfl⟩
  go_wp2_with fail
  go_ret2
  exact ⟨rfl, Below.refl _ _⟩
end Go.Proofs.YtemgoikghaiamaaDoor
/-
  What the call Gcd of package gfdiv answers: the two rows, and the closure that changes both.
-/
namespace Go.Proofs.YtemgoikghaiamaaDoor
open Go.RowKit G
set_option linter.unusedVariables false

theorem Box.set_ {w : World} {b : Nat} {t : TypeId} {v : Value} (h : Box w b t v) (u : Value) : Box (w.setCell ⟨b, 0, none⟩ u) b t u := by
  unfold Box at *
  simp [World.setCell, Array.getElem?_modify, h]
theorem Pol.setBox {w : World} {A : Option Addr} {cap b : Nat} {t : TypeId} {xs : List Nat} {S : Option Addr} {n c : Nat} (h : Pol w A cap xs) (hb : Box w b t (.slice S n c)) (u : Value) : Pol (w.setCell ⟨b, 0, none⟩ u) A cap xs :=
  ⟨h.word, h.cap1, h.cap2, fun i hi => by
    obtain ⟨g, o, e, hc⟩ := h.cell i hi
    refine ⟨g, o, e, (World.cell?_of_block (w := w) (Below.heap_setCell w ⟨b, 0, none⟩ u g ?_)).trans hc⟩
    rintro rfl
    unfold Box at hb
    simp only [World.cell?, hb] at hc
    cases z : o + i with
    | zero => rw [z] at hc; simp at hc
    | succ k => rw [z] at hc; simp at hc⟩
/-- The two rows that are gone through. -/
structure GcSt (base Ab Bb : Nat) (A B : Option Addr) (La ca Lb cb : Nat) (xs ys : List Nat) (w : World) : Prop where
  bA : Box w Ab 28 (.slice A La ca)
  bB : Box w Bb 28 (.slice B Lb cb)
  pa : Pol w A ca xs
  pb : Pol w B cb ys
  la : xs.length = La
  lb : ys.length = Lb
  ne : Ab ≠ Bb
  ba : base ≤ Ab
  bb : base ≤ Bb
theorem GcSt.below {base Ab Bb : Nat} {A B : Option Addr} {La ca Lb cb : Nat} {xs ys : List Nat} {w w' : World} (S : GcSt base Ab Bb A B La ca Lb cb xs ys w) (hb : Below w.heap.size w w') : GcSt base Ab Bb A B La ca Lb cb xs ys w' :=
  ⟨S.bA.below hb, S.bB.below hb, S.pa.below hb, S.pb.below hb, S.la, S.lb, S.ne, S.ba, S.bb⟩
/-- Both rows turn. -/
theorem GcSt.turn {base Ab Bb : Nat} {A B C : Option Addr} {La ca Lb cb Lc cc : Nat} {xs ys zs : List Nat} {w : World} (S : GcSt base Ab Bb A B La ca Lb cb xs ys w) (P : Pol w C cc zs) (lc : zs.length = Lc) :
    GcSt base Ab Bb B C Lb cb Lc cc ys zs ((w.setCell ⟨Ab, 0, none⟩ (.slice B Lb cb)).setCell ⟨Bb, 0, none⟩ (.slice C Lc cc)) := by
  have b1 := S.bA.set_ (.slice B Lb cb)
  have b2 := S.bB.far (p := ⟨Ab, 0, none⟩) (fun e => S.ne e.symm) (.slice B Lb cb)
  exact ⟨b1.far (p := ⟨Bb, 0, none⟩) S.ne _, b2.set_ _, (S.pb.setBox S.bA _).setBox b2 _, (P.setBox S.bA _).setBox b2 _, S.lb, lc, S.ne, S.ba, S.bb⟩

theorem Box.ne_ {w : World} {a b : Nat} {t t' : TypeId} {u v : Value} (h : Box w a t u) (k : Box w b t' v) (hne : t ≠ t') : a ≠ b := by
  rintro rfl
  unfold Box at h k
  rw [h] at k
  simp only [Option.some.injEq, Obj.cells.injEq] at k
  exact hne k.2.1
/-- What a turn leaves. -/
def TurnP (base Ab Bb Eb : Nat) (E : Value) (B : Option Addr) (Lb cb : Nat) (ys : List Nat) (R : Nat) (w : World) (e : Ending) (w' : World) : Prop :=
  e = .returned (.bool true) ∧ ∃ (C : Option Addr) (cc : Nat), GcSt base Ab Bb B C Lb cb (wordsOf R).length cc ys (wordsOf R) w' ∧ Box w' Eb 83 E ∧ Below base w w'
set_option maxHeartbeats 1000000 in
theorem turnNo (base Ab Bb Eb : Nat) (E : Value) (A B : Option Addr) (La ca Lb cb : Nat) (xs ys : List Nat) (w : World) (S : GcSt base Ab Bb A B La ca Lb cb xs ys w) (bLb : Lb ≤ 50000) (h0 : leN ys = 0) :
    Calls Tryd.prog 62 #[.pointer (some ⟨Ab, 0, none⟩), .pointer (some ⟨Bb, 0, none⟩), .pointer (some ⟨Eb, 0, none⟩)] w (fun e w' => e = .returned (.bool false) ∧ w = w') := by
  have D := Lib.hid (divZero A B ca cb La Lb ys bLb w S.pb S.lb h0)
  have e1 := S.bA.cell
  have e2 := S.bB.cell
  clear S h0
  go_enter Tryd.func62, Tryd.ntmps62
  go_wp2_with fail
  refine (D.out).mono ?_
  rintro e w1 ⟨rfl, rfl⟩
  go_wp2_with fail
  go_ret
  exact ⟨rfl, rfl⟩
set_option maxRecDepth 100000 in
set_option maxHeartbeats 2000000 in
theorem turnGcd (base Ab Bb Eb R : Nat) (A B : Option Addr) (La ca Lb cb : Nat) (xs ys : List Nat) (w : World) (hs : base ≤ w.heap.size) (S : GcSt base Ab Bb A B La ca Lb cb xs ys w) (hE : Box w Eb 83 (.func (.func 48) #[] #[])) (bLa : La ≤ 50000) (bLb : Lb ≤ 50000) (h0 : leN ys ≠ 0) (hR : rt (leN xs) (leN ys) = R) :
    Calls Tryd.prog 62 #[.pointer (some ⟨Ab, 0, none⟩), .pointer (some ⟨Bb, 0, none⟩), .pointer (some ⟨Eb, 0, none⟩)] w (TurnP base Ab Bb Eb (.func (.func 48) #[] #[]) B Lb cb ys R w) := by
  have D := Lib.hid (cDiv _ _ S.pa S.pb S.la S.lb rfl rfl bLa bLb h0)
  rw [hR] at D
  have HS := Lib.hid S
  have HE := Lib.hid hE
  have e1 := S.bA.cell
  have e2 := S.bB.cell
  clear S h0 hE hR
  generalize qt (leN xs) (leN ys) = q at D
  go_enter Tryd.func62, Tryd.ntmps62
  go_wp2_with fail
  refine (D.out).mono ?_
  rintro e w1 ⟨A1, B1, c1, d1, rfl, P1, Q1, hb⟩
  clear e1 e2 D
  have S1 := Lib.hid (HS.out.below hb)
  have HQ := Lib.hid Q1
  have HB := Lib.hid hb
  have E1 := Lib.hid (HE.out.below hb)
  have e3 := E1.out.cell
  have e2 := S1.out.bB.cell
  have e1 := S1.out.bA.cell
  have f1 := S1.out.bA.free
  have f2 := S1.out.bB.free
  have ne := S1.out.ne
  clear P1 Q1 hb
  go_wp2
  go_ret
  refine ⟨rfl, B1, d1, S1.out.turn HQ.out rfl, (E1.out.far (p := ⟨Ab, 0, none⟩) (E1.out.ne_ S1.out.bA (by decide)) _).far (p := ⟨Bb, 0, none⟩) (E1.out.ne_ S1.out.bB (by decide)) _, ?_⟩
  exact ((HB.out.mono hs).setCell S1.out.ba _).setCell S1.out.bb _
theorem gcStart (w : World) (A B : Option Addr) (La ca Lb cb : Nat) (xs ys : List Nat) (F : Value) (P : Pol w A ca xs) (Q : Pol w B cb ys) (la : xs.length = La) (lb : ys.length = Lb) :
    GcSt w.heap.size w.heap.size (w.heap.size + 1) A B La ca Lb cb xs ys (((w.alloc (.cells #[.slice A La ca] 28)).alloc (.cells #[.slice B Lb cb] 28)).alloc (.cells #[F] 83)) ∧
    Box (((w.alloc (.cells #[.slice A La ca] 28)).alloc (.cells #[.slice B Lb cb] 28)).alloc (.cells #[F] 83)) (w.heap.size + 1 + 1) 83 F := by
  have b1 : Box (w.alloc (.cells #[.slice A La ca] 28)) w.heap.size 28 (.slice A La ca) := box_new _ _ _
  generalize hw1 : w.alloc (.cells #[.slice A La ca] 28) = w1 at b1 ⊢
  have s1 : w1.heap.size = w.heap.size + 1 := by rw [← hw1]; simp
  have B1 : Below w.heap.size w w1 := by rw [← hw1]; exact below_allocs w _
  have b2 : Box (w1.alloc (.cells #[.slice B Lb cb] 28)) w1.heap.size 28 (.slice B Lb cb) := box_new _ _ _
  generalize hw2 : w1.alloc (.cells #[.slice B Lb cb] 28) = w2 at b2 ⊢
  have s2 : w2.heap.size = w.heap.size + 1 + 1 := by rw [← hw2]; simp [s1]
  have B2 : Below w1.heap.size w1 w2 := by rw [← hw2]; exact below_allocs w1 _
  have b3 : Box (w2.alloc (.cells #[F] 83)) w2.heap.size 83 F := box_new _ _ _
  generalize hw3 : w2.alloc (.cells #[F] 83) = w3 at b3 ⊢
  have B3 : Below w2.heap.size w2 w3 := by rw [← hw3]; exact below_allocs w2 _
  rw [s2] at b3
  rw [s1] at b2
  have B23 := below_then B2 B3
  have B13 := below_then B1 B23
  exact ⟨⟨b1.below B23, b2.below B3, P.below B13, Q.below B13, la, lb, by omega, by omega, by omega⟩, b3⟩
theorem gcBelow (w0 w : World) (h : Below w0.heap.size w0 w) (x y z : Value) :
    Below w0.heap.size w0 (((w.alloc (.cells #[x] 28)).alloc (.cells #[y] 28)).alloc (.cells #[z] 83)) :=
  below_alloc (below_alloc (below_alloc h _) _) _
set_option maxRecDepth 100000 in
set_option maxHeartbeats 2000000 in
theorem gcWalk (A B : Option Addr) (La ca Lb cb G : Nat) (xs ys : List Nat) (w : World) (P : Hid (Pol w A ca xs)) (Q : Hid (Pol w B cb ys)) (la : Hid (xs.length = La)) (lb : Hid (ys.length = Lb)) (bLa : La ≤ 50000) (bLb : Lb ≤ 50000) (hG : Hid (gc (leN xs) (leN ys) = G)) :
    Calls Tryd.prog 47 #[.slice A La ca, .slice B Lb cb, .func (.func 48) #[] #[]] w (Ans G w) := by
  go_enter Tryd.func47, Tryd.ntmps47
  go_wp2_with fail
  have ST := Lib.hid (gcStart w A B La ca Lb cb xs ys (.func (.func 48) #[] #[]) P.out Q.out la.out lb.out)
  have BW := Lib.hid (gcBelow w w (Below.refl _ _) (.slice A La ca) (.slice B Lb cb) (.func (.func 48) #[] #[]))
  generalize hV : World.alloc _ _ = V at ST BW ⊢
  clear hV
  go_loopg [10] (len (leN ys)) (fun g u wr => ∃ (A' B' : Option Addr) (La' ca' Lb' cb' : Nat) (xs' ys' : List Nat), Hid (GcSt w.heap.size w.heap.size (w.heap.size + 1) A' B' La' ca' Lb' cb' xs' ys' wr) ∧ Hid (Box wr (w.heap.size + 1 + 1) 83 (.func (.func 48) #[] #[])) ∧ La' ≤ 50000 ∧ Lb' ≤ 50000 ∧ Hid (gc (leN xs') (leN ys') = G) ∧ Hid (len (leN ys') = g) ∧ Hid (Below w.heap.size w wr))
  case atStart => exact ⟨A, B, La, ca, Lb, cb, xs, ys, Lib.hid ST.out.1, Lib.hid ST.out.2, bLa, bLb, hG, Lib.hid rfl, BW⟩
  case round =>
    obtain ⟨A', B', La', ca', Lb', cb', xs', ys', S, E, b1, b2, hg, hl, HB⟩ := hrel
    clear ST BW
    by_cases h0 : leN ys' = 0
    · have T := Lib.hid (turnNo w.heap.size w.heap.size (w.heap.size + 1) (w.heap.size + 1 + 1) (.func (.func 48) #[] #[]) A' B' La' ca' Lb' cb' xs' ys' wr S.out b2 h0)
      have O := Lib.hid (gOwn G S.out.pa S.out.la (by have := hg.out; rw [h0, gc_zero] at this; exact this) b1)
      have e1 := S.out.bA.cell
      clear h0
      go_wp2_with fail
      refine (T.out).mono ?_
      rintro e w1 ⟨rfl, rfl⟩
      go_wp2_with fail
      refine (O.out).mono ?_
      rintro e w1 ⟨A1, c1, rfl, P1, hb⟩
      have HP := Lib.hid P1
      have HB1 := Lib.hid (below_then HB.out hb)
      clear P1 hb
      go_wp2_with fail
      go_ret
      exact ⟨A1, c1, rfl, HP.out, HB1.out⟩
    · have T := Lib.hid (turnGcd w.heap.size w.heap.size (w.heap.size + 1) (w.heap.size + 1 + 1) _ A' B' La' ca' Lb' cb' xs' ys' wr HB.out.size S.out E.out b1 b2 h0 rfl)
      have g1 := Lib.hid (show gc (leN ys') (leN (wordsOf (rt (leN xs') (leN ys')))) = G from by rw [leN_wordsOf, ← gc_step h0]; exact hg.out)
      have g2 : len (leN (wordsOf (rt (leN xs') (leN ys')))) < gk := by rw [leN_wordsOf, ← hl.out]; exact rt_lt h0
      have g3 := Nat.le_trans (wl_rt (a := leN xs') h0 (len_pol S.out.pb S.out.lb)) b2
      clear h0
      generalize rt (leN xs') (leN ys') = R at T g1 g2 g3
      go_wp2_with fail
      refine (T.out).mono ?_
      rintro e w1 ⟨rfl, C, cc, S1, E1, hb⟩
      have HS1 := Lib.hid S1
      have HE1 := Lib.hid E1
      have HB1 := Lib.hid (HB.out.trans hb)
      clear S1 E1 hb T
      go_wp2_with fail
      go_roundg (len (leN (wordsOf R)))
      case measure => exact g2
      case rel => exact ⟨B', C, Lb', cb', _, cc, ys', wordsOf R, HS1, HE1, b2, g3, g1, Lib.hid rfl, HB1⟩
set_option maxHeartbeats 1000000 in
theorem gGcd {A B : Option Addr} {L K ca cb : Nat} {xs ys : List Nat} {w : World} (G : Nat) (P : Pol w A ca xs) (Q : Pol w B cb ys) (hL : xs.length = L) (hK : ys.length = K) (hG : gc (leN xs) (leN ys) = G) (bL : L ≤ 50000) (bK : K ≤ 50000) :
    Calls Tryd.prog 26 #[.slice A L ca, .slice B K cb] w (Ans G w) := by
  have D := Lib.hid (gcWalk A B L ca K cb G xs ys w (Lib.hid P) (Lib.hid Q) (Lib.hid hL) (Lib.hid hK) bL bK (Lib.hid hG))
  clear P Q hL hK hG
  go_enter Tryd.func26, Tryd.ntmps26
  go_wp2_with fail
  refine (D.out).mono ?_
  rintro e w1 ⟨A1, c1, rfl, P1, hb⟩
  have HP := Lib.hid P1
  have HB := Lib.hid hb
  clear P1 hb
  go_wp2_with fail
  go_ret
  exact ⟨A1, c1, rfl, HP.out, HB.out⟩
end Go.Proofs.YtemgoikghaiamaaDoor
/-
  What the call Square of package gfp answers, for all lists of words (of up to 50000).
-/
namespace Go.Proofs.YtemgoikghaiamaaDoor
open Go.RowKit G
set_option linter.unusedVariables false

theorem leN_set_new (ps : List Nat) (k v : Nat) (hw : Wds ps) (hk : k < ps.length) (hv : v < 18446744073709551616) (h0 : ps.getD k 0 = 0) : leN (ps.set k v) = leN ps ^^^ v * 2 ^ (64 * k) := by
  have := leN_set_xor ps k v hw hk hv
  rwa [h0, Nat.zero_xor] at this
/-- What the row of Square holds after k rounds. -/
structure SqTo (k : Nat) (xs ps : List Nat) : Prop where
  val : leN ps = clm (leN (xs.take k)) (leN (xs.take k))
  zero : ∀ i, 2 * k ≤ i → ps.getD i 0 = 0
theorem SqTo.start (n : Nat) (xs : List Nat) : SqTo 0 xs (List.replicate n 0) :=
  ⟨by rw [leN_zero (fun i => getD_zero n i), List.take_zero]; exact (clm_zero 0).symm, fun i _ => getD_zero n i⟩
theorem SqTo.step {k t u : Nat} {xs ps : List Nat} (h : SqTo k xs ps) (hx : Wds xs) (hp : Wds ps) (hk : k < xs.length) (ht : t = 2 * k) (hu : u = 2 * k + 1) (hl : u < ps.length) (v : Nat) (hv : v = clm (xs.getD k 0) (xs.getD k 0)) (hv2 : v / 18446744073709551616 < 18446744073709551616) :
    SqTo (k + 1) xs ((ps.set u (v / 18446744073709551616)).set t (v % 18446744073709551616)) := by
  have l2 : v % 18446744073709551616 < 18446744073709551616 := Nat.mod_lt _ (by decide)
  have hp1 := hp.set u _ hv2
  have g1 : (ps.set u (v / 18446744073709551616)).getD t 0 = 0 := by rw [getD_set _ _ _ _ hl, if_neg (by omega)]; exact h.zero t (by omega)
  refine ⟨?_, fun i hi => ?_⟩
  · rw [leN_set_new _ t _ hp1 (by rw [List.length_set]; omega) l2 g1, leN_set_new _ u _ hp hl hv2 (h.zero u (by omega)), h.val, leN_take_succ xs k hx, sq_xor, Nat.xor_assoc]
    congr 1
    rw [clm_shift, clm_shift_left, ← hv, hu, ht, two_words, Nat.mul_assoc, ← Nat.pow_add]
    congr 2
    omega
  · rw [getD_set _ _ _ _ (by rw [List.length_set]; omega), if_neg (by omega), getD_set _ _ _ _ hl, if_neg (by omega)]
    exact h.zero i (by omega)
set_option maxRecDepth 100000 in
set_option maxHeartbeats 2000000 in
theorem squareWalk (A : Option Addr) (ca L M : Nat) (xs : List Nat) (hL : Hid (xs.length = L)) (bl : L ≤ 50000) (hM : Hid (2 * L = M)) (w : World) (P : Hid (Pol w A ca xs)) (Z : Nat) (hZ : Hid (clm (leN xs) (leN xs) = Z)) :
    Calls Tryd.prog 61 #[.slice A L ca] w (Ans Z w) := by
  have bM : M ≤ 100000 := by have := hM.out; omega
  have hmk := run_make_row' (P := Tryd.prog) 28 22 (.int .u64 0) 8 Tryd.underlying28 infoW rfl .i64 .i64 M (by omega) (by omega)
  have e3 : 2 * (L : Int) = (M : Int) := by have := hM.out; omega
  go_enter Tryd.func61, Tryd.ntmps61
  go_wp2
  clear hmk e3
  have F0 := Fill.start w M
  have Z0 := Lib.hid (SqTo.start M xs)
  generalize hps : List.replicate M 0 = ps0 at F0 Z0
  clear hps
  go_loopg [14] L (fun g i wr => ∃ (k : Nat) (ps : List Nat), k + g = L ∧ i = .int .i64 k ∧ Hid (SqTo k xs ps) ∧ Hid (Fill w w.heap.size M ps wr))
  case atStart => exact ⟨0, ps0, by omega, rfl, Z0, Lib.hid F0⟩
  case round =>
    obtain ⟨k, ps, hk, rfl, hp, F⟩ := hrel
    clear F0 Z0
    by_cases hlt : k < L
    · have kl : (k : Int) < (L : Int) := by omega
      have k0 : (0 : Int) ≤ (k : Int) := by omega
      obtain ⟨t, ht⟩ : ∃ t, t = 2 * k := ⟨_, rfl⟩
      obtain ⟨u, hu⟩ : ∃ u, u = 2 * k + 1 := ⟨_, rfl⟩
      have uM : u < M := by have := hM.out; omega
      have tM : t < M := by have := hM.out; omega
      obtain ⟨c1, c2⟩ := F.out.cell u uM
      have P' := Lib.hid (P.out.far F.out.below)
      have hx := P.out.word.get k
      have W1 := cWord A ca xs k _ rfl wr P'.out
      rw [hL.out] at W1
      have hl := high_lt hx hx
      have F1 := F.out.set u (clm (xs.getD k 0) (xs.getD k 0) / 18446744073709551616) uM hl
      obtain ⟨c3, c4⟩ := F1.cell t tM
      have F2 := Lib.hid (F1.set t (clm (xs.getD k 0) (xs.getD k 0) % 18446744073709551616) tM (Nat.mod_lt _ (by decide)))
      have H1 := Lib.hid (hp.out.step P.out.word F.out.wds (by rw [hL.out]; exact hlt) ht hu (by rw [F.out.len]; exact uM) _ rfl hl)
      have W2 := cWords _ _ hx hx wr
      clear F1
      generalize (ps.set u (clm (xs.getD k 0) (xs.getD k 0) / 18446744073709551616)).getD t 0 = p2 at c3
      generalize (ps.set u (clm (xs.getD k 0) (xs.getD k 0) / 18446744073709551616)).set t (clm (xs.getD k 0) (xs.getD k 0) % 18446744073709551616) = ps' at F2 H1
      generalize clm (xs.getD k 0) (xs.getD k 0) / 18446744073709551616 = h at F2 c3 c4 W2 hl
      generalize clm (xs.getD k 0) (xs.getD k 0) % 18446744073709551616 = l at F2 W2
      generalize xs.getD k 0 = x at W1 hx W2
      generalize ps.getD u 0 = p at c1
      have HW1 := Lib.hid W1
      have HW2 := Lib.hid W2
      clear W1 W2
      have r1 : 2 * (k : Int) = (t : Int) := by omega
      have r2 : (t : Int) + 1 = (u : Int) := by omega
      have r4 : (t : Int) < (M : Int) := by omega
      have r5 : (0 : Int) ≤ (t : Int) := by omega
      have r6 : (u : Int) < (M : Int) := by omega
      have r7 : (0 : Int) ≤ (u : Int) := by omega
      clear ht hu
      go_wp2_with (first
        | (go_at_call 49; ((with_reducible refine (HW1.out).mono ?_); rintro e w' ⟨rfl, rfl⟩))
        | (go_at_call 68; ((with_reducible refine (HW2.out).mono ?_); rintro e w' ⟨rfl, rfl⟩)))
      go_roundg (gk - 1)
      case measure => omega
      case rel => exact ⟨k + 1, ps', by omega, by go_num, H1, F2⟩
    · obtain rfl : k = L := by omega
      have hs' : leN ps = Z := by
        have h1 := hp.out.val
        rw [← hL.out, List.take_length] at h1
        rw [h1]; exact hZ.out
      have O := cOwn (some ⟨w.heap.size, 0, none⟩) M ps Z hs' (by rw [F.out.len]; omega) wr (F.out.pol (by omega))
      rw [F.out.len] at O
      have HO := Lib.hid O
      clear O hs'
      go_wp2_with (go_at_call 44; ((with_reducible refine (HO.out).mono ?_); rintro e w' ⟨A', c', rfl, PA, hb⟩))
      go_ret
      exact ⟨A', c', rfl, PA, below_then F.out.below hb⟩
theorem cSquare (A : Option Addr) (ca : Nat) (xs : List Nat) (Z : Nat) (hZ : clm (leN xs) (leN xs) = Z) (hl : xs.length ≤ 50000) (w : World) (P : Pol w A ca xs) :
    Calls Tryd.prog 61 #[.slice A xs.length ca] w (Ans Z w) :=
  squareWalk A ca _ _ xs (Lib.hid rfl) hl (Lib.hid rfl) w (Lib.hid P) Z (Lib.hid hZ)
section
variable {A B : Option Addr} {L K ca cb : Nat} {xs ys : List Nat} {w : World}
theorem gSquare (Z : Nat) (P : Pol w A ca xs) (hL : xs.length = L) (hZ : clm (leN xs) (leN xs) = Z) (hl : L ≤ 50000) :
    Calls Tryd.prog 61 #[.slice A L ca] w (Ans Z w) := by
  subst hL; exact cSquare A ca xs Z hZ (by omega) w P
end
end Go.Proofs.YtemgoikghaiamaaDoor
/-
  What the calls Of, Full, Sub, Left, Len and Bit of package wide answer, for numbers as such; what rest and square of package gfpow answer.
-/
namespace Go.Proofs.YtemgoikghaiamaaDoor
open Go.RowKit G
set_option linter.unusedVariables false

/-- h and l are the two words of N. -/
structure Wn (h l : Int) (N : Nat) : Prop where
  h0 : 0 ≤ h
  h1 : h < 18446744073709551616
  l0 : 0 ≤ l
  l1 : l < 18446744073709551616
  eq : h * 18446744073709551616 + l = (N : Int)
def hiW (N : Nat) : Nat := N / 18446744073709551616
def loW (N : Nat) : Nat := N % 18446744073709551616
theorem Wn.of {h l : Int} {N : Nat} (k : Wn h l N) : h = ((hiW N : Nat) : Int) ∧ l = ((loW N : Nat) : Int) := by
  obtain ⟨a, b, c, d, e⟩ := k
  unfold hiW loW
  omega
theorem Wn.lt {h l : Int} {N : Nat} (k : Wn h l N) : N < 340282366920938463463374607431768211456 := by
  obtain ⟨a, b, c, d, e⟩ := k
  omega
theorem wn_of {N : Nat} (h : N < 340282366920938463463374607431768211456) : Wn ((hiW N : Nat) : Int) ((loW N : Nat) : Int) N := by
  unfold hiW loW
  exact ⟨by omega, by omega, by omega, by omega, by omega⟩
theorem wn_nat {h l N : Nat} (h1 : h < 18446744073709551616) (l1 : l < 18446744073709551616) (e : h * 18446744073709551616 + l = N) : Wn (h : Int) (l : Int) N := ⟨by omega, by omega, by omega, by omega, by omega⟩
/-- An answer that is a number of 128 bits. -/
def AnsW (N : Nat) (w : World) (e : Ending) (w' : World) : Prop := e = .returned (.agg #[.int .u64 ((hiW N : Nat) : Int), .int .u64 ((loW N : Nat) : Int)]) ∧ Below w.heap.size w w'
/-- An answer that is an int. -/
def AnsI (n : Int) (w : World) (e : Ending) (w' : World) : Prop := e = .returned (.int .i64 n) ∧ Below w.heap.size w w'
theorem ansW_of {h l : Int} {N : Nat} {w w' : World} (k : Wn h l N) (hb : Below w.heap.size w w') : AnsW N w (.returned (.agg #[.int .u64 h, .int .u64 l])) w' := by
  obtain ⟨rfl, rfl⟩ := k.of
  exact ⟨rfl, hb⟩
theorem wn_is {h l n : Int} {N : Nat} (k : Wd.Is n h l) (e : n = (N : Int)) : Wn h l N := by
  obtain ⟨a, b, c, d, f⟩ := k
  exact ⟨a, b, c, d, by omega⟩
theorem cOf (n : Nat) (x : Int) (e : (n : Int) = x) (h : n < 18446744073709551616) (w : World) : Calls Tryd.prog 17 #[.int .u64 x] w (AnsW n w) := by
  subst e
  refine (Wd.wOf (n : Int) (by omega) (by omega) w).mono ?_
  rintro e w' ⟨h, l, ⟨rfl, rfl⟩, rfl, hb⟩
  exact ansW_of ⟨by omega, by omega, by omega, by omega, by omega⟩ hb
/-- An answer that is a number and a bool. -/
def AnsWB (N : Nat) (c : Bool) (w : World) (e : Ending) (w' : World) : Prop := e = .returned (.tuple #[.agg #[.int .u64 ((hiW N : Nat) : Int), .int .u64 ((loW N : Nat) : Int)], .bool c]) ∧ Below w.heap.size w w'
theorem len_two_words (h l : Nat) (hl : l < 18446744073709551616) (h0 : h ≠ 0) : len (h * 18446744073709551616 + l) = 64 + len h := by
  have a := len_ge h0
  have b := len_lt h
  have c := len_pos h0
  rw [show 64 + len h = (63 + len h) + 1 from by omega]
  refine len_of ?_ ?_
  · rw [show 63 + len h = (len h - 1) + 64 from by omega, Nat.pow_add]
    calc 2 ^ (len h - 1) * 2 ^ 64 ≤ h * 2 ^ 64 := Nat.mul_le_mul_right _ a
      _ ≤ h * 18446744073709551616 + l := by omega
  · rw [show 63 + len h + 1 = len h + 64 from by omega, Nat.pow_add]
    have : (h + 1) * 2 ^ 64 ≤ 2 ^ len h * 2 ^ 64 := Nat.mul_le_mul_right _ b
    omega
set_option maxRecDepth 100000 in
set_option maxHeartbeats 400000 in
theorem cLen {a b : Int} {M : Nat} (K : Nat) (i : Wn a b M) (e : len M = K) (w : World) :
    Calls Tryd.prog 76 #[.agg #[.int .u64 a, .int .u64 b]] w (AnsI (K : Int) w) := by
  obtain ⟨h, rfl⟩ := Int.eq_ofNat_of_zero_le i.h0
  obtain ⟨l, rfl⟩ := Int.eq_ofNat_of_zero_le i.l0
  have h1 := i.h1
  have l1 := i.l1
  have hM : h * 18446744073709551616 + l = M := by have := i.eq; omega
  clear i
  by_cases h0 : h = 0
  · subst h0
    have E := Lib.hid (show len l = K from by rw [← e, ← hM]; simp)
    clear e hM
    go_enter Tryd.func76, Tryd.ntmps76
    go_wp2_with (go_at_call 52; refine (cLen64 l (by omega) _).mono ?_; rintro e w' ⟨rfl, rfl⟩)
    go_ret
    exact ⟨by rw [E.out]; rfl, below_alloc (Below.refl _ _) _⟩
  · have hne : ((h : Int) != 0) = true := by simp; omega
    have hne2 : (h != 0) = true := by simpa using h0
    have hq := len_word (x := h) (by omega)
    have E := Lib.hid (show 64 + len h = K from by rw [← e, ← hM, len_two_words h l (by omega) h0])
    clear e hM
    go_enter Tryd.func76, Tryd.ntmps76
    go_wp2_with (go_at_call 52; refine (cLen64 h (by omega) _).mono ?_; rintro e w' ⟨rfl, rfl⟩)
    go_ret
    exact ⟨by rw [← E.out]; simp, below_alloc (Below.refl _ _) _⟩
theorem cBitW {a b : Int} {M : Nat} (k K : Nat) (i : Wn a b M) (e : M / 2 ^ k % 2 = K) (w : World) :
    Calls Tryd.prog 75 #[.agg #[.int .u64 a, .int .u64 b], .int .i64 (k : Int)] w (AnsI (K : Int) w) := by
  have h := Wd.wBit a b (k : Int) i.h0 i.h1 i.l0 i.l1 w
  rw [i.eq] at h
  refine h.mono ?_
  rintro e w' ⟨r, rfl, rfl, hb⟩
  refine ⟨?_, hb⟩
  have : Wd.bitOf (M : Int) (k : Int) = (K : Int) := by
    unfold Wd.bitOf
    rw [if_neg (by omega), Int.toNat_natCast, show ((M : Int) / 2 ^ k % 2) = ((M / 2 ^ k % 2 : Nat) : Int) from by rw [Int.natCast_emod, Int.natCast_ediv, Int.natCast_pow]; rfl, ‹M / 2 ^ k % 2 = K›]
  rw [this]

theorem gX (n N : Nat) (x : Int) (e : (n : Int) = x) (k : 2 ^ n = N) (h : n ≤ 2048) (w : World) : Calls Tryd.prog 25 #[.int .i64 x] w (Ans N w) := by
  subst e k; exact cX n h w
set_option maxHeartbeats 1000000 in
theorem gRest {A B : Option Addr} {L K ca cb : Nat} {xs ys : List Nat} {w : World} (R : Nat) (P : Pol w A ca xs) (Q : Pol w B cb ys) (hL : xs.length = L) (hK : ys.length = K) (hR : rt (leN xs) (leN ys) = R) (bL : L ≤ 50000) (bK : K ≤ 50000) (h0 : leN ys ≠ 0) :
    Calls Tryd.prog 60 #[.slice A L ca, .slice B K cb] w (Ans R w) := by
  have D := Lib.hid (gMod R P Q hL hK hR bL bK h0)
  clear P Q hL hK hR h0
  go_enter Tryd.func60, Tryd.ntmps60
  go_wp2_with fail
  refine (D.out).mono ?_
  rintro e w1 ⟨A1, c1, rfl, P1, hb⟩
  have HP := Lib.hid P1
  have HB := Lib.hid hb
  clear P1 hb
  go_wp2_with fail
  go_ret
  exact ⟨A1, c1, rfl, HP.out, HB.out⟩
theorem len_sq_le {a k : Nat} (h : len a ≤ k) : len (clm a a) ≤ 2 * k := by
  by_cases z : a = 0
  · subst z; rw [clm_zero, len_zero]; omega
  · have := (len_clm z z).2; omega
set_option maxHeartbeats 1000000 in
theorem gSq {A B : Option Addr} {L K ca cb : Nat} {xs ys : List Nat} {w : World} (R : Nat) (P : Pol w A ca xs) (Q : Pol w B cb ys) (hL : xs.length = L) (hK : ys.length = K) (hR : rt (clm (leN xs) (leN xs)) (leN ys) = R) (bL : L ≤ 20000) (bK : K ≤ 50000) (h0 : leN ys ≠ 0) :
    Calls Tryd.prog 45 #[.slice A L ca, .slice B K cb] w (Ans R w) := by
  have l4 := Lib.hid (wl_len (N := clm (leN xs) (leN xs)) (k := 2 * L) (by have := len_sq_le (len_pol P hL); omega))
  have HP := Lib.hid P
  have HQ := Lib.hid Q
  have h1 := Lib.hid hL
  have h2 := Lib.hid hK
  have h4 := Lib.hid hR
  have h5 := Lib.hid h0
  clear P Q hL hK hR h0
  go_enter Tryd.func45, Tryd.ntmps45
  go_wp2_with fail
  refine (gSquare _ HP.out h1.out rfl (by omega)).mono ?_
  rintro e w1 ⟨A1, c1, rfl, P1, hb⟩
  have HP1 := Lib.hid P1
  have HB1 := Lib.hid hb
  clear P1 hb
  go_wp2_with fail
  refine (gRest R HP1.out (HQ.out.below HB1.out) rfl h2.out (by rw [leN_wordsOf]; exact h4.out) (by have := l4.out; omega) (by omega) h5.out).mono ?_
  rintro e w2 ⟨A2, c2, rfl, P2, hb⟩
  have HP2 := Lib.hid P2
  have HB2 := Lib.hid (below_then HB1.out hb)
  clear P2 hb
  go_wp2_with fail
  go_ret
  exact ⟨A2, c2, rfl, HP2.out, HB2.out⟩
end Go.Proofs.YtemgoikghaiamaaDoor
/-
  What the call fromHighest of package gfpow answers: an iterator over a number's bits, from its highest 1 on.
-/
namespace Go.Proofs.YtemgoikghaiamaaDoor
open Go.RowKit G Go.Shelf
set_option linter.unusedVariables false
attribute [local go_sem] Oper.semAt_some

set_option maxRecDepth 100000 in
set_option maxHeartbeats 400000 in
theorem gRounds {a b : Int} {M : Nat} (K : Nat) (i : Wn a b M) (e : len M = K) (w : World) :
    Calls Tryd.prog 74 #[.agg #[.int .u64 a, .int .u64 b]] w (AnsI (K : Int) w) := by
  have hl := Lib.hid i
  have he := Lib.hid e
  clear i e
  go_enter Tryd.func74, Tryd.ntmps74
  go_wp2_with fail
  refine (cLen K hl.out he.out _).mono ?_
  rintro e w1 ⟨rfl, hb⟩
  have HB := Lib.hid (below_then (below_alloc (Below.refl _ _) _) hb)
  clear hb
  go_wp2_with fail
  go_ret
  exact ⟨rfl, HB.out⟩
/-- The bits of a number, k of them, from the highest one on, of L. -/
def hbits (N L : Nat) : Nat → List Bool
  | 0 => []
  | k + 1 => hbits N L k ++ [decide (N / 2 ^ (L - 1 - k) % 2 = 1)]
theorem hbits_length (N L : Nat) : ∀ k, (hbits N L k).length = k
  | 0 => rfl
  | k + 1 => by simp [hbits, hbits_length N L k]
/-- The number that bits tell, from the highest one on. -/
def val (l : List Bool) : Nat := l.foldl (fun v b => 2 * v + b.toNat) 0
theorem val_snoc (l : List Bool) (b : Bool) : val (l ++ [b]) = 2 * val l + b.toNat := by simp [val]
theorem val_hbits (N L : Nat) (h : N < 2 ^ L) : ∀ k, k ≤ L → val (hbits N L k) = N / 2 ^ (L - k)
  | 0, _ => by simp only [hbits, val, List.foldl_nil]; rw [Nat.sub_zero, Nat.div_eq_of_lt h]
  | k + 1, hk => by
    rw [hbits, val_snoc, val_hbits N L h k (by omega), show L - (k + 1) = L - 1 - k from by omega]
    have e : N / 2 ^ (L - k) = N / 2 ^ (L - 1 - k) / 2 := by
      rw [Nat.div_div_eq_div_mul, ← Nat.pow_succ]; congr 2; omega
    rw [e]
    have : (decide (N / 2 ^ (L - 1 - k) % 2 = 1)).toNat = N / 2 ^ (L - 1 - k) % 2 := by
      by_cases z : N / 2 ^ (L - 1 - k) % 2 = 1
      · simp [z]
      · have : N / 2 ^ (L - 1 - k) % 2 = 0 := by omega
        simp [this]
    rw [this]
    omega
/-- What a round of the iterator keeps: the block of the number. -/
def KpU (b : Nat) (o : Obj) (W W' : World) : Prop := W.heap[b]? = some o → W'.heap[b]? = some o
theorem kpU_t {b : Nat} {o : Obj} {A B C : World} (h : KpU b o A B) (k : KpU b o B C) : KpU b o A C := fun x => k (h x)
theorem kpU_b {b : Nat} {o : Obj} {w : World} (hb : b < w.heap.size) (W : World) (l : Nat) (x y : Obj) (hl : w.heap.size ≤ l) (h : W.heap[l]? = some x) (_ : x.isCells = false) (_ : x.isWalk = false) : KpU b o W (W.putObj l y) :=
  fun e => (World.putObj_heap_other (by omega)).trans e
theorem grown_of_below {w w' : World} (h : Below w.heap.size w w') : w.grownBy w' none := ⟨h.os, h.tape, h.output, h.size, fun i hi _ => h.block i hi⟩
theorem cell0_of_block {w : World} {b : Nat} {x y : Value} {t : TypeId} (h : w.heap[b]? = some (.cells #[x, y] t (0, 0))) : w.cell? ⟨b, 0, none⟩ = some x ∧ w.cell? ⟨b, 1, none⟩ = some y := by
  constructor <;> simp [World.cell?, h]

set_option maxRecDepth 100000 in
set_option maxHeartbeats 1000000 in
theorem highest1 (n : Nat) (hn : 1 ≤ n) (l Bn : Nat) (a b : Int) (N L : Nat) (i : Wn a b N) (hL : len N = L) (bL : L ≤ 1000) (J Jx : List Bool → World → Prop) (W : World)
    (hJ : AbidesFrom W.heap.size J)
    (hY : ∀ pre x W1, J pre W1 → pre.length < L → YieldAt Fence.wide (n - 1) Tryd.prog l #[.bool x] W1 fun e W' =>
      (e = .returned (.bool true) ∧ J (pre ++ [x]) W' ∧ KpU Bn (.cells #[.int .u64 a, .int .u64 b] 26 (0, 0)) W1 W') ∨ (e = .returned (.bool false) ∧ Jx (pre ++ [x]) W'))
    (hB : W.heap[Bn]? = some (.cells #[.int .u64 a, .int .u64 b] 26 (0, 0))) (h0 : J [] W) :
    CallsIn Fence.wide n Tryd.prog 73 #[.func (.yield l) #[] #[], .pointer (some ⟨Bn, 0, none⟩)] W fun e W' => (∃ v, e = .returned v) ∧
      ((∃ xs, xs = hbits N L L ∧ J xs W') ∨ (∃ pre, True ∧ Jx pre W')) := by
  have HI := Lib.hid i
  have HL := Lib.hid hL
  have HBl := Lib.hid hB
  have HJ := Lib.hid hJ
  have HY := Lib.hid hY
  have H0 := Lib.hid h0
  obtain ⟨c0, c1⟩ := cell0_of_block hB
  clear i hL hB hJ hY h0
  refine callsIn_of_wp Tryd.func73 rfl trivial ?_ rfl
  simp only [Tryd.ntmps73, List.size_toArray, List.length_cons, List.length_nil, Nat.reduceAdd, Nat.reduceSub, Array.replicate_succ, Array.replicate_zero, List.push_toArray, List.append_toArray, List.nil_append, List.cons_append]
  gi_wp2_with (refine ⟨trivial, ?_⟩; gi_at_call 74; refine (callsIn_wide.2 (gRounds L HI.out HL.out _)).mono ?_; rintro e w1 ⟨rfl, hb⟩; have HB1 := Lib.hid hb; clear hb)
  clear c0 c1
  gi_loopw [3] (fun i wr => ∃ k : Nat, k ≤ L ∧ i = .int .i64 ((L : Int) - 1 - k) ∧ Hid (J (hbits N L k) wr) ∧ Hid (wr.heap[Bn]? = some (.cells #[.int .u64 a, .int .u64 b] 26 (0, 0)))) (fun i _ => (intOf i + 1).toNat)
  case atStart => exact ⟨0, by omega, by simp, Lib.hid (HJ.out _ _ _ none H0.out (grown_of_below HB1.out) (fun r e => by cases e)), Lib.hid ((HB1.out.block _ (Array.getElem?_eq_some_iff.1 HBl.out).1).trans HBl.out)⟩
  case round =>
    obtain ⟨k, hk, rfl, hJ, hB⟩ := hrel
    by_cases hlt : k < L
    · obtain ⟨j, hj⟩ : ∃ j, j + k + 1 = L := ⟨L - 1 - k, by omega⟩
      have ej : (L : Int) - 1 - (k : Int) = (j : Int) := by omega
      rw [ej]
      have j0 : (0 : Int) ≤ (j : Int) := by omega
      have j1 : (j : Int) ≤ 1000 := by omega
      obtain ⟨c0, c1⟩ := cell0_of_block hB.out
      have jj := Lib.hid hj
      have eb := Lib.hid (show L - 1 - k = j from by omega)
      have hlen := Lib.hid (show (hbits N L k).length < L from by rw [hbits_length]; exact hlt)
      obtain ⟨x, hx⟩ : ∃ x, N / 2 ^ j % 2 = x := ⟨_, rfl⟩
      have HX := Lib.hid hx
      have x2 : x < 2 := by omega
      have hd : ((x : Int) == 1) = decide (x = 1) := by
        by_cases z : x = 1
        · subst z; rfl
        · have : x = 0 := by omega
          subst this; rfl
      clear ej hj hk hlt hx
      gi_wp2_with (refine ⟨trivial, ?_⟩; gi_at_call 75; refine (callsIn_wide.2 (cBitW j x HI.out HX.out _)).mono ?_; rintro e w2 ⟨rfl, hb⟩; have HB2 := Lib.hid hb; clear hb)
      obtain ⟨fn, tmps, assign, body, hy, hR⟩ := HY.out (hbits N L k) (decide (x = 1)) w2 (HJ.out _ _ _ none hJ.out (grown_of_below HB2.out) (fun r e => by cases e)) hlen.out
      have e1 := Lib.hid (show hbits N L k ++ [decide (x = 1)] = hbits N L (k + 1) from by rw [← HX.out, ← eb.out]; rfl)
      have B2 := Lib.hid ((HB2.out.block _ (Array.getElem?_eq_some_iff.1 hB.out).1).trans hB.out)
      clear hd
      rw [hy]
      gi_wp2
      refine hR.mono ?_
      rintro e W3 (⟨rfl, hJ3, hk3⟩ | ⟨rfl, hJx3⟩)
      · rw [e1.out] at hJ3
        have J3 := Lib.hid hJ3
        have B3 := Lib.hid (hk3 B2.out)
        clear hJ3 hk3
        gi_wp2
        go_roundw
        case rel => exact ⟨k + 1, by have := jj.out; omega, by rw [show (j : Int) - 1 = (L : Int) - 1 - ((k + 1 : Nat) : Int) from by have := jj.out; omega], J3, B3⟩
        case measure => simp [intOf]
      · gi_wp2
        refine bodyPost_ret (results_none rfl _ _ _) rfl ?_
        exact ⟨⟨_, rfl⟩, .inr ⟨_, trivial, hJx3⟩⟩
    · obtain rfl : k = L := by omega
      have e1 : (k : Int) - 1 - (k : Int) = -1 := by omega
      rw [e1]
      gi_wp2
      go_end0
      exact ⟨⟨_, rfl⟩, .inl ⟨_, rfl, hJ.out⟩⟩

set_option maxRecDepth 100000 in
set_option maxHeartbeats 1000000 in
theorem gFromHighest (a b : Int) (w : World) :
    Calls Tryd.prog 69 #[.agg #[.int .u64 a, .int .u64 b]] w (fun e w' => e = .returned (.func (.func 73) #[] #[.pointer (some ⟨w.heap.size, 0, none⟩)]) ∧ w.alloc (.cells #[.int .u64 a, .int .u64 b] 26) = w') := by
  go_enter Tryd.func69, Tryd.ntmps69
  go_wp2
  go_ret
  exact ⟨rfl, rfl⟩
theorem highest_stops (n : Nat) (hn : 1 ≤ n) (Bn : Nat) (a b : Int) (N L : Nat) (i : Wn a b N) (hL : len N = L) (bL : L ≤ 1000) (w : World) (hB : w.heap[Bn]? = some (.cells #[.int .u64 a, .int .u64 b] 26 (0, 0))) :
    SeqStopsK Fence.wide n Tryd.prog 73 #[.pointer (some ⟨Bn, 0, none⟩)] (fun x : Bool => #[Value.bool x]) (KpU Bn (.cells #[.int .u64 a, .int .u64 b] 26 (0, 0))) (fun xs => xs = hbits N L L) (fun _ => True) L w :=
  fun l J Jx W hW hJ _ hY h0 => highest1 n hn l Bn a b N L i hL bL J Jx W hJ hY ((hW.block _ (Array.getElem?_eq_some_iff.1 hB).1).trans hB) h0
end Go.Proofs.YtemgoikghaiamaaDoor
/-
  What the call Pow of package gfpow answers: the rest of a power.
-/
namespace Go.Proofs.YtemgoikghaiamaaDoor
open Go.RowKit G Go.Shelf
set_option linter.unusedVariables false
attribute [local go_sem] Oper.semAt_some

/-- A variable that is caught, with a polynomial in its own form. -/
def BoxP (w : World) (b N : Nat) : Prop := ∃ (A : Option Addr) (c : Nat), Box w b 28 (.slice A (wordsOf N).length c) ∧ Pol w A c (wordsOf N)
theorem BoxP.below {w w' : World} {b N : Nat} (h : BoxP w b N) (hb : Below w.heap.size w w') : BoxP w' b N := by
  obtain ⟨A, c, x, y⟩ := h
  exact ⟨A, c, x.below hb, y.below hb⟩
theorem Box.own_ {w w' : World} {b : Nat} {t : TypeId} {v : Value} {row : Option Nat} (h : Box w b t v) (hg : w.grownBy w' row) (hr : ∀ r, row = some r → ∃ o : Obj, w.heap[r]? = some o ∧ o.isCells = false) : Box w' b t v := by
  refine (hg.block b h.lt ?_).trans h
  intro e
  obtain ⟨o, ho, hc⟩ := hr b e.symm
  unfold Box at h
  rw [h] at ho
  cases ho
  cases hc
theorem Pol.own_ {w w' : World} {A : Option Addr} {c : Nat} {xs : List Nat} {row : Option Nat} (h : Pol w A c xs) (hg : w.grownBy w' row) (hr : ∀ r, row = some r → ∃ o : Obj, w.heap[r]? = some o ∧ o.isCells = false) : Pol w' A c xs :=
  ⟨h.word, h.cap1, h.cap2, fun i hi => by
    obtain ⟨g, o, e, hc⟩ := h.cell i hi
    exact ⟨g, o, e, cell_kept hc hg hr⟩⟩
theorem BoxP.own_ {w w' : World} {b N : Nat} {row : Option Nat} (h : BoxP w b N) (hg : w.grownBy w' row) (hr : ∀ r, row = some r → ∃ o : Obj, w.heap[r]? = some o ∧ o.isCells = false) : BoxP w' b N := by
  obtain ⟨A, c, x, y⟩ := h
  exact ⟨A, c, x.own_ hg hr, y.own_ hg hr⟩
theorem Pol.off_box {w : World} {A : Option Addr} {c q : Nat} {xs : List Nat} {t : TypeId} {A' : Option Addr} {n c' : Nat} (h : Pol w A c xs) (hb : Box w q t (.slice A' n c')) (u : Value) : Pol (w.setCell ⟨q, 0, none⟩ u) A c xs :=
  ⟨h.word, h.cap1, h.cap2, fun i hi => by
    obtain ⟨g, o, e, hc⟩ := h.cell i hi
    refine ⟨g, o, e, ?_⟩
    have ne : g ≠ q := by
      rintro rfl
      unfold Box at hb
      simp only [World.cell?, hb] at hc
      cases z : o + i with
      | zero => rw [z] at hc; simp at hc
      | succ k => rw [z] at hc; simp at hc
    exact (World.cell?_of_block (w := w) (Below.heap_setCell w ⟨q, 0, none⟩ u g (fun e => ne e))).trans hc⟩
theorem BoxP.far {w : World} {b q N M : Nat} (h : BoxP w b N) (k : BoxP w q M) (ne : b ≠ q) (u : Value) : BoxP (w.setCell ⟨q, 0, none⟩ u) b N := by
  obtain ⟨A, c, x, y⟩ := h
  obtain ⟨A', c', x', y'⟩ := k
  exact ⟨A, c, x.far (p := ⟨q, 0, none⟩) ne u, y.off_box x' u⟩
theorem BoxP.set {w : World} {q M N : Nat} {A : Option Addr} {c : Nat} (k : BoxP w q M) (P : Pol w A c (wordsOf N)) : BoxP (w.setCell ⟨q, 0, none⟩ (.slice A (wordsOf N).length c)) q N := by
  obtain ⟨A', c', x', y'⟩ := k
  exact ⟨A, c, Boxed.set _ x', P.off_box x' _⟩
theorem BoxP.new {w : World} {N : Nat} {A : Option Addr} {c : Nat} (P : Pol w A c (wordsOf N)) : BoxP (w.alloc (.cells #[.slice A (wordsOf N).length c] 28)) w.heap.size N := ⟨A, c, Boxed.new _ _ _, P.alloc _⟩
theorem BoxP.drew {w : World} {b N : Nat} (h : BoxP w b N) : BoxP w.drew b N := by
  obtain ⟨A, c, x, y⟩ := h
  exact ⟨A, c, x.drew, y.drew⟩

theorem bcell {W w1 : World} (hb : Below W.heap.size W w1) : (∀ b o, b < W.heap.size → w1.cell? ⟨b, o, none⟩ = W.cell? ⟨b, o, none⟩) ∧ (∀ b o, b < W.heap.size → w1.frozen? ⟨b, o, none⟩ = W.frozen? ⟨b, o, none⟩) :=
  ⟨fun b o h => hb.cell (p := ⟨b, o, none⟩) h, fun b o h => hb.frozen (p := ⟨b, o, none⟩) h⟩
theorem two_new (w : World) (x y : Obj) : ((w.alloc x).alloc y).heap[w.heap.size]? = some x ∧ ((w.alloc x).alloc y).heap[w.heap.size + 1]? = some y := by
  constructor
  · exact (Below.heap_alloc _ _ _ (by simp)).trans (World.alloc_heap_new w x)
  · have := World.alloc_heap_new (w.alloc x) y
    rwa [World.size_alloc] at this
theorem BoxP.off {w : World} {b q N : Nat} {A' : Option Addr} {n c' : Nat} (h : BoxP w b N) (k : Box w q 28 (.slice A' n c')) (ne : b ≠ q) (u : Value) : BoxP (w.setCell ⟨q, 0, none⟩ u) b N := by
  obtain ⟨A, c, x, y⟩ := h
  exact ⟨A, c, x.far (p := ⟨q, 0, none⟩) ne u, y.off_box k u⟩
theorem BoxP.put {w : World} {q N n c' : Nat} {A A' : Option Addr} {c : Nat} (k : Box w q 28 (.slice A' n c')) (P : Pol w A c (wordsOf N)) : BoxP (w.setCell ⟨q, 0, none⟩ (.slice A (wordsOf N).length c)) q N := ⟨A, c, Boxed.set _ k, P.off_box k _⟩
theorem BoxP.cell {w : World} {b N : Nat} (h : BoxP w b N) : ∃ (A : Option Addr) (c : Nat), w.cell? ⟨b, 0, none⟩ = some (.slice A (wordsOf N).length c) ∧ w.frozen? ⟨b, 0, none⟩ = false ∧ Pol w A c (wordsOf N) := by
  obtain ⟨A, c, x, y⟩ := h
  exact ⟨A, c, x.cell, x.free, y⟩
theorem BoxP.lt {w : World} {b N : Nat} (h : BoxP w b N) : b < w.heap.size := by
  obtain ⟨A, c, x, y⟩ := h
  exact x.lt
/-- The state of Pow: the number, p, a's rest and the power, as variables that are caught. -/
structure PwSt (w0 : World) (Ub Pb Bb Qb p b r : Nat) (h l : Int) (wr : World) : Prop where
  u : wr.heap[Ub]? = some (.cells #[.int .u64 h, .int .u64 l] 26 (0, 0))
  bp : BoxP wr Pb p
  bb : BoxP wr Bb b
  bq : BoxP wr Qb r
  below : Below w0.heap.size w0 wr
  up : w0.heap.size ≤ Qb
  n1 : Ub ≠ Qb
  n2 : Pb ≠ Qb
  n3 : Bb ≠ Qb
def CutPow (w0 : World) (Ub Pb Bb p b r : Nat) (h l : Int) (v : Value) (wr : World) : Prop := ∃ q, v = .pointer (some ⟨q, 0, none⟩) ∧ PwSt w0 Ub Pb Bb q p b r h l wr
theorem PwSt.late {w0 w W : World} {Ub Pb Bb p b r : Nat} {h l : Int} {A : Option Addr} {c : Nat} (u : w.heap[Ub]? = some (.cells #[.int .u64 h, .int .u64 l] 26 (0, 0))) (bp : BoxP w Pb p) (bb : BoxP w Bb b) (hb : Below w0.heap.size w0 w)
    (hx : Below w.heap.size w W) (P : Pol W A c (wordsOf r)) : CutPow w0 Ub Pb Bb p b r h l (.pointer (some ⟨W.heap.size, 0, none⟩)) (W.alloc (.cells #[.slice A (wordsOf r).length c] 28)) := by
  have s0 := hb.size
  have s1 := hx.size
  have s2 := (Array.getElem?_eq_some_iff.1 u).1
  have s3 := bp.lt
  have s4 := bb.lt
  have hx2 := below_then hx (below_allocs W (.cells #[.slice A (wordsOf r).length c] 28))
  exact ⟨_, rfl, (hx2.block _ s2).trans u, bp.below hx2, bb.below hx2, BoxP.new P, below_then hb hx2, by omega, by omega, by omega, by omega⟩
theorem PwSt.early {w0 w W V : World} {Ub Pb Bb p b r q : Nat} {h l : Int} {A : Option Addr} {c : Nat} (u : w.heap[Ub]? = some (.cells #[.int .u64 h, .int .u64 l] 26 (0, 0))) (bp : BoxP w Pb p) (bb : BoxP w Bb b) (hb : Below w0.heap.size w0 w)
    (hx : Below w.heap.size w V) (hq : q = V.heap.size) (hy : Below (V.alloc (.cells #[.slice none 0 0] 28)).heap.size (V.alloc (.cells #[.slice none 0 0] 28)) W) (P : Pol W A c (wordsOf r)) : CutPow w0 Ub Pb Bb p b r h l (.pointer (some ⟨q, 0, none⟩)) (W.setCell ⟨q, 0, none⟩ (.slice A (wordsOf r).length c)) := by
  subst hq
  have s0 := hb.size
  have s1 := hx.size
  have s2 := (Array.getElem?_eq_some_iff.1 u).1
  have s3 := bp.lt
  have s4 := bb.lt
  have bn : Box W V.heap.size 28 (.slice none 0 0) := Box.below (Boxed.new V 28 (.slice none 0 0)) hy
  have hx2 := below_then (below_then hx (below_allocs V (.cells #[.slice none 0 0] 28))) hy
  exact ⟨_, rfl, (Below.heap_setCell W ⟨V.heap.size, 0, none⟩ _ _ (by show Ub ≠ V.heap.size; omega)).trans ((hx2.block _ s2).trans u), (bp.below hx2).off bn (by omega) _, (bb.below hx2).off bn (by omega) _, BoxP.put bn P,
    (below_then hb hx2).setCell (by show w0.heap.size ≤ V.heap.size; omega) _, by omega, by omega, by omega, by omega⟩

theorem PwSt.far {w0 W W' : World} {Ub Pb Bb Qb p b r : Nat} {h l : Int} (S : PwSt w0 Ub Pb Bb Qb p b r h l W) (hb : Below W.heap.size W W') : PwSt w0 Ub Pb Bb Qb p b r h l W' :=
  ⟨(hb.block _ (Array.getElem?_eq_some_iff.1 S.u).1).trans S.u, S.bp.below hb, S.bb.below hb, S.bq.below hb, below_then S.below hb, S.up, S.n1, S.n2, S.n3⟩
theorem PwSt.put {w0 W : World} {Ub Pb Bb Qb p b r r' : Nat} {h l : Int} {A : Option Addr} {c : Nat} (S : PwSt w0 Ub Pb Bb Qb p b r h l W) (P : Pol W A c (wordsOf r')) : PwSt w0 Ub Pb Bb Qb p b r' h l (W.setCell ⟨Qb, 0, none⟩ (.slice A (wordsOf r').length c)) :=
  ⟨(Below.heap_setCell W ⟨Qb, 0, none⟩ _ Ub S.n1).trans S.u, S.bp.far S.bq S.n2 _, S.bb.far S.bq S.n3 _, S.bq.set P, S.below.setCell S.up _, S.up, S.n1, S.n2, S.n3⟩
theorem PwSt.drew {w0 W : World} {Ub Pb Bb Qb p b r : Nat} {h l : Int} (S : PwSt w0 Ub Pb Bb Qb p b r h l W) : PwSt w0 Ub Pb Bb Qb p b r h l W.drew := ⟨S.u, S.bp.drew, S.bb.drew, S.bq.drew, S.below.drew, S.up, S.n1, S.n2, S.n3⟩
theorem keeps_of_below {W W' : World} (hb : Below W.heap.size W W') : KeepsOthers W W' := ⟨hb.size, fun k o hk _ => (hb.block k (Array.getElem?_eq_some_iff.1 hk).1).trans hk⟩
theorem kpU_below {b : Nat} {o : Obj} {W W' : World} (hb : Below W.heap.size W W') : KpU b o W W' := fun e => (hb.block b (Array.getElem?_eq_some_iff.1 e).1).trans e
theorem kpU_set {b q : Nat} {o : Obj} {W : World} (ne : b ≠ q) (u : Value) : KpU b o W (W.setCell ⟨q, 0, none⟩ u) := fun e => (Below.heap_setCell W ⟨q, 0, none⟩ u b ne).trans e
theorem pwSt_own {β : Type} (B : Nat) (w0 : World) (Ub Pb Bb Qb p b : Nat) (r : β → Nat) (h l : Int) (hB : w0.heap.size ≤ B) : OwnFrom B (fun s W => PwSt w0 Ub Pb Bb Qb p b (r s) h l W) :=
  fun s W W' row S hg hr => by
    have hr2 : ∀ k, row = some k → ∃ o : Obj, W.heap[k]? = some o ∧ o.isCells = false := fun k e => (hr k e).2
    exact ⟨(grownBy_keeps_cells hg hr2 S.u rfl).trans S.u, S.bp.own_ hg hr2, S.bb.own_ hg hr2, S.bq.own_ hg hr2, S.below.grown hg S.below.size (fun k e => Nat.le_trans hB (hr k e).1), S.up, S.n1, S.n2, S.n3⟩

set_option maxHeartbeats 1000000 in
theorem gPowZero {A B : Option Addr} {L K ca cb : Nat} {ys : List Nat} {w : World} (h l : Int) (Q : Pol w B cb ys) (hK : ys.length = K) (bK : K ≤ 50000) (h0 : leN ys = 0) :
    Calls Tryd.prog 63 #[.slice A L ca, .agg #[.int .u64 h, .int .u64 l], .slice B K cb] w (NilE 8 w) := by
  have HQ := Lib.hid Q
  have h1 := Lib.hid hK
  have h2 := Lib.hid h0
  clear Q hK h0
  go_enter Tryd.func63, Tryd.ntmps63
  go_wp2_with fail
  refine (gModZero (((HQ.out).alloc _).alloc _) h1.out bK h2.out).mono ?_
  rintro e w1 ⟨rfl, hb⟩
  have HB := Lib.hid (below_then (below_alloc (below_alloc (Below.refl _ _) _) _) hb)
  clear hb
  go_wp2_with fail
  go_ret2
  exact ⟨rfl, below_alloc HB.out _⟩

set_option maxRecDepth 100000 in
set_option maxHeartbeats 1000000 in
theorem powWalk {A B : Option Addr} {L K ca cb : Nat} {xs ys : List Nat} {w : World} (h l : Int) (N a p E R : Nat) (i : Hid (Wn h l N)) (hE : Hid (len N = E)) (P : Hid (Pol w A ca xs)) (Q : Hid (Pol w B cb ys)) (hL : Hid (xs.length = L)) (hK : Hid (ys.length = K)) (ha : Hid (leN xs = a)) (hp : Hid (leN ys = p)) (bL : L ≤ 20000) (bK : K ≤ 20000) (h0 : Hid (p ≠ 0)) (hR : Hid (pr a N p = R)) :
    Calls Tryd.prog 63 #[.slice A L ca, .agg #[.int .u64 h, .int .u64 l], .slice B K cb] w (AnsE R 0 w) := by
  have l3 := Lib.hid (show len p ≤ 64 * K from by rw [← hp.out]; exact len_pol Q.out hK.out)
  have lP := Lib.hid (wl_len l3.out)
  have lR := Lib.hid (show ∀ z, (wordsOf (rt z p)).length ≤ K from fun z => wl_rt h0.out l3.out)
  refine (callsIn_wide (n := 3)).1 ?_
  refine callsIn_of_wp_marks Tryd.func63 rfl trivial ?_ rfl
  simp only [Tryd.ntmps63, List.size_toArray, List.length_cons, List.length_nil, Nat.reduceAdd, Nat.reduceSub, Array.replicate_succ, Array.replicate_zero, List.push_toArray, List.append_toArray, List.nil_append, List.cons_append]
  have hB0 : Below w.heap.size w w := Below.refl _ _
  refine wpIn_wide.2 ?_
  go_wp2_with fail
  have B0 := Lib.hid (below_alloc (below_alloc hB0 (.cells #[.int .u64 h, .int .u64 l] 26)) (.cells #[.slice B K cb] 28))
  refine (gMod (rt a p) ((P.out.alloc _).alloc _) ((Q.out.alloc _).alloc _) hL.out hK.out (by rw [ha.out, hp.out]) (by omega) (by omega) (by rw [hp.out]; exact h0.out)).mono ?_
  rintro e w1 ⟨A1, c1, rfl, P1, hb⟩
  have HB1 := Lib.hid (below_then B0.out hb)
  have P1 := Lib.hid P1
  have Q1 := Lib.hid (((Q.out.alloc (.cells #[.int .u64 h, .int .u64 l] 26)).alloc (.cells #[.slice B K cb] 28)).below hb)
  have U1 := Lib.hid ((hb.block w.heap.size (by simp; omega)).trans (two_new w _ _).1)
  have V1 := Lib.hid (show Box w1 (w.heap.size + 1) 28 (.slice B K cb) from (hb.block (w.heap.size + 1) (by simp)).trans (two_new w _ _).2)
  clear hb hB0 B0
  have c3 := V1.out.cell
  have c4 := V1.out.free
  have s1 := V1.out.lt
  go_wp2_with fail
  have bB := Lib.hid (BoxP.new P1.out)
  have Q2 := Lib.hid (Q1.out.alloc (.cells #[.slice A1 (wordsOf (rt a p)).length c1] 28))
  have hb := below_allocs w1 (.cells #[.slice A1 (wordsOf (rt a p)).length c1] 28)
  have U2 := Lib.hid ((hb.block _ (Array.getElem?_eq_some_iff.1 U1.out).1).trans U1.out)
  have V2 := Lib.hid (V1.out.below hb)
  have HB2 := Lib.hid (below_then HB1.out hb)
  clear hb c3 c4 HB1 P1 Q1 U1 V1
  have neb := Lib.hid (show w1.heap.size ≠ w.heap.size + 1 from by omega)
  have neu := Lib.hid (show w.heap.size ≠ w.heap.size + 1 from by omega)
  have z1 : w1.heap.size < (World.alloc w1 (.cells #[.slice A1 (wordsOf (rt a p)).length c1] 28)).heap.size := by simp
  generalize hV : World.alloc w1 _ = V at bB Q2 U2 V2 HB2 z1 ⊢
  clear hV
  refine (gOwn p Q2.out hK.out hp.out (by omega)).mono ?_
  rintro e w2 ⟨A2, c2, rfl, P2, hb⟩
  have c3 := (V2.out.below hb).cell
  have c4 := (V2.out.below hb).free
  have HP2 := Lib.hid P2
  have bB2 := Lib.hid (bB.out.below hb)
  have U3 := Lib.hid ((hb.block _ (Array.getElem?_eq_some_iff.1 U2.out).1).trans U2.out)
  have V3 := Lib.hid (V2.out.below hb)
  have HB3 := Lib.hid (below_then HB2.out hb)
  have z2 := hb.size
  clear hb P2 bB U2 V2 HB2 Q2
  go_upto_region 5 with fail
  have bP4 := Lib.hid (BoxP.put V3.out HP2.out)
  have bB4 := Lib.hid (bB2.out.off V3.out neb.out (.slice A2 (wordsOf p).length c2))
  have U4 := Lib.hid ((Below.heap_setCell w2 ⟨w.heap.size + 1, 0, none⟩ (.slice A2 (wordsOf p).length c2) w.heap.size neu.out).trans U3.out)
  have HB4 := Lib.hid (HB3.out.setCell (p := ⟨w.heap.size + 1, 0, none⟩) (by show w.heap.size ≤ w.heap.size + 1; omega) (.slice A2 (wordsOf p).length c2))
  have z4 : w2.heap.size = (w2.setCell ⟨w.heap.size + 1, 0, none⟩ (.slice A2 (wordsOf p).length c2)).heap.size := by simp [World.setCell]
  have z5 := Nat.lt_of_lt_of_le z1 z2
  rw [z4] at z5
  generalize hV : World.setCell w2 _ _ = W4 at bP4 bB4 U4 HB4 z5 ⊢
  clear hV bB2 V3 HP2 U3 HB3 z1 z2 z4 c3 c4 neu
  go_cut [10] from 23 to 25 (CutPow w w.heap.size (w.heap.size + 1) w1.heap.size p (rt a p) (rt 1 p) h l)
  case first =>
    obtain ⟨A4, c4, X4, P4⟩ := bP4.out
    have e4 := X4.cell
    have s4 := X4.lt
    have HP4 := Lib.hid P4
    have HX4 := Lib.hid X4
    clear P4 X4
    have hX : Below W4.heap.size W4 W4 := Below.refl _ _
    have lw1 := Lib.hid (show (wordsOf 1).length ≤ 50000 from Nat.le_trans (wl 1 (by decide)) (by decide))
    have lw2 := Lib.hid (show (wordsOf p).length ≤ 50000 from by have := lP.out; omega)
    have ew := Lib.hid (show rt (leN (wordsOf 1)) (leN (wordsOf p)) = rt 1 p from by rw [leN_wordsOf, leN_wordsOf])
    have ez := Lib.hid (show leN (wordsOf p) ≠ 0 from by rw [leN_wordsOf]; exact h0.out)
    go_region_with
      (first
      | (go_at_call 25; ((with_reducible refine (gX 0 1 0 rfl rfl (by decide) _).mono ?_); rintro e x1 ⟨A5, c5, rfl, P5, hb⟩; (first | have hq := below_then (Below.refl _ ((World.drew W4).alloc (.cells #[.slice none 0 0] 28))) hb | skip); have HP5 := Lib.hid P5; replace hX := below_then (by first | exact hX.drew | exact hX.drew.alloc (Nat.le_refl _) _) hb; have hX1 := hX; clear hb P5; have e5 := (HX4.out.below hX).cell; have s5 := hX.size; have s6 := (HX4.out.below hX).lt))
      | (go_at_call 60; ((with_reducible refine (gRest (rt 1 p) (HP5.out.below (by first | exact Below.refl _ _ | exact below_allocs _ _)) (HP4.out.below (by first | exact hX | exact hX.alloc hX.size _)) rfl rfl ew.out lw1.out lw2.out ez.out).mono ?_); rintro e x2 ⟨A6, c6, rfl, P6, hb⟩; (first | have hq2 : Below ((World.drew W4).alloc (.cells #[.slice none 0 0] 28)).heap.size ((World.drew W4).alloc (.cells #[.slice none 0 0] 28)) x2 := below_then hq hb | skip); (first | have hq3 := below_then (Below.refl _ (x1.alloc (.cells #[.slice none 0 0] 28))) hb | skip); have HP6 := Lib.hid P6; replace hX := below_then (by first | exact hX | exact hX.alloc hX.size _) hb; clear hb P6; (first | (have e6 : x2.cell? ⟨W4.heap.size, 0, none⟩ = some (.slice none 0 0) := (Box.below (Boxed.new _ _ _) hq2).cell; have f6 : x2.frozen? ⟨W4.heap.size, 0, none⟩ = false := (Box.below (Boxed.new _ _ _) hq2).free) | (have e6 : x2.cell? ⟨x1.heap.size, 0, none⟩ = some (.slice none 0 0) := (Box.below (Boxed.new _ _ _) hq3).cell; have f6 : x2.frozen? ⟨x1.heap.size, 0, none⟩ = false := (Box.below (Boxed.new _ _ _) hq3).free) | skip))))
    all_goals
      go_wp2_with fail
      go_meet
      first
      | exact PwSt.late U4.out bP4.out bB4.out HB4.out hX HP6.out
      | exact PwSt.early U4.out bP4.out bB4.out HB4.out (Below.refl _ _).drew rfl hq2 HP6.out
      | exact PwSt.early U4.out bP4.out bB4.out HB4.out hX1 rfl hq3 HP6.out
  obtain ⟨q, rfl, S⟩ := hcut
  have HS := Lib.hid S
  obtain ⟨c0, c1'⟩ := cell0_of_block S.u
  clear S
  go_wp2_with fail
  refine (gFromHighest h l _).mono ?_
  rintro e w5 ⟨rfl, rfl⟩
  go_wp2_with fail
  have BN := Lib.hid (show (World.alloc wc (.cells #[.int .u64 h, .int .u64 l] 26)).heap[wc.heap.size]? = some (.cells #[.int .u64 h, .int .u64 l] 26 (0, 0)) from World.alloc_heap_new _ _)
  have HS2 := Lib.hid (HS.out.far (below_allocs wc (.cells #[.int .u64 h, .int .u64 l] 26)))
  have nq := Lib.hid (show wc.heap.size ≠ q from by have := HS.out.bq.lt; omega)
  have zw := HS.out.below.size
  have zx : (World.alloc wc (.cells #[.int .u64 h, .int .u64 l] 26)).heap.size = wc.heap.size + 1 := by simp
  clear c0 c1'
  generalize hW5 : World.alloc wc _ = W5 at BN HS2 zx ⊢
  clear hW5
  refine wpIn_wide.1 (wpIn_rangeFunc_ownG (n := 3) rfl (by decide) (gf := 73) (lb := #[.pointer (some ⟨wc.heap.size, 0, none⟩)]) rfl trivial (enters_of Tryd.func73 (by kernel_rfl) rfl)
    (highest_stops 2 (by decide) wc.heap.size h l N E i.out hE.out (by have := i.out.lt; have := hE.out; rw [← this]; exact Nat.le_trans (len_le (k := 128) ‹_›) (by decide)) W5 BN.out) kpU_t (kpU_b (by omega)) (Below.refl _ _) (fun _ => rfl)
    (fun pre W => PwSt w w.heap.size (w.heap.size + 1) w1.heap.size q p (rt a p) (pr a (val pre) p) h l W)
    (fun _ _ _ => False)
    (pwSt_own _ w _ _ _ q p (rt a p) (fun pre => pr a (val pre) p) h l (by omega))
    (fun _ _ _ _ _ hs _ _ => hs)
    HS2.out
    ?a1 ?assign ?body ?done ?stop)
  case assign =>
    intro l x W K hK
    gi_wp2
    exact hK
  case body =>
    rintro l' pre x W S _
    obtain ⟨r, hr⟩ : ∃ r, pr a (val pre) p = r := ⟨_, rfl⟩
    have lr := Lib.hid (show (wordsOf r).length ≤ K from by rw [← hr]; exact lR.out _)
    have e0 := Lib.hid (show pr a (2 * val pre) p = rt (clm r r) p from by rw [pr_even h0.out, hr])
    have e1 := Lib.hid (show pr a (2 * val pre + 1) p = rt (clm (rt (clm r r) p) (rt a p)) p from by rw [pr_odd h0.out, hr])
    rw [hr] at S
    clear hr
    have HS3 := Lib.hid S
    obtain ⟨Aq, cq, eq, fq, Pq⟩ := S.bq.cell
    obtain ⟨Ap, cp, ep, fp, Pp⟩ := S.bp.cell
    have HPq := Lib.hid Pq
    have HPp := Lib.hid Pp
    have ez := Lib.hid (show leN (wordsOf p) ≠ 0 from by rw [leN_wordsOf]; exact h0.out)
    have lw2 := Lib.hid (show (wordsOf p).length ≤ 50000 from by have := lP.out; omega)
    obtain ⟨r2, hr2⟩ : ∃ r2, rt (clm r r) p = r2 := ⟨_, rfl⟩
    have lr2 := Lib.hid (show (wordsOf r2).length ≤ K from by rw [← hr2]; exact lR.out _)
    have lm := Lib.hid (show (wordsOf (clm r2 (rt a p))).length ≤ 50000 from Nat.le_trans (wl_len (k := 2 * K) (by
      have q1 := len_le (clm_lt (len_lt r2) (len_lt (rt a p)))
      have q2 : len r2 < len p := by rw [← hr2]; exact rt_lt h0.out
      have q3 := rt_lt (a := a) h0.out
      have := l3.out
      omega)) (by omega))
    have es := Lib.hid (show rt (clm (leN (wordsOf r)) (leN (wordsOf r))) (leN (wordsOf p)) = r2 from by rw [leN_wordsOf, leN_wordsOf]; exact hr2)
    rw [hr2] at e0 e1
    clear S Pq Pp hr2
    gi_wp2_with fail
    refine ⟨trivial, ?_⟩
    refine (CallsIn.inRound l' (callsIn_wide.2 (gSq r2 HPq.out HPp.out rfl rfl es.out (by have := lr.out; omega) lw2.out ez.out))).mono ?_
    rintro e W1 ⟨A6, c6, rfl, P6, hb⟩
    have S1 := Lib.hid (HS3.out.far hb)
    have K1 := Lib.hid ((keeps_of_below hb).from W5.heap.size)
    have U1 := Lib.hid (kpU_below (b := wc.heap.size) (o := (.cells #[.int .u64 h, .int .u64 l] 26 (0, 0))) hb)
    obtain ⟨A7, c7, e7, f7, _⟩ := S1.out.bq.cell
    have HP6 := Lib.hid P6
    clear hb P6 eq fq ep fp
    cases x with
    | false =>
      gi_wp2
      refine ⟨K1.out.trans ((KeepsOthers.setCell _ _ _).from _), kpU_t U1.out (kpU_set nq.out _), ?_⟩
      have := S1.out.put HP6.out
      show PwSt _ _ _ _ _ _ _ (pr a (val (pre ++ [false])) p) _ _ _
      rw [val_snoc]
      simp only [Bool.toNat_false, Nat.add_zero]
      rw [e0.out]
      exact this
    | true =>
      have S2 := Lib.hid (S1.out.put HP6.out)
      have K2 := Lib.hid (K1.out.trans ((KeepsOthers.setCell W1 ⟨q, 0, none⟩ (.slice A6 (wordsOf r2).length c6)).from _))
      have U2 := Lib.hid (kpU_t U1.out (kpU_set nq.out (W := W1) (.slice A6 (wordsOf r2).length c6)))
      gi_wp2
      generalize hV : World.setCell W1 _ _ = W2 at S2 K2 U2 ⊢
      clear hV S1 K1 U1 HP6 e7 f7
      obtain ⟨A8, c8, e8, f8, P8⟩ := S2.out.bq.cell
      obtain ⟨A9, c9, e9, f9, P9⟩ := S2.out.bb.cell
      obtain ⟨Ai, ci, Xi, Pi⟩ := S2.out.bp
      have ei := Xi.cell
      have HP8 := Lib.hid P8
      have HP9 := Lib.hid P9
      have HPi := Lib.hid Pi
      have HXi := Lib.hid Xi
      have lr3 := Lib.hid (show (wordsOf r2).length ≤ 50000 from by have := lr2.out; omega)
      have lb3 := Lib.hid (show (wordsOf (rt a p)).length ≤ 50000 from by have := lR.out a; omega)
      have em := Lib.hid (show clm (leN (wordsOf r2)) (leN (wordsOf (rt a p))) = clm r2 (rt a p) from by rw [leN_wordsOf, leN_wordsOf])
      have en := Lib.hid (show rt (leN (wordsOf (clm r2 (rt a p)))) (leN (wordsOf p)) = rt (clm r2 (rt a p)) p from by rw [leN_wordsOf, leN_wordsOf])
      have fX : Below W2.heap.size W2 W2 := Below.refl _ _
      clear P8 P9 Pi Xi f9
      gi_region_with
        (first
        | (refine ⟨trivial, ?_⟩; gi_at_call 70; ((with_reducible refine (CallsIn.inRound l' (callsIn_wide.2 (gMul (clm r2 (rt a p)) (HP8.out.below fX.drew) (HP9.out.below fX.drew) rfl rfl em.out lr3.out lb3.out))).mono ?_); rintro e x1 ⟨Aj, cj, rfl, Pj, hb⟩; have HPj := Lib.hid Pj; replace fX := below_then fX.drew hb; clear hb Pj; have e10 := (HXi.out.below fX).cell))
        | (refine ⟨trivial, ?_⟩; gi_at_call 60; ((with_reducible refine (CallsIn.inRound l' (callsIn_wide.2 (gRest (rt (clm r2 (rt a p)) p) HPj.out (HPi.out.below fX) rfl rfl en.out lm.out lw2.out ez.out))).mono ?_); rintro e x2 ⟨Ak, ck, rfl, Pk, hb⟩; have HPk := Lib.hid Pk; replace fX := below_then fX hb; clear hb Pk; obtain ⟨_, _, e11, f11, _⟩ := (S2.out.far fX).bq.cell)))
      all_goals
        refine ⟨(K2.out.trans ((keeps_of_below fX).from _)).trans ((KeepsOthers.setCell _ _ _).from _), kpU_t (kpU_t U2.out (kpU_below fX)) (kpU_set nq.out _), ?_⟩
        have := (S2.out.far fX).put HPk.out
        show PwSt _ _ _ _ _ _ _ (pr a (val (pre ++ [true])) p) _ _ _
        rw [val_snoc]
        simp only [Bool.toNat_true]
        rw [e1.out]
        exact this
  case done =>
    rintro D ys' W hD rfl S hKd
    obtain ⟨A6, c6, e6, f6, P6⟩ := S.bq.cell
    have EV := Lib.hid (show pr a (val (hbits N E E)) p = R from by
      rw [val_hbits N E (by rw [← hE.out]; exact len_lt N) E (Nat.le_refl _), Nat.sub_self, Nat.pow_zero, Nat.div_one]; exact hR.out)
    have HP6 := Lib.hid P6
    have HB6 := Lib.hid S.below
    clear P6 S
    go_wp2
    refine ⟨by simp, .inl ⟨_, _, rfl, run_takeDeferred hKd, ?_⟩⟩
    have PP := HP6.out.own_ (grownBy_putObj' W D (.deferred none)) (fun r e => by cases e; exact ⟨_, hKd, rfl⟩)
    have BB := HB6.out.trans (belowK_b (w := w) (Nat.le_refl _) W D _ (.deferred none) (by omega) hKd rfl rfl)
    refine ⟨_, results_tmp2 rfl _ _ _, A6, c6, ?_, ?_, BB⟩
    · rw [← EV.out]; rfl
    · rw [← EV.out]; exact PP
  case stop =>
    rintro D c pre W _ _ h _
    exact h.elim
theorem gPow {A B : Option Addr} {L K ca cb : Nat} {xs ys : List Nat} {w : World} {h l : Int} {N : Nat} (R : Nat) (i : Wn h l N) (P : Pol w A ca xs) (Q : Pol w B cb ys) (hL : xs.length = L) (hK : ys.length = K) (hR : pr (leN xs) N (leN ys) = R) (bL : L ≤ 20000) (bK : K ≤ 20000) (h0 : leN ys ≠ 0) :
    Calls Tryd.prog 63 #[.slice A L ca, .agg #[.int .u64 h, .int .u64 l], .slice B K cb] w (AnsE R 0 w) :=
  powWalk h l N _ _ _ R (Lib.hid i) (Lib.hid rfl) (Lib.hid P) (Lib.hid Q) (Lib.hid hL) (Lib.hid hK) (Lib.hid rfl) (Lib.hid rfl) bL bK (Lib.hid h0) (Lib.hid hR)
end Go.Proofs.YtemgoikghaiamaaDoor
/-
  What the calls X, Squares and Irreducible of package gfpow answer.
-/
namespace Go.Proofs.YtemgoikghaiamaaDoor
open Go.RowKit G
set_option linter.unusedVariables false

theorem cells_new (w : World) (x y : Value) (t : TypeId) : (w.alloc (.cells #[x, y] t)).cell? ⟨w.heap.size, 0, none⟩ = some x ∧ (w.alloc (.cells #[x, y] t)).cell? ⟨w.heap.size, 1, none⟩ = some y := cell0_of_block (World.alloc_heap_new w _)
theorem two_below {w w' : World} {b : Nat} {x y : Value} (h : w.cell? ⟨b, 0, none⟩ = some x ∧ w.cell? ⟨b, 1, none⟩ = some y) (hb : Below w.heap.size w w') : w'.cell? ⟨b, 0, none⟩ = some x ∧ w'.cell? ⟨b, 1, none⟩ = some y :=
  ⟨(hb.cell (p := ⟨b, 0, none⟩) (World.block_lt_of_cell? w _ h.1)).trans h.1, (hb.cell (p := ⟨b, 1, none⟩) (World.block_lt_of_cell? w _ h.2)).trans h.2⟩

set_option maxRecDepth 100000 in
set_option maxHeartbeats 1000000 in
theorem gXp {B : Option Addr} {K cb : Nat} {ys : List Nat} {w : World} {h l : Int} {N : Nat} (R : Nat) (i : Wn h l N) (Q : Pol w B cb ys) (hK : ys.length = K) (hR : pr 2 N (leN ys) = R) (bK : K ≤ 20000) (h0 : leN ys ≠ 0) :
    Calls Tryd.prog 54 #[.agg #[.int .u64 h, .int .u64 l], .slice B K cb] w (AnsE R 0 w) := by
  have HI := Lib.hid i
  have HQ := Lib.hid Q
  have HK := Lib.hid hK
  have HR := Lib.hid (show pr (leN (wordsOf 2)) N (leN ys) = R from by rw [leN_wordsOf]; exact hR)
  have H0 := Lib.hid h0
  have l2 := Lib.hid (show (wordsOf 2).length ≤ 20000 from Nat.le_trans (wl 1 (by decide)) (by decide))
  clear i Q hK hR h0
  go_enter Tryd.func54, Tryd.ntmps54
  go_wp2_with fail
  have K0 := Lib.hid (cells_new w (.int .u64 h) (.int .u64 l) 26)
  have hB := below_alloc (Below.refl _ _) (w := w) (W := w) (.cells #[.int .u64 h, .int .u64 l] 26)
  have HQ1 := Lib.hid (HQ.out.below hB)
  generalize hW0 : World.alloc w _ = W0 at K0 hB HQ1 ⊢
  clear hW0
  have hX : Below W0.heap.size W0 W0 := Below.refl _ _
  obtain ⟨c0, c1⟩ := K0.out
  go_region_held3 (fun w' => w'.cell? ⟨w.heap.size, 0, none⟩ = some (.int .u64 h) ∧ w'.cell? ⟨w.heap.size, 1, none⟩ = some (.int .u64 l)) (go_keep)
    (first
      | (go_at_call 25; ((with_reducible refine (gX 1 2 1 rfl rfl (by decide) _).mono ?_); rintro e x ⟨A1, d1, rfl, P1, hb⟩; clear c0 c1; replace hX := below_then (by first | exact hX | exact hX.drew) hb; obtain ⟨c0, c1⟩ := two_below K0.out hX; have HP := Lib.hid P1; clear hb P1))
      | (go_at_call 63; ((with_reducible refine (gPow R HI.out HP.out (HQ1.out.below hX) rfl HK.out HR.out l2.out bK H0.out).mono ?_); rintro e y ⟨A2, d2, rfl, P2, hb⟩; clear c0 c1; replace hX := below_then (by first | exact hX | exact hX.drew) hb; obtain ⟨c0, c1⟩ := two_below K0.out hX; have HP2 := Lib.hid P2; clear hb P2)))
  go_wp2
  go_ret2
  exact ⟨A2, d2, rfl, HP2.out, below_then hB hX⟩
set_option maxRecDepth 100000 in
set_option maxHeartbeats 1000000 in
theorem gXpZero {B : Option Addr} {K cb : Nat} {ys : List Nat} {w : World} (h l : Int) (Q : Pol w B cb ys) (hK : ys.length = K) (bK : K ≤ 20000) (h0 : leN ys = 0) :
    Calls Tryd.prog 54 #[.agg #[.int .u64 h, .int .u64 l], .slice B K cb] w (NilE 8 w) := by
  have HQ := Lib.hid Q
  have HK := Lib.hid hK
  have H0 := Lib.hid h0
  clear Q hK h0
  go_enter Tryd.func54, Tryd.ntmps54
  go_wp2_with fail
  have K0 := Lib.hid (cells_new w (.int .u64 h) (.int .u64 l) 26)
  have hB := below_alloc (Below.refl _ _) (w := w) (W := w) (.cells #[.int .u64 h, .int .u64 l] 26)
  have HQ1 := Lib.hid (HQ.out.below hB)
  generalize hW0 : World.alloc w _ = W0 at K0 hB HQ1 ⊢
  clear hW0
  have hX : Below W0.heap.size W0 W0 := Below.refl _ _
  obtain ⟨c0, c1⟩ := K0.out
  go_region_held3 (fun w' => w'.cell? ⟨w.heap.size, 0, none⟩ = some (.int .u64 h) ∧ w'.cell? ⟨w.heap.size, 1, none⟩ = some (.int .u64 l)) (go_keep)
    (first
      | (go_at_call 25; ((with_reducible refine (gX 1 2 1 rfl rfl (by decide) _).mono ?_); rintro e x ⟨A1, d1, rfl, P1, hb⟩; clear c0 c1; replace hX := below_then (by first | exact hX | exact hX.drew) hb; obtain ⟨c0, c1⟩ := two_below K0.out hX; clear hb P1))
      | (go_at_call 63; ((with_reducible refine (gPowZero h l (HQ1.out.below hX) HK.out (by omega) H0.out).mono ?_); rintro e y ⟨rfl, hb⟩; clear c0 c1; replace hX := below_then (by first | exact hX | exact hX.drew) hb; obtain ⟨c0, c1⟩ := two_below K0.out hX; clear hb)))
  go_wp2
  go_ret2
  exact ⟨rfl, below_then hB hX⟩

set_option maxHeartbeats 1000000 in
theorem gSquaresZero {A B : Option Addr} {L K ca cb : Nat} {ys : List Nat} {w : World} (m : Int) (Q : Pol w B cb ys) (hK : ys.length = K) (bK : K ≤ 20000) (h0 : leN ys = 0) :
    Calls Tryd.prog 24 #[.slice A L ca, .int .i64 m, .slice B K cb] w (NilE 8 w) := by
  have D := Lib.hid (gModZero (A := A) (L := L) (ca := ca) Q hK (by omega) h0)
  clear Q hK h0
  go_enter Tryd.func24, Tryd.ntmps24
  go_wp2_with fail
  refine (D.out).mono ?_
  rintro e w1 ⟨rfl, hb⟩
  have HB := Lib.hid hb
  clear hb
  go_wp2_with fail
  go_ret2
  exact ⟨rfl, HB.out⟩
set_option maxHeartbeats 1000000 in
theorem gSquaresArg {A B : Option Addr} {L K ca cb : Nat} {xs ys : List Nat} {w : World} (m : Int) (P : Pol w A ca xs) (Q : Pol w B cb ys) (hL : xs.length = L) (hK : ys.length = K) (bL : L ≤ 20000) (bK : K ≤ 20000) (h0 : leN ys ≠ 0) (hm : m < 0 ∨ 2048 < m) :
    Calls Tryd.prog 24 #[.slice A L ca, .int .i64 m, .slice B K cb] w (NilE 1 w) := by
  have D := Lib.hid (gMod _ P Q hL hK rfl (by omega) (by omega) h0)
  clear P Q hL hK h0
  generalize rt (leN xs) (leN ys) = R at D
  by_cases h1 : m < 0
  · clear hm
    go_enter Tryd.func24, Tryd.ntmps24
    go_wp2_with fail
    refine (D.out).mono ?_
    rintro e w1 ⟨A1, c1, rfl, P1, hb⟩
    have HB := Lib.hid hb
    clear hb P1
    go_wp2_with fail
    go_ret2
    exact ⟨rfl, HB.out⟩
  · have h2 : 2048 < m := by omega
    have h3 : ¬ (m < 0) := h1
    have h4 : decide (m < 0) = false := by simp; omega
    clear hm h1
    go_enter Tryd.func24, Tryd.ntmps24
    go_wp2_with fail
    refine (D.out).mono ?_
    rintro e w1 ⟨A1, c1, rfl, P1, hb⟩
    have HB := Lib.hid hb
    clear hb P1
    go_wp2_with fail
    go_ret2
    exact ⟨rfl, HB.out⟩

set_option maxRecDepth 100000 in
set_option maxHeartbeats 1000000 in
theorem squaresWalk {A B : Option Addr} {L K ca cb : Nat} {xs ys : List Nat} {w : World} (m a p R : Nat) (P : Hid (Pol w A ca xs)) (Q : Hid (Pol w B cb ys)) (hL : Hid (xs.length = L)) (hK : Hid (ys.length = K)) (ha : Hid (leN xs = a)) (hp : Hid (leN ys = p)) (bL : L ≤ 20000) (bK : K ≤ 20000) (h0 : Hid (p ≠ 0)) (bm : m ≤ 2048) (hR : Hid (pr a (2 ^ m) p = R)) :
    Calls Tryd.prog 24 #[.slice A L ca, .int .i64 (m : Int), .slice B K cb] w (AnsE R 0 w) := by
  have l3 := Lib.hid (show len p ≤ 64 * K from by rw [← hp.out]; exact len_pol Q.out hK.out)
  have lP := Lib.hid (show (wordsOf p).length ≤ 50000 from Nat.le_trans (wl_len l3.out) (by omega))
  have lR := Lib.hid (show ∀ z, (wordsOf (rt z p)).length ≤ 20000 from fun z => Nat.le_trans (wl_rt h0.out l3.out) bK)
  have ez := Lib.hid (show leN (wordsOf p) ≠ 0 from by rw [leN_wordsOf]; exact h0.out)
  have m0 : ¬ ((m : Int) < 0) := by omega
  have m1 : ¬ (2048 < (m : Int)) := by omega
  go_enter Tryd.func24, Tryd.ntmps24
  go_wp2_with fail
  refine (gMod (pr a (2 ^ 0) p) P.out Q.out hL.out hK.out (by rw [ha.out, hp.out, Nat.pow_zero, pr_1]) (by omega) (by omega) (by rw [hp.out]; exact h0.out)).mono ?_
  rintro e w1 ⟨A1, c1, rfl, P1, hb⟩
  have HB1 := Lib.hid hb
  have HP1 := Lib.hid P1
  have HQ1 := Lib.hid (Q.out.below hb)
  clear hb P1
  go_wp2_with fail
  refine (gOwn p HQ1.out hK.out hp.out (by omega)).mono ?_
  rintro e w2 ⟨A2, c2, rfl, P2, hb⟩
  have HB2 := Lib.hid (below_then HB1.out hb)
  have HP2 := Lib.hid P2
  have HS2 := Lib.hid (HP1.out.below hb)
  clear hb P2 HP1 HQ1
  go_wp2_with fail
  go_loopg [8, 28] m (fun g v i wr => ∃ (k : Nat) (A' : Option Addr) (c' r : Nat), k + g = m ∧ i = .int .i64 k ∧ v = .slice A' (wordsOf r).length c' ∧ Hid (pr a (2 ^ k) p = r) ∧ Hid (Pol wr A' c' (wordsOf r)) ∧ Hid (Pol wr A2 c2 (wordsOf p)) ∧ Hid (Below w.heap.size w wr))
  case atStart => exact ⟨0, A1, c1, _, by omega, rfl, rfl, Lib.hid rfl, HS2, HP2, HB2⟩
  case round =>
    obtain ⟨k, A', c', r, hk, rfl, rfl, hr, hS, hP, hB⟩ := hrel
    by_cases hlt : k < m
    · have kl : (k : Int) < (m : Int) := by omega
      have lr := Lib.hid (show (wordsOf r).length ≤ 20000 from by rw [← hr.out]; exact lR.out _)
      have es := Lib.hid (show rt (clm (leN (wordsOf r)) (leN (wordsOf r))) (leN (wordsOf p)) = pr a (2 ^ (k + 1)) p from by rw [leN_wordsOf, leN_wordsOf, ← hr.out, pr_frob h0.out])
      generalize hr2 : pr a (2 ^ (k + 1)) p = r2 at es
      have HR2 := Lib.hid hr2
      clear hr2
      go_wp2_with fail
      refine (gSq r2 hS.out hP.out rfl rfl es.out lr.out lP.out ez.out).mono ?_
      rintro e w3 ⟨A3, c3, rfl, P3, hb⟩
      have HP3 := Lib.hid P3
      have HPp := Lib.hid (hP.out.below hb)
      have HB3 := Lib.hid (below_then hB.out hb)
      clear hb P3
      go_wp2_with fail
      go_roundg (gk - 1)
      case measure => omega
      case rel => exact ⟨k + 1, A3, c3, r2, by omega, by go_num, rfl, HR2, HP3, HPp, HB3⟩
    · obtain rfl : k = m := by omega
      have kl : ¬ ((k : Int) < (k : Int)) := by omega
      obtain rfl : r = R := hr.out.symm.trans hR.out
      go_wp2_with fail
      go_ret2
      exact ⟨A', c', rfl, hS.out, hB.out⟩
theorem gSquares {A B : Option Addr} {L K ca cb : Nat} {xs ys : List Nat} {w : World} (m R : Nat) (x : Int) (e : (m : Int) = x) (P : Pol w A ca xs) (Q : Pol w B cb ys) (hL : xs.length = L) (hK : ys.length = K) (bL : L ≤ 20000) (bK : K ≤ 20000) (h0 : leN ys ≠ 0) (bm : m ≤ 2048) (hR : pr (leN xs) (2 ^ m) (leN ys) = R) :
    Calls Tryd.prog 24 #[.slice A L ca, .int .i64 x, .slice B K cb] w (AnsE R 0 w) := by
  subst e
  exact squaresWalk m _ _ R (Lib.hid P) (Lib.hid Q) (Lib.hid hL) (Lib.hid hK) (Lib.hid rfl) (Lib.hid rfl) bL bK (Lib.hid h0) bm (Lib.hid hR)
end Go.Proofs.YtemgoikghaiamaaDoor
/-
  A struct of two words among a statement's arguments is opened and shut; the words of such a one in memory; the list 0, 1.
-/
namespace Go.Proofs.YtemgoikghaiamaaDoor
open Go.ChangeShapes Go.WideShapes Go.ChangeAt Go.RowKit Go.Joins G
set_option linter.unusedVariables false
set_option maxRecDepth 100000

theorem cellsU : Tryd.prog.cellsOf 26 = 2 := by kernel_rfl
theorem openUN {H : Type} {enc : TypeId × Value → H} {W : World} {base : Nat} {v : Value} {d : DataW H} {p : List MemPlace} (ok : Value.okWide Tryd.prog W .any base 26 v)
    (h : DataW.Trod enc Tryd.prog W 0 (fun _ => true) true 26 v d p) :
    ∃ (h l : Int) (N : Nat), Wn h l N ∧ v = .agg #[.int .u64 h, .int .u64 l] ∧ d = .agg [.lit (.int .u64 h), .lit (.int .u64 l)] ∧ p = [] ∧
      ∀ (W' : World) (sp : Nat → Bool), DataW.Trod enc Tryd.prog W' 0 sp true 26 (.agg #[.int .u64 h, .int .u64 l]) (.agg [.lit (.int .u64 h), .lit (.int .u64 l)]) [] := by
  obtain ⟨c0, c1, y0, y1, m, rfl, rfl, rfl, hy0, hy1⟩ := open_agg2 Tryd.underlying26 (by kernel_rfl) cellsU ok h
  obtain ⟨a, e0, rfl, wa⟩ := DataW.trod_int Tryd.underlying22 hy0
  obtain ⟨b, e1, rfl, wb⟩ := DataW.trod_int Tryd.underlying22 hy1
  simp at e0 e1
  subst e0 e1
  have b1 := bounds_u64 wa
  have b2 := bounds_u64 wb
  refine ⟨a, b, (a * 18446744073709551616 + b).toNat, ⟨by omega, by omega, by omega, by omega, by omega⟩, rfl, rfl, rfl, fun W' sp => ?_⟩
  exact shut_agg2 (y0 := (.lit (.int .u64 a), [])) (y1 := (.lit (.int .u64 b), [])) Tryd.underlying26 (by kernel_rfl) cellsU ⟨1, by simp [DataW.trod, Tryd.underlying22, wa]⟩ ⟨1, by simp [DataW.trod, Tryd.underlying22, wb]⟩
/-- The two words of a number in memory. -/
structure CU (w : World) (b : Nat) (h l : Int) : Prop where
  c : w.cell? ⟨b, 0, none⟩ = some (.int .u64 h) ∧ w.cell? ⟨b, 1, none⟩ = some (.int .u64 l)
theorem CU.below {w w' : World} {b : Nat} {h l : Int} (k : CU w b h l) (hb : Below w.heap.size w w') : CU w' b h l := ⟨two_below k.c hb⟩
theorem CU.alloc {w : World} {b : Nat} {h l : Int} (k : CU w b h l) (o : Obj) : CU (w.alloc o) b h l := k.below (below_allocs w o)
theorem CU.new (w : World) (h l : Int) (t : TypeId) : CU (w.alloc (.cells #[.int .u64 h, .int .u64 l] t)) w.heap.size h l := ⟨cells_new w _ _ t⟩
theorem CU.lt {w : World} {b : Nat} {h l : Int} (k : CU w b h l) : b < w.heap.size := World.block_lt_of_cell? w _ k.c.1
theorem lst01 (w : World) : Lst (w.alloc (.cells #[.int .i64 0, .int .i64 1] 3)) (some ⟨w.heap.size, 0, none⟩) 2 [0, 1] :=
  ⟨fun x hx => by simp at hx; omega, Nat.le_refl _, by decide, fun i hi => ⟨w.heap.size, 0, rfl, by
    have : i = 0 ∨ i = 1 := by simp at hi; omega
    rcases this with rfl | rfl <;> simp⟩⟩
theorem lst01f : [0, 1].length = 2 ∧ leB [0, 1] = 2 := ⟨rfl, rfl⟩
/-- An answer that is no bits. -/
def AnsB0 (w : World) (e : Ending) (w' : World) : Prop := ∃ (A : Option Addr) (cap : Nat), e = .returned (.slice A 0 cap) ∧ Lst w' A cap [] ∧ Below w.heap.size w w'
theorem ansB0 {w : World} {e : Ending} {w' : World} (h : AnsB (bitsOf 0) w e w') : AnsB0 w e w' := by
  rw [bitsOf_zero] at h
  exact h
theorem sameL_self (us : List Nat) : sameL us us = true := by unfold sameL; simp
/-- What stands behind the great test. -/
structure StT (w0 : World) (As : Option Addr) (cs : Nat) (ss : List Nat) (Au : Option Addr) (cu X : Nat) (Av : Option Addr) (cv Y : Nat) (w : World) : Prop where
  ps : Pol w As cs ss
  lu : Lst w Au cu (bitsOf X)
  lv : Lst w Av cv (bitsOf Y)
  below : Below w0.heap.size w0 w
def CutT (w0 : World) (As : Option Addr) (cs : Nat) (ss : List Nat) (Au : Option Addr) (cu X : Nat) (Av : Option Addr) (cv Y : Nat) (v : Value) (w : World) : Prop := v = .bool false ∧ StT w0 As cs ss Au cu X Av cv Y w
end Go.Proofs.YtemgoikghaiamaaDoor
