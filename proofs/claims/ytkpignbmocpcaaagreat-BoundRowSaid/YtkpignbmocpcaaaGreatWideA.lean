/-
  What the calls Of, Cmp, Add, Sub, Full and Mul of package wide answer, as numbers: sums, differences and products modulo 2^128, for all pairs of words.
  No condition beside that each word lies below 2^64.
-/
import Derived.Test.YtkpignbmocpcaaaGreatRows
import Derived.WalkKit
import Derived.ProofKit
import Derived.OpenShut
import Derived.Handy
import Derived.Lib.Mul64
import Derived.Lib.Hide
import Derived.Deep.QuietTactic
namespace Go.Proofs.YtkpignbmocpcaaaGreat.Wd
open Go.RowKit
set_option linter.unusedVariables false

/-- h and l are the two words of n. -/
def Is (n h l : Int) : Prop := 0 ≤ h ∧ h < 18446744073709551616 ∧ 0 ≤ l ∧ l < 18446744073709551616 ∧ h * 18446744073709551616 + l = n
/-- An answer that is one number of 128 bits. -/
def U1 (P : Int → Int → Prop) (w : World) (e : Ending) (w' : World) : Prop :=
  ∃ h l : Int, P h l ∧ e = .returned (.agg #[.int .u64 h, .int .u64 l]) ∧ Below w.heap.size w w'
/-- An answer that is one number of 128 bits, and a bool. -/
def U2 (P : Int → Int → Bool → Prop) (w : World) (e : Ending) (w' : World) : Prop :=
  ∃ (h l : Int) (c : Bool), P h l c ∧ e = .returned (.tuple #[.agg #[.int .u64 h, .int .u64 l], .bool c]) ∧ Below w.heap.size w w'
/-- An answer that is one integer of 64 bits. -/
def I1 (P : Int → Prop) (w : World) (e : Ending) (w' : World) : Prop :=
  ∃ n : Int, P n ∧ e = .returned (.int .i64 n) ∧ Below w.heap.size w w'

/-- What a callee leaves alone, and what its caller laid before. -/
theorem below_then {w W w' : World} (h : Below w.heap.size w W) (hb : Below W.heap.size W w') : Below w.heap.size w w' :=
  h.trans (hb.mono h.size)
/-- Block b holds the two words of a number. -/
def Has (w : World) (b : Nat) (h l : Int) : Prop :=
  b < w.heap.size ∧ w.cell? ⟨b, 0, none⟩ = some (.int .u64 h) ∧ w.cell? ⟨b, 1, none⟩ = some (.int .u64 l)
theorem Has.below {W w' : World} {b : Nat} {h l : Int} (k : Has W b h l) (hb : Below W.heap.size W w') : Has w' b h l :=
  ⟨Nat.lt_of_lt_of_le k.1 hb.size, (hb.cell (p := ⟨b, 0, none⟩) k.1).trans k.2.1, (hb.cell (p := ⟨b, 1, none⟩) k.1).trans k.2.2⟩
theorem Has.alloc {W : World} {b : Nat} {h l : Int} (k : Has W b h l) (o : Obj) : Has (W.alloc o) b h l :=
  ⟨by simp; have := k.1; omega, by rw [World.cell?_alloc_lt _ _ _ k.1]; exact k.2.1, by rw [World.cell?_alloc_lt _ _ _ k.1]; exact k.2.2⟩
theorem Has.fresh (W : World) (h l : Int) (t : TypeId) : Has (W.alloc (.cells #[.int .u64 h, .int .u64 l] t)) W.heap.size h l :=
  ⟨by simp, by simp, by simp⟩
theorem Has.drew {W : World} {b : Nat} {h l : Int} (k : Has W b h l) : Has W.drew b h l := k

/-- Block b holds two values, and may be written. -/
def Own (w : World) (b : Nat) (u v : Value) : Prop :=
  b < w.heap.size ∧ w.cell? ⟨b, 0, none⟩ = some u ∧ w.cell? ⟨b, 1, none⟩ = some v ∧ w.frozen? ⟨b, 0, none⟩ = false ∧ w.frozen? ⟨b, 1, none⟩ = false
theorem Own.below {W w' : World} {b : Nat} {u v : Value} (k : Own W b u v) (hb : Below W.heap.size W w') : Own w' b u v :=
  ⟨Nat.lt_of_lt_of_le k.1 hb.size, (hb.cell (p := ⟨b, 0, none⟩) k.1).trans k.2.1, (hb.cell (p := ⟨b, 1, none⟩) k.1).trans k.2.2.1,
    (hb.frozen (p := ⟨b, 0, none⟩) k.1).trans k.2.2.2.1, (hb.frozen (p := ⟨b, 1, none⟩) k.1).trans k.2.2.2.2⟩
theorem Own.alloc {W : World} {b : Nat} {u v : Value} (k : Own W b u v) (o : Obj) : Own (W.alloc o) b u v :=
  k.below ((Below.refl _ _).alloc (Nat.le_refl _) _)
theorem Own.fresh (W : World) (u v : Value) (t : TypeId) : Own (W.alloc (.cells #[u, v] t)) W.heap.size u v :=
  ⟨by simp, by simp, by simp, by simp [go_sem], by simp [go_sem]⟩
theorem Own.drewN {W : World} {b : Nat} {u v : Value} (k : Own W b u v) (n : Nat) : Own (W.drewN n) b u v := k
theorem Has.drewN {W : World} {b : Nat} {h l : Int} (k : Has W b h l) (n : Nat) : Has (W.drewN n) b h l := k
theorem below_drewN {w : World} (n : Nat) : Below w.heap.size w (w.drewN n) := ⟨rfl, rfl, rfl, Nat.le_refl _, fun _ _ => rfl⟩
theorem below_drewN' {B : Nat} {a w : World} (h : Below B a w) (n : Nat) : Below B a (w.drewN n) := ⟨h.os, h.tape, h.output, h.size, h.block⟩

theorem below_alloc {w W : World} (h : Below w.heap.size w W) (o : Obj) : Below w.heap.size w (W.alloc o) := h.alloc h.size o

theorem add64 (x y c : Int) (hx : 0 ≤ x) (hy : 0 ≤ y) (hc0 : 0 ≤ c) (hc : c ≤ 1) (w : World) :
    (callFunc 23 #[.int .u64 x, .int .u64 y, .int .u64 c]).run Tryz.prog w =
      .ok (.value (.tuple #[.int .u64 ((x + y + c) % 18446744073709551616), .int .u64 ((x + y + c) / 18446744073709551616)])) w := by
  obtain ⟨x, rfl⟩ := Int.eq_ofNat_of_zero_le hx
  obtain ⟨y, rfl⟩ := Int.eq_ofNat_of_zero_le hy
  obtain ⟨c, rfl⟩ := Int.eq_ofNat_of_zero_le hc0
  rw [run_callFunc_extern Tryz.func23 (by kernel_rfl) (by kernel_rfl) (by kernel_rfl) (e := add64Entry) (by kernel_rfl), run_add64 x y c (by omega) (by omega) (by omega) (by omega)]
  simp only [Result.andThen]

/-- The model's entry for Sub64. -/
def sub64E : Array Value → Sem Value := fun args => do
  let (x, y, b) ← Extern.MathBitsCarry.three "Sub64" args
  pure (Extern.MathBitsCarry.pair ((x + Extern.MathBitsCarry.m64 - y - b) % Extern.MathBitsCarry.m64) (if x < y + b then 1 else 0))
theorem run_sub64E (x y b : Nat) (hb : b ≤ 1) (w : World) :
    (sub64E #[.int .u64 x, .int .u64 y, .int .u64 b]).run Tryz.prog w =
      .ok (.tuple #[.int .u64 (((x + 18446744073709551616 - y - b) % 18446744073709551616 : Nat) : Int), .int .u64 ((if x < y + b then 1 else 0 : Nat) : Int)]) w := by
  have : b = 0 ∨ b = 1 := by omega
  rcases this with rfl | rfl <;> rfl
theorem sub64 (x y c : Int) (hx : 0 ≤ x) (hx1 : x < 18446744073709551616) (hy : 0 ≤ y) (hy1 : y < 18446744073709551616) (hc0 : 0 ≤ c) (hc : c ≤ 1) (w : World) :
    (callFunc 54 #[.int .u64 x, .int .u64 y, .int .u64 c]).run Tryz.prog w =
      .ok (.value (.tuple #[.int .u64 ((x - y - c) % 18446744073709551616), .int .u64 (-((x - y - c) / 18446744073709551616))])) w := by
  obtain ⟨x, rfl⟩ := Int.eq_ofNat_of_zero_le hx
  obtain ⟨y, rfl⟩ := Int.eq_ofNat_of_zero_le hy
  obtain ⟨c, rfl⟩ := Int.eq_ofNat_of_zero_le hc0
  rw [run_callFunc_extern Tryz.func54 (by kernel_rfl) (by kernel_rfl) (by kernel_rfl) (e := sub64E) (by kernel_rfl), run_sub64E x y c (by omega)]
  simp only [Result.andThen]
  have e1 : (((x + 18446744073709551616 - y - c) % 18446744073709551616 : Nat) : Int) = ((x : Int) - y - c) % 18446744073709551616 := by omega
  have e2 : ((if x < y + c then 1 else 0 : Nat) : Int) = -(((x : Int) - y - c) / 18446744073709551616) := by split <;> omega
  rw [e1, e2]

set_option maxRecDepth 100000 in
set_option maxHeartbeats 400000 in
theorem wAdd (ah al bh bl : Int) (a1 : 0 ≤ ah) (a2 : ah < 18446744073709551616) (a3 : 0 ≤ al) (a4 : al < 18446744073709551616) (b1 : 0 ≤ bh) (b2 : bh < 18446744073709551616) (b3 : 0 ≤ bl) (b4 : bl < 18446744073709551616) (w : World) :
    Calls Tryz.prog 9 #[.agg #[.int .u64 ah, .int .u64 al], .agg #[.int .u64 bh, .int .u64 bl]] w
      (U2 (fun h l c => Is ((ah * 18446744073709551616 + al + (bh * 18446744073709551616 + bl)) % 340282366920938463463374607431768211456) h l ∧ c = decide (340282366920938463463374607431768211456 ≤ ah * 18446744073709551616 + al + (bh * 18446744073709551616 + bl))) w) := by
  have q1 := add64 al bl 0 a3 b3 (by omega) (by omega)
  have q2 := add64 ah bh ((al + bl) / 18446744073709551616) a1 b1 (by omega) (by omega)
  rw [Int.add_zero] at q1
  go_enter Tryz.func9, Tryz.ntmps9
  go_wp2
  go_returns
  refine ⟨_, _, _, ⟨⟨?_, ?_, ?_, ?_, ?_⟩, ?_⟩, rfl, ?_⟩
  · omega
  · omega
  · omega
  · omega
  · omega
  · rw [Bool.eq_iff_iff]; simp; omega
  · go_grown

set_option maxRecDepth 100000 in
set_option maxHeartbeats 400000 in
theorem wSub (ah al bh bl : Int) (a1 : 0 ≤ ah) (a2 : ah < 18446744073709551616) (a3 : 0 ≤ al) (a4 : al < 18446744073709551616) (b1 : 0 ≤ bh) (b2 : bh < 18446744073709551616) (b3 : 0 ≤ bl) (b4 : bl < 18446744073709551616) (w : World) :
    Calls Tryz.prog 42 #[.agg #[.int .u64 ah, .int .u64 al], .agg #[.int .u64 bh, .int .u64 bl]] w
      (U2 (fun h l c => Is ((ah * 18446744073709551616 + al - (bh * 18446744073709551616 + bl)) % 340282366920938463463374607431768211456) h l ∧ c = decide (ah * 18446744073709551616 + al < bh * 18446744073709551616 + bl)) w) := by
  have q1 := sub64 al bl 0 a3 a4 b3 b4 (by omega) (by omega)
  have q2 := sub64 ah bh (-((al - bl) / 18446744073709551616)) a1 a2 b1 b2 (by omega) (by omega)
  rw [Int.sub_zero] at q1
  go_enter Tryz.func42, Tryz.ntmps42
  go_wp2
  go_returns
  refine ⟨_, _, _, ⟨⟨?_, ?_, ?_, ?_, ?_⟩, ?_⟩, rfl, ?_⟩
  · omega
  · omega
  · omega
  · omega
  · omega
  · rw [Bool.eq_iff_iff]; simp; omega
  · go_grown

def cmpOf (a b : Int) : Int := if a = b then 0 else if a < b then -1 else 1

set_option maxRecDepth 100000 in
set_option maxHeartbeats 400000 in
theorem wCmp (ah al bh bl : Int) (a1 : 0 ≤ ah) (a2 : ah < 18446744073709551616) (a3 : 0 ≤ al) (a4 : al < 18446744073709551616) (b1 : 0 ≤ bh) (b2 : bh < 18446744073709551616) (b3 : 0 ≤ bl) (b4 : bl < 18446744073709551616) (w : World) :
    Calls Tryz.prog 12 #[.agg #[.int .u64 ah, .int .u64 al], .agg #[.int .u64 bh, .int .u64 bl]] w
      (I1 (fun n => n = cmpOf (ah * 18446744073709551616 + al) (bh * 18446744073709551616 + bl)) w) := by
  go_enter Tryz.func12, Tryz.ntmps12
  go_wp2
  all_goals
    go_returns
    refine ⟨_, ?_, rfl, ?_⟩
    · unfold cmpOf
      by_cases h1 : ah * 18446744073709551616 + al = bh * 18446744073709551616 + bl
      · rw [if_pos h1]; first | done | omega
      · rw [if_neg h1]
        by_cases h2 : ah * 18446744073709551616 + al < bh * 18446744073709551616 + bl
        · rw [if_pos h2]; first | done | omega
        · rw [if_neg h2]; first | done | omega
    · go_grown

set_option maxRecDepth 100000 in
set_option maxHeartbeats 400000 in
theorem wOf (a : Int) (a1 : 0 ≤ a) (a2 : a < 18446744073709551616) (w : World) :
    Calls Tryz.prog 10 #[.int .u64 a] w (U1 (fun h l => h = 0 ∧ l = a) w) := by
  go_enter Tryz.func10, Tryz.ntmps10
  go_wp2
  go_returns
  refine ⟨_, _, ⟨rfl, rfl⟩, rfl, ?_⟩
  go_grown

theorem maskI (a : Nat) (ha : a < 18446744073709551616) : bits .and .u64 (a : Int) 4294967295 = ((a % 4294967296 : Nat) : Int) := by
  have h := bits_and_u64_nat a 4294967295 ha (by omega)
  rw [show a &&& 4294967295 = a % 4294967296 from Nat.and_two_pow_sub_one_eq_mod a 32] at h
  exact h
theorem wrapI (a : Nat) (ha : a < 18446744073709551616) : IntKind.u64.wrap (a : Int) = (a : Int) := by rw [IntKind.wrap_u64]; omega
theorem wrapJ (a : Nat) : IntKind.u64.wrap (a : Int) = ((a % 18446744073709551616 : Nat) : Int) := by rw [IntKind.wrap_u64]; omega
theorem divI (a : Nat) : (a : Int) / 4294967296 = ((a / 4294967296 : Nat) : Int) := by omega

set_option maxRecDepth 100000 in
set_option maxHeartbeats 1000000 in
theorem mul64n (x y : Nat) (hx : x < 18446744073709551616) (hy : y < 18446744073709551616) (w : World) :
    Calls Tryz.prog 30 #[.int .u64 x, .int .u64 y] w fun e w' => e = .returned (.tuple #[.int .u64 ((x * y / 18446744073709551616 : Nat) : Int), .int .u64 ((x * y % 18446744073709551616 : Nat) : Int)]) ∧ w = w' := by
  obtain ⟨bd, bt, bw, hhi⟩ := Lib.mul64_hi x y hx hy
  have ba := Lib.half_mul_le (a := x / 4294967296) (b := y / 4294967296) (by omega) (by omega)
  have bb := Lib.half_mul_le (a := x / 4294967296) (b := y % 4294967296) (by omega) (by omega)
  have bc := Lib.half_mul_le (a := x % 4294967296) (b := y / 4294967296) (by omega) (by omega)
  have ba' : x / 4294967296 * (y / 4294967296) < 18446744073709551616 := by omega
  have bb' : x / 4294967296 * (y % 4294967296) < 18446744073709551616 := by omega
  have bc' : x % 4294967296 * (y / 4294967296) < 18446744073709551616 := by omega
  have bh1 : x / 4294967296 * (y / 4294967296) + (x / 4294967296 * (y % 4294967296) + x % 4294967296 * (y % 4294967296) / 4294967296) / 4294967296 < 18446744073709551616 := by omega
  have bh : x / 4294967296 * (y / 4294967296) + (x / 4294967296 * (y % 4294967296) + x % 4294967296 * (y % 4294967296) / 4294967296) / 4294967296 + ((x / 4294967296 * (y % 4294967296) + x % 4294967296 * (y % 4294967296) / 4294967296) % 4294967296 + x % 4294967296 * (y / 4294967296)) / 4294967296 < 18446744073709551616 := by omega
  have HH := Lib.hid hhi
  clear hhi
  go_enter Tryz.func30, Tryz.ntmps30
  go_wp2
  simp only [maskI x hx, maskI y hy, divI, ← Int.natCast_mul, ← Int.natCast_add, wrapI _ bd, wrapI _ bb', wrapI _ bt, maskI _ bt, wrapI _ bc', wrapI _ bw, wrapI _ ba', wrapI _ bh1, wrapI _ bh, wrapJ (x * y)]
  rw [HH.out]
  go_ret2
  exact ⟨rfl, rfl⟩

theorem mul64 (x y : Int) (hx0 : 0 ≤ x) (hx : x < 18446744073709551616) (hy0 : 0 ≤ y) (hy : y < 18446744073709551616) (w : World) :
    Calls Tryz.prog 30 #[.int .u64 x, .int .u64 y] w fun e w' => e = .returned (.tuple #[.int .u64 (x * y / 18446744073709551616), .int .u64 (x * y % 18446744073709551616)]) ∧ w = w' := by
  obtain ⟨x, rfl⟩ := Int.eq_ofNat_of_zero_le hx0
  obtain ⟨y, rfl⟩ := Int.eq_ofNat_of_zero_le hy0
  have h := mul64n x y (by omega) (by omega) w
  have e1 : ((x * y / 18446744073709551616 : Nat) : Int) = (x : Int) * y / 18446744073709551616 := by rw [Int.natCast_ediv, Int.natCast_mul]; rfl
  have e2 : ((x * y % 18446744073709551616 : Nat) : Int) = (x : Int) * y % 18446744073709551616 := by rw [Int.natCast_emod, Int.natCast_mul]; rfl
  rw [e1, e2] at h
  exact h

theorem mul_bd (x y : Int) (hx0 : 0 ≤ x) (hx : x < 18446744073709551616) (hy0 : 0 ≤ y) (hy : y < 18446744073709551616) : 0 ≤ x * y ∧ x * y < 340282366920938463463374607431768211456 := by
  refine ⟨Int.mul_nonneg hx0 hy0, ?_⟩
  have h1 : x * y ≤ 18446744073709551615 * 18446744073709551615 := Int.mul_le_mul (by omega) (by omega) hy0 (by omega)
  omega

set_option maxRecDepth 100000 in
set_option maxHeartbeats 400000 in
theorem wFull (x y : Int) (hx0 : 0 ≤ x) (hx : x < 18446744073709551616) (hy0 : 0 ≤ y) (hy : y < 18446744073709551616) (w : World) :
    Calls Tryz.prog 18 #[.int .u64 x, .int .u64 y] w (U1 (fun h l => Is (x * y) h l) w) := by
  obtain ⟨c1, c2⟩ := mul_bd x y hx0 hx hy0 hy
  go_enter Tryz.func18, Tryz.ntmps18
  go_wp2_with (go_at_call 30; refine (mul64 _ _ (by omega) (by omega) (by omega) (by omega) _).mono ?_; rintro e w' ⟨rfl, rfl⟩)
  go_returns
  refine ⟨_, _, ⟨?_, ?_, ?_, ?_, ?_⟩, rfl, ?_⟩
  · omega
  · omega
  · omega
  · omega
  · omega
  · go_grown

theorem mul128 (ah al bh bl h l : Int) (hv : h * 18446744073709551616 + l = al * bl) (b1 : 0 ≤ h) (b2 : h < 18446744073709551616) (b3 : 0 ≤ l) (b4 : l < 18446744073709551616) :
    Is (((ah * 18446744073709551616 + al) * (bh * 18446744073709551616 + bl)) % 340282366920938463463374607431768211456) ((h + (ah * bl + al * bh)) % 18446744073709551616) l := by
  have e : (ah * 18446744073709551616 + al) * (bh * 18446744073709551616 + bl) = ah * bh * 340282366920938463463374607431768211456 + (ah * bl + al * bh) * 18446744073709551616 + al * bl := by
    rw [Int.add_mul, Int.mul_add, Int.mul_add]
    have e1 : ah * 18446744073709551616 * (bh * 18446744073709551616) = ah * bh * 340282366920938463463374607431768211456 := by
      rw [Int.mul_assoc, ← Int.mul_assoc 18446744073709551616 bh, Int.mul_comm 18446744073709551616 bh, Int.mul_assoc bh, ← Int.mul_assoc, show (18446744073709551616 : Int) * 18446744073709551616 = 340282366920938463463374607431768211456 from by decide]
    have e2 : ah * 18446744073709551616 * bl = ah * bl * 18446744073709551616 := by rw [Int.mul_assoc, Int.mul_comm 18446744073709551616 bl, ← Int.mul_assoc]
    have e3 : al * (bh * 18446744073709551616) = al * bh * 18446744073709551616 := by rw [← Int.mul_assoc]
    rw [e1, e2, e3]
    omega
  rw [e]
  generalize ah * bh = p at *
  generalize ah * bl + al * bh = q at *
  generalize al * bl = r at *
  refine ⟨?_, ?_, ?_, ?_, ?_⟩ <;> omega

end Go.Proofs.YtkpignbmocpcaaaGreat.Wd
