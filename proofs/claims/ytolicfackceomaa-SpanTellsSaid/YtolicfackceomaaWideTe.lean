/-
  What digits, whole and Add of the reference of layer 1 answer: four digits of 32 bits, and sums by them.
-/
import Derived.Test.YtolicfackceomaaWideN
import Derived.BigQuiet
namespace Go.Proofs.Ytolicfackceomaa.Wd
open Go.RowKit
set_option linter.unusedVariables false

def D4 (P : Int → Int → Int → Int → Prop) (w : World) (e : Ending) (w' : World) : Prop :=
  ∃ a b c d : Int, P a b c d ∧ e = .returned (.agg #[.int .u64 a, .int .u64 b, .int .u64 c, .int .u64 d]) ∧ Below w.heap.size w w'
/-- Four digits of 32 bits of a number. -/
def Is4 (n a b c d : Int) : Prop := 0 ≤ a ∧ a < 4294967296 ∧ 0 ≤ b ∧ b < 4294967296 ∧ 0 ≤ c ∧ c < 4294967296 ∧ 0 ≤ d ∧ d < 4294967296 ∧ a + 4294967296 * b + 18446744073709551616 * c + 79228162514264337593543950336 * d = n

set_option maxRecDepth 100000 in
set_option maxHeartbeats 400000 in
theorem rDigits (ah al : Int) (a1 : 0 ≤ ah) (a2 : ah < 18446744073709551616) (a3 : 0 ≤ al) (a4 : al < 18446744073709551616) (w : World) :
    Calls Try.prog 49 #[.agg #[.int .u64 ah, .int .u64 al]] w (D4 (fun a b c d => Is4 (ah * 18446744073709551616 + al) a b c d) w) := by
  go_enter Try.func49, Try.ntmps49
  go_wp2
  go_returns
  refine ⟨_, _, _, _, ⟨?_, ?_, ?_, ?_, ?_, ?_, ?_, ?_, ?_⟩, rfl, by go_grown⟩ <;> omega

set_option maxRecDepth 100000 in
set_option maxHeartbeats 400000 in
theorem rWhole (a b c d : Int) (a1 : 0 ≤ a) (a2 : a < 4294967296) (b1 : 0 ≤ b) (b2 : b < 4294967296) (c1 : 0 ≤ c) (c2 : c < 4294967296) (d1 : 0 ≤ d) (d2 : d < 4294967296) (w : World) :
    Calls Try.prog 50 #[.agg #[.int .u64 a, .int .u64 b, .int .u64 c, .int .u64 d]] w
      (U1 (fun h l => Is (a + 4294967296 * b + 18446744073709551616 * c + 79228162514264337593543950336 * d) h l) w) := by
  go_enter Try.func50, Try.ntmps50
  go_wp2
  go_returns
  refine ⟨_, _, ⟨?_, ?_, ?_, ?_, ?_⟩, rfl, by go_grown⟩ <;> omega

theorem sum4 (n m x0 x1 x2 x3 y0 y1 y2 y3 : Int) (p : Is4 n x0 x1 x2 x3) (q : Is4 m y0 y1 y2 y3) :
    (x0 + y0) % 4294967296 + 4294967296 * ((x1 + y1 + (x0 + y0) / 4294967296) % 4294967296) + 18446744073709551616 * ((x2 + y2 + (x1 + y1 + (x0 + y0) / 4294967296) / 4294967296) % 4294967296) + 79228162514264337593543950336 * ((x3 + y3 + (x2 + y2 + (x1 + y1 + (x0 + y0) / 4294967296) / 4294967296) / 4294967296) % 4294967296) = (n + m) % 340282366920938463463374607431768211456 ∧
    ((x3 + y3 + (x2 + y2 + (x1 + y1 + (x0 + y0) / 4294967296) / 4294967296) / 4294967296) / 4294967296 = 1 ↔ 340282366920938463463374607431768211456 ≤ n + m) ∧ True := by
  obtain ⟨p1, p2, p3, p4, p5, p6, p7, p8, p9⟩ := p
  obtain ⟨q1, q2, q3, q4, q5, q6, q7, q8, q9⟩ := q
  refine ⟨?_, ?_, trivial⟩ <;> omega
/-- Block b holds four words, and may be written. -/
structure Own4 (w : World) (b : Nat) (x0 x1 x2 x3 : Value) : Prop where
  lt : b < w.heap.size
  c0 : w.cell? ⟨b, 0, none⟩ = some x0
  c1 : w.cell? ⟨b, 1, none⟩ = some x1
  c2 : w.cell? ⟨b, 2, none⟩ = some x2
  c3 : w.cell? ⟨b, 3, none⟩ = some x3
  fr : ∀ j, w.frozen? ⟨b, j, none⟩ = false
theorem Own4.below {W w' : World} {b : Nat} {x0 x1 x2 x3 : Value} (k : Own4 W b x0 x1 x2 x3) (hb : Below W.heap.size W w') : Own4 w' b x0 x1 x2 x3 :=
  ⟨Nat.lt_of_lt_of_le k.lt hb.size, (hb.cell (p := ⟨b, 0, none⟩) k.lt).trans k.c0, (hb.cell (p := ⟨b, 1, none⟩) k.lt).trans k.c1, (hb.cell (p := ⟨b, 2, none⟩) k.lt).trans k.c2, (hb.cell (p := ⟨b, 3, none⟩) k.lt).trans k.c3,
    fun j => (hb.frozen (p := ⟨b, j, none⟩) k.lt).trans (k.fr j)⟩
theorem Own4.fresh (W : World) (x0 x1 x2 x3 : Value) (t : TypeId) : Own4 (W.alloc (.cells #[x0, x1, x2, x3] t)) W.heap.size x0 x1 x2 x3 :=
  ⟨by simp, by simp, by simp, by simp, by simp, fun j => by simp⟩

set_option maxRecDepth 100000 in
set_option maxHeartbeats 1000000 in
theorem rAdd (ah al bh bl : Int) (a1 : 0 ≤ ah) (a2 : ah < 18446744073709551616) (a3 : 0 ≤ al) (a4 : al < 18446744073709551616) (b1 : 0 ≤ bh) (b2 : bh < 18446744073709551616) (b3 : 0 ≤ bl) (b4 : bl < 18446744073709551616) (w : World) :
    Calls Try.prog 37 #[.agg #[.int .u64 ah, .int .u64 al], .agg #[.int .u64 bh, .int .u64 bl]] w
      (U2 (fun h l c => Is ((ah * 18446744073709551616 + al + (bh * 18446744073709551616 + bl)) % 340282366920938463463374607431768211456) h l ∧ c = decide (340282366920938463463374607431768211456 ≤ ah * 18446744073709551616 + al + (bh * 18446744073709551616 + bl))) w) := by
  go_enter Try.func37, Try.ntmps37
  go_wp2_with fail
  refine (rDigits ah al a1 a2 a3 a4 _).mono ?_
  rintro e w1 ⟨x0, x1, x2, x3, ⟨p1, p2, p3, p4, p5, p6, p7, p8, p9⟩, rfl, hb⟩
  have KR := (Own.fresh _ (.int .u64 0) (.int .u64 0) 32).below hb
  have KB := ((Has.fresh _ bh bl 32).alloc _).below hb
  have hB : Below w.heap.size w w1 := below_then (by go_grown) hb
  simp only [World.size_alloc] at KR KB
  have XV := Lib.hid p9
  clear p9 hb
  obtain ⟨sb, cb0, cb1⟩ := id KB
  go_wp2_with fail
  refine (rDigits bh bl b1 b2 b3 b4 _).mono ?_
  rintro e w2 ⟨y0, y1, y2, y3, ⟨q1, q2, q3, q4, q5, q6, q7, q8, q9⟩, rfl, hb⟩
  clear sb cb0 cb1
  have KX := (Own4.fresh w1 (.int .u64 x0) (.int .u64 x1) (.int .u64 x2) (.int .u64 x3) 82).below hb
  have hZ : Below w1.heap.size w1 w2 := below_then (below_alloc (Below.refl _ _) _) hb
  have YV := Lib.hid q9
  clear q9 hb KB
  obtain ⟨lx, cx0, cx1, cx2, cx3, fx⟩ := id KX
  have fx0 := fx 0
  have fx1 := fx 1
  have fx2 := fx 2
  have fx3 := fx 3
  clear fx
  go_wp2_with fail
  refine wp_loop_rounds 5 ?_
  rw [rounds_succ]
  go_wp2
  go_quiet (fail)
  go_wp2
  rw [rounds_succ]
  go_wp2
  go_quiet (fail)
  go_wp2
  rw [rounds_succ]
  go_wp2
  go_quiet (fail)
  go_wp2
  rw [rounds_succ]
  go_wp2
  go_quiet (fail)
  go_wp2
  rw [rounds_succ]
  go_wp2_with fail
  obtain ⟨g1, g2, g3⟩ := sum4 _ _ x0 x1 x2 x3 y0 y1 y2 y3 ⟨p1, p2, p3, p4, p5, p6, p7, p8, XV.out⟩ ⟨q1, q2, q3, q4, q5, q6, q7, q8, YV.out⟩
  refine (rWhole _ _ _ _ (by omega) (by omega) (by omega) (by omega) (by omega) (by omega) (by omega) (by omega) _).mono ?_
  rintro e w3 ⟨h, l, ⟨r1, r2, r3, r4, r5⟩, rfl, hb⟩
  rw [g1] at r5
  have G2 := Lib.hid g2
  have G3 := Lib.hid g3
  clear g1 g2 g3
  have hY : Below w1.heap.size w1 w3 := below_then ((below_drewN' ((below_drewN' ((below_drewN' ((below_drewN' (below_alloc hZ _) _).setCell (Nat.le_refl _) _) _).setCell (Nat.le_refl _) _) _).setCell (Nat.le_refl _) _) _).setCell (Nat.le_refl _) _) hb
  replace hB := below_then hB hY
  obtain ⟨z0, k0, k1, f0, f1⟩ := KR.below hY
  have RV := Lib.hid r5
  clear r5 hb lx cx0 cx1 cx2 cx3 fx0 fx1 fx2 fx3
  go_wp2
  refine bodyPost_ret (v := .tuple #[.agg #[.int .u64 h, .int .u64 l], .bool ((x3 + y3 + (x2 + y2 + (x1 + y1 + (x0 + y0) / 4294967296) / 4294967296) / 4294967296) / 4294967296 == 1)]) (by simp [results, Try.results37, go_sem, k0, k1]) rfl ⟨h, l, _, ⟨⟨r1, r2, r3, r4, RV.out⟩, ?_⟩, rfl, ?_⟩
  · rw [Bool.eq_iff_iff]; simp only [beq_iff_eq, decide_eq_true_eq]; exact G2.out
  · go_grown
end Go.Proofs.Ytolicfackceomaa.Wd
