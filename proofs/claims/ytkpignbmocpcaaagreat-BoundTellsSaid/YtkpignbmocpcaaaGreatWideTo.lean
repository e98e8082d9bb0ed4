/-
  What Mul of the reference of layer 1 answers. Made by wip/gen/widemul.py.
-/
import Derived.Test.YtkpignbmocpcaaaGreatWideTe
import Derived.BigQuiet
namespace Go.Proofs.YtkpignbmocpcaaaGreat.Wd
open Go.RowKit
set_option linter.unusedVariables false

theorem below_allocs (w : World) (o : Obj) : Below w.heap.size w (w.alloc o) := below_alloc (Below.refl _ _) o
theorem below_allocs2 (w : World) (o o' : Obj) : Below w.heap.size w ((w.alloc o).alloc o') := below_alloc (below_alloc (Below.refl _ _) o) o'
theorem Own.off {W : World} {b : Nat} {u v : Value} (k : Own W b u v) {b' i : Nat} (ne : b ≠ b') (x : Value) : Own (W.setCell ⟨b', i, none⟩ x) b u v := by
  have h : ∀ j, (W.setCell ⟨b', i, none⟩ x).cell? ⟨b, j, none⟩ = W.cell? ⟨b, j, none⟩ := fun j => World.cell?_setCell_other _ _ _ _ (fun q => by injection q with q _; exact ne q.symm)
  obtain ⟨a, c0, c1, f0, f1⟩ := k
  exact ⟨by simpa [World.setCell] using a, (h 0).trans c0, (h 1).trans c1, by rw [World.frozen?_setCell]; exact f0, by rw [World.frozen?_setCell]; exact f1⟩
section
variable {W : World} {b : Nat} {x0 x1 x2 x3 : Value}
theorem Own4.drewN (k : Own4 W b x0 x1 x2 x3) (n : Nat) : Own4 (W.drewN n) b x0 x1 x2 x3 := ⟨k.lt, k.c0, k.c1, k.c2, k.c3, k.fr⟩
theorem Own4.off (k : Own4 W b x0 x1 x2 x3) {b' i : Nat} (ne : b ≠ b') (x : Value) : Own4 (W.setCell ⟨b', i, none⟩ x) b x0 x1 x2 x3 := by
  have h : ∀ j, (W.setCell ⟨b', i, none⟩ x).cell? ⟨b, j, none⟩ = W.cell? ⟨b, j, none⟩ := fun j => World.cell?_setCell_other _ _ _ _ (fun q => by injection q with q _; exact ne q.symm)
  exact ⟨by simpa [World.setCell] using k.lt, (h 0).trans k.c0, (h 1).trans k.c1, (h 2).trans k.c2, (h 3).trans k.c3, fun j => by rw [World.frozen?_setCell]; exact k.fr j⟩
theorem other4 (W : World) (b i j : Nat) (x : Value) (ne : j ≠ i) : (W.setCell ⟨b, i, none⟩ x).cell? ⟨b, j, none⟩ = W.cell? ⟨b, j, none⟩ := World.cell?_setCell_other _ _ _ _ (fun q => by injection q with _ q; exact ne q.symm)
theorem Own4.s0 (k : Own4 W b x0 x1 x2 x3) (x : Value) : Own4 (W.setCell ⟨b, 0, none⟩ x) b x x1 x2 x3 :=
  ⟨by simpa [World.setCell] using k.lt, World.cell?_setCell_same _ _ _ k.c0, (other4 W b 0 1 x (by omega)).trans k.c1, (other4 W b 0 2 x (by omega)).trans k.c2, (other4 W b 0 3 x (by omega)).trans k.c3, fun j => by rw [World.frozen?_setCell]; exact k.fr j⟩
theorem Own4.s1 (k : Own4 W b x0 x1 x2 x3) (x : Value) : Own4 (W.setCell ⟨b, 1, none⟩ x) b x0 x x2 x3 :=
  ⟨by simpa [World.setCell] using k.lt, (other4 W b 1 0 x (by omega)).trans k.c0, World.cell?_setCell_same _ _ _ k.c1, (other4 W b 1 2 x (by omega)).trans k.c2, (other4 W b 1 3 x (by omega)).trans k.c3, fun j => by rw [World.frozen?_setCell]; exact k.fr j⟩
theorem Own4.s2 (k : Own4 W b x0 x1 x2 x3) (x : Value) : Own4 (W.setCell ⟨b, 2, none⟩ x) b x0 x1 x x3 :=
  ⟨by simpa [World.setCell] using k.lt, (other4 W b 2 0 x (by omega)).trans k.c0, (other4 W b 2 1 x (by omega)).trans k.c1, World.cell?_setCell_same _ _ _ k.c2, (other4 W b 2 3 x (by omega)).trans k.c3, fun j => by rw [World.frozen?_setCell]; exact k.fr j⟩
theorem Own4.s3 (k : Own4 W b x0 x1 x2 x3) (x : Value) : Own4 (W.setCell ⟨b, 3, none⟩ x) b x0 x1 x2 x :=
  ⟨by simpa [World.setCell] using k.lt, (other4 W b 3 0 x (by omega)).trans k.c0, (other4 W b 3 1 x (by omega)).trans k.c1, (other4 W b 3 2 x (by omega)).trans k.c2, World.cell?_setCell_same _ _ _ k.c3, fun j => by rw [World.frozen?_setCell]; exact k.fr j⟩
end
theorem prod32 (x y : Int) (h0 : 0 ≤ x) (h1 : x < 4294967296) (k0 : 0 ≤ y) (k1 : y < 4294967296) : ∃ m : Int, x * y = m ∧ 0 ≤ m ∧ m ≤ 18446744065119617025 :=
  ⟨_, rfl, Int.mul_nonneg h0 k0, by
    have a : x * y ≤ 4294967295 * y := Int.mul_le_mul_of_nonneg_right (by omega) k0
    omega⟩
theorem digit32 (n : Int) (h0 : 0 ≤ n) (h1 : n ≤ 18446744073709551615) : ∃ z c : Int, n % 4294967296 = z ∧ n / 4294967296 = c ∧ z + 4294967296 * c = n ∧ 0 ≤ z ∧ z < 4294967296 ∧ 0 ≤ c ∧ c < 4294967296 :=
  ⟨_, _, rfl, rfl, by omega, by omega, by omega, by omega, by omega⟩
theorem fin32 (x0 x1 x2 x3 y0 y1 y2 y3 m00 m01 m02 m03 m10 m11 m12 m20 m21 m30 z1 c1 z2 c2 z3 c3 z4 c4 z5 c5 z6 c6 z7 c7 z8 c8 z9 c9 z10 c10 : Int) (e00 : x0 * y0 = m00) (e01 : x0 * y1 = m01) (e02 : x0 * y2 = m02) (e03 : x0 * y3 = m03) (e10 : x1 * y0 = m10) (e11 : x1 * y1 = m11) (e12 : x1 * y2 = m12) (e20 : x2 * y0 = m20) (e21 : x2 * y1 = m21) (e30 : x3 * y0 = m30)
    (s1 : z1 + 4294967296 * c1 = m00) (s2 : z2 + 4294967296 * c2 = m01 + c1) (s3 : z3 + 4294967296 * c3 = m02 + c2) (s4 : z4 + 4294967296 * c4 = m03 + c3) (s5 : z5 + 4294967296 * c5 = z2 + m10) (s6 : z6 + 4294967296 * c6 = z3 + m11 + c5) (s7 : z7 + 4294967296 * c7 = z4 + m12 + c6) (s8 : z8 + 4294967296 * c8 = z6 + m20) (s9 : z9 + 4294967296 * c9 = z7 + m21 + c8) (s10 : z10 + 4294967296 * c10 = z9 + m30) (a0 : 0 ≤ z1) (b0 : z1 < 4294967296) (a1 : 0 ≤ z5) (b1 : z5 < 4294967296) (a2 : 0 ≤ z8) (b2 : z8 < 4294967296) (a3 : 0 ≤ z10) (b3 : z10 < 4294967296) :
    z1 + 4294967296 * z5 + 18446744073709551616 * z8 + 79228162514264337593543950336 * z10 = (x0 + 4294967296 * x1 + 18446744073709551616 * x2 + 79228162514264337593543950336 * x3) * (y0 + 4294967296 * y1 + 18446744073709551616 * y2 + 79228162514264337593543950336 * y3) % 340282366920938463463374607431768211456 := by
  obtain ⟨T, hT⟩ : ∃ T : Int, (x0 + 4294967296 * x1 + 18446744073709551616 * x2 + 79228162514264337593543950336 * x3) * (y0 + 4294967296 * y1 + 18446744073709551616 * y2 + 79228162514264337593543950336 * y3) =
      m00 + 4294967296 * (m01 + m10) + 18446744073709551616 * (m02 + m11 + m20) + 79228162514264337593543950336 * (m03 + m12 + m21 + m30) + 340282366920938463463374607431768211456 * T :=
    ⟨x1 * y3 + x2 * y2 + x3 * y1 + 4294967296 * (x2 * y3 + x3 * y2) + 18446744073709551616 * (x3 * y3), by
      rw [← e00, ← e01, ← e02, ← e03, ← e10, ← e11, ← e12, ← e20, ← e21, ← e30]
      grind⟩
  rw [hT]
  clear hT e00 e01 e02 e03 e10 e11 e12 e20 e21 e30
  omega

set_option maxRecDepth 100000 in
set_option maxHeartbeats 8000000 in
theorem rMul (ah al bh bl : Int) (a1 : 0 ≤ ah) (a2 : ah < 18446744073709551616) (a3 : 0 ≤ al) (a4 : al < 18446744073709551616) (b1 : 0 ≤ bh) (b2 : bh < 18446744073709551616) (b3 : 0 ≤ bl) (b4 : bl < 18446744073709551616) (w : World) :
    Calls Tryz.prog 20 #[.agg #[.int .u64 ah, .int .u64 al], .agg #[.int .u64 bh, .int .u64 bl]] w
      (U1 (fun h l => Is ((ah * 18446744073709551616 + al) * (bh * 18446744073709551616 + bl) % 340282366920938463463374607431768211456) h l) w) := by
  go_enter Tryz.func20, Tryz.ntmps20
  go_wp2_with fail
  refine (rDigits ah al a1 a2 a3 a4 _).mono ?_
  rintro e w1 ⟨x0, x1, x2, x3, ⟨p1, p2, p3, p4, p5, p6, p7, p8, p9⟩, rfl, hb⟩
  have KR := (Own.fresh _ (.int .u64 0) (.int .u64 0) 52).below hb
  have KB := ((Has.fresh _ bh bl 52).alloc _).below hb
  have hB : Below w.heap.size w w1 := below_then (by go_grown) hb
  simp only [World.size_alloc] at KR KB
  have XV := Lib.hid p9
  clear p9 hb
  obtain ⟨sb, cb0, cb1⟩ := id KB
  go_wp2_with fail
  refine (rDigits bh bl b1 b2 b3 b4 _).mono ?_
  rintro e w2 ⟨y0, y1, y2, y3, ⟨q1, q2, q3, q4, q5, q6, q7, q8, q9⟩, rfl, hb⟩
  clear sb cb0 cb1
  have KX := (Own4.fresh w1 (.int .u64 x0) (.int .u64 x1) (.int .u64 x2) (.int .u64 x3) 60).below hb
  have KR2 := (KR.alloc (.cells #[.int .u64 x0, .int .u64 x1, .int .u64 x2, .int .u64 x3] 60)).below hb
  replace hB := below_then (below_alloc hB (.cells #[.int .u64 x0, .int .u64 x1, .int .u64 x2, .int .u64 x3] 60)) hb
  have YV := Lib.hid q9
  have s1 := hb.size
  simp only [World.size_alloc] at s1
  clear q9 hb KB KR
  go_wp2_with fail
  have KY := Own4.fresh w2 (.int .u64 y0) (.int .u64 y1) (.int .u64 y2) (.int .u64 y3) 60
  have KZ := Own4.fresh (w2.alloc (.cells #[.int .u64 y0, .int .u64 y1, .int .u64 y2, .int .u64 y3] 60)) (.int .u64 0) (.int .u64 0) (.int .u64 0) (.int .u64 0) 60
  replace KY := KY.below (below_allocs _ (.cells #[.int .u64 0, .int .u64 0, .int .u64 0, .int .u64 0] 60))
  replace KX := KX.below (below_allocs2 w2 (.cells #[.int .u64 y0, .int .u64 y1, .int .u64 y2, .int .u64 y3] 60) (.cells #[.int .u64 0, .int .u64 0, .int .u64 0, .int .u64 0] 60))
  have KR3 := KR2.below (below_allocs2 w2 (.cells #[.int .u64 y0, .int .u64 y1, .int .u64 y2, .int .u64 y3] 60) (.cells #[.int .u64 0, .int .u64 0, .int .u64 0, .int .u64 0] 60))
  replace hB := below_then hB (below_allocs2 w2 (.cells #[.int .u64 y0, .int .u64 y1, .int .u64 y2, .int .u64 y3] 60) (.cells #[.int .u64 0, .int .u64 0, .int .u64 0, .int .u64 0] 60))
  simp only [World.size_alloc] at KZ
  have s0 := hB.size
  have nx : w1.heap.size ≠ w2.heap.size + 1 := by omega
  have ny : w2.heap.size ≠ w2.heap.size + 1 := by omega
  have nr : w.heap.size + 1 + 1 ≠ w2.heap.size + 1 := by have := KR2.1; have := KX.lt; omega
  have lz : w.heap.size ≤ w2.heap.size + 1 := by have := KR2.1; omega
  clear KR2
  generalize hW : World.alloc (World.alloc w2 _) _ = W0 at KX KY KZ KR3 hB ⊢
  clear hW s0 s1
  obtain ⟨m00, e00, l00, h00⟩ := prod32 x0 y0 (by omega) (by omega) (by omega) (by omega)
  have E00 := Lib.hid e00
  clear e00
  obtain ⟨m01, e01, l01, h01⟩ := prod32 x0 y1 (by omega) (by omega) (by omega) (by omega)
  have E01 := Lib.hid e01
  clear e01
  obtain ⟨m02, e02, l02, h02⟩ := prod32 x0 y2 (by omega) (by omega) (by omega) (by omega)
  have E02 := Lib.hid e02
  clear e02
  obtain ⟨m03, e03, l03, h03⟩ := prod32 x0 y3 (by omega) (by omega) (by omega) (by omega)
  have E03 := Lib.hid e03
  clear e03
  obtain ⟨m10, e10, l10, h10⟩ := prod32 x1 y0 (by omega) (by omega) (by omega) (by omega)
  have E10 := Lib.hid e10
  clear e10
  obtain ⟨m11, e11, l11, h11⟩ := prod32 x1 y1 (by omega) (by omega) (by omega) (by omega)
  have E11 := Lib.hid e11
  clear e11
  obtain ⟨m12, e12, l12, h12⟩ := prod32 x1 y2 (by omega) (by omega) (by omega) (by omega)
  have E12 := Lib.hid e12
  clear e12
  obtain ⟨m20, e20, l20, h20⟩ := prod32 x2 y0 (by omega) (by omega) (by omega) (by omega)
  have E20 := Lib.hid e20
  clear e20
  obtain ⟨m21, e21, l21, h21⟩ := prod32 x2 y1 (by omega) (by omega) (by omega) (by omega)
  have E21 := Lib.hid e21
  clear e21
  obtain ⟨m30, e30, l30, h30⟩ := prod32 x3 y0 (by omega) (by omega) (by omega) (by omega)
  have E30 := Lib.hid e30
  clear e30
  refine wp_loop_rounds 5 ?_
  rw [rounds_succ]
  go_wp2
  refine wp_loop_rounds 5 ?_
  rw [rounds_succ]
  have e := E00.out
  obtain ⟨_, dx0, dx1, dx2, dx3, _⟩ := id KX
  obtain ⟨_, dy0, dy1, dy2, dy3, _⟩ := id KY
  obtain ⟨_, dz0, dz1, dz2, dz3, fz⟩ := id KZ
  have fzj := fz 0
  clear fz
  go_wp2
  go_quiet (fail)
  go_wp2
  clear dx0 dx1 dx2 dx3 dy0 dy1 dy2 dy3 dz0 dz1 dz2 dz3 fzj e
  replace KX := (KX.drewN nq).off (i := 0) nx (.int .u64 (m00 % 4294967296))
  replace KY := (KY.drewN nq).off (i := 0) ny (.int .u64 (m00 % 4294967296))
  replace KR3 := (KR3.drewN nq).off (i := 0) nr (.int .u64 (m00 % 4294967296))
  replace KZ := (KZ.drewN nq).s0 (.int .u64 (m00 % 4294967296))
  replace hB := (below_drewN' hB nq).setCell (p := ⟨w2.heap.size + 1, 0, none⟩) lz (.int .u64 (m00 % 4294967296))
  generalize hW : World.setCell _ _ _ = W1 at KX KY KZ KR3 hB ⊢
  clear hW
  obtain ⟨z1, c1, hz, hc, st, u1, u2, u3, u4⟩ := digit32 (m00) (by omega) (by omega)
  rw [hz] at KZ
  try rw [hc]
  have S1 := Lib.hid st
  clear hz hc st
  rw [rounds_succ]
  have e := E01.out
  obtain ⟨_, dx0, dx1, dx2, dx3, _⟩ := id KX
  obtain ⟨_, dy0, dy1, dy2, dy3, _⟩ := id KY
  obtain ⟨_, dz0, dz1, dz2, dz3, fz⟩ := id KZ
  have fzj := fz 1
  clear fz
  go_wp2
  go_quiet (fail)
  go_wp2
  clear dx0 dx1 dx2 dx3 dy0 dy1 dy2 dy3 dz0 dz1 dz2 dz3 fzj e
  replace KX := (KX.drewN nq).off (i := 1) nx (.int .u64 ((m01 + c1) % 4294967296))
  replace KY := (KY.drewN nq).off (i := 1) ny (.int .u64 ((m01 + c1) % 4294967296))
  replace KR3 := (KR3.drewN nq).off (i := 1) nr (.int .u64 ((m01 + c1) % 4294967296))
  replace KZ := (KZ.drewN nq).s1 (.int .u64 ((m01 + c1) % 4294967296))
  replace hB := (below_drewN' hB nq).setCell (p := ⟨w2.heap.size + 1, 1, none⟩) lz (.int .u64 ((m01 + c1) % 4294967296))
  generalize hW : World.setCell _ _ _ = W2 at KX KY KZ KR3 hB ⊢
  clear hW
  obtain ⟨z2, c2, hz, hc, st, u1, u2, u3, u4⟩ := digit32 (m01 + c1) (by omega) (by omega)
  rw [hz] at KZ
  try rw [hc]
  have S2 := Lib.hid st
  clear hz hc st
  rw [rounds_succ]
  have e := E02.out
  obtain ⟨_, dx0, dx1, dx2, dx3, _⟩ := id KX
  obtain ⟨_, dy0, dy1, dy2, dy3, _⟩ := id KY
  obtain ⟨_, dz0, dz1, dz2, dz3, fz⟩ := id KZ
  have fzj := fz 2
  clear fz
  go_wp2
  go_quiet (fail)
  go_wp2
  clear dx0 dx1 dx2 dx3 dy0 dy1 dy2 dy3 dz0 dz1 dz2 dz3 fzj e
  replace KX := (KX.drewN nq).off (i := 2) nx (.int .u64 ((m02 + c2) % 4294967296))
  replace KY := (KY.drewN nq).off (i := 2) ny (.int .u64 ((m02 + c2) % 4294967296))
  replace KR3 := (KR3.drewN nq).off (i := 2) nr (.int .u64 ((m02 + c2) % 4294967296))
  replace KZ := (KZ.drewN nq).s2 (.int .u64 ((m02 + c2) % 4294967296))
  replace hB := (below_drewN' hB nq).setCell (p := ⟨w2.heap.size + 1, 2, none⟩) lz (.int .u64 ((m02 + c2) % 4294967296))
  generalize hW : World.setCell _ _ _ = W3 at KX KY KZ KR3 hB ⊢
  clear hW
  obtain ⟨z3, c3, hz, hc, st, u1, u2, u3, u4⟩ := digit32 (m02 + c2) (by omega) (by omega)
  rw [hz] at KZ
  try rw [hc]
  have S3 := Lib.hid st
  clear hz hc st
  rw [rounds_succ]
  have e := E03.out
  obtain ⟨_, dx0, dx1, dx2, dx3, _⟩ := id KX
  obtain ⟨_, dy0, dy1, dy2, dy3, _⟩ := id KY
  obtain ⟨_, dz0, dz1, dz2, dz3, fz⟩ := id KZ
  have fzj := fz 3
  clear fz
  go_wp2
  go_quiet (fail)
  go_wp2
  clear dx0 dx1 dx2 dx3 dy0 dy1 dy2 dy3 dz0 dz1 dz2 dz3 fzj e
  replace KX := (KX.drewN nq).off (i := 3) nx (.int .u64 ((m03 + c3) % 4294967296))
  replace KY := (KY.drewN nq).off (i := 3) ny (.int .u64 ((m03 + c3) % 4294967296))
  replace KR3 := (KR3.drewN nq).off (i := 3) nr (.int .u64 ((m03 + c3) % 4294967296))
  replace KZ := (KZ.drewN nq).s3 (.int .u64 ((m03 + c3) % 4294967296))
  replace hB := (below_drewN' hB nq).setCell (p := ⟨w2.heap.size + 1, 3, none⟩) lz (.int .u64 ((m03 + c3) % 4294967296))
  generalize hW : World.setCell _ _ _ = W4 at KX KY KZ KR3 hB ⊢
  clear hW
  obtain ⟨z4, c4, hz, hc, st, u1, u2, u3, u4⟩ := digit32 (m03 + c3) (by omega) (by omega)
  rw [hz] at KZ
  try rw [hc]
  have S4 := Lib.hid st
  clear hz hc st
  rw [rounds_succ]
  go_wp2
  rw [rounds_succ]
  go_wp2
  refine wp_loop_rounds 4 ?_
  rw [rounds_succ]
  have e := E10.out
  obtain ⟨_, dx0, dx1, dx2, dx3, _⟩ := id KX
  obtain ⟨_, dy0, dy1, dy2, dy3, _⟩ := id KY
  obtain ⟨_, dz0, dz1, dz2, dz3, fz⟩ := id KZ
  have fzj := fz 1
  clear fz
  go_wp2
  go_quiet (fail)
  go_wp2
  clear dx0 dx1 dx2 dx3 dy0 dy1 dy2 dy3 dz0 dz1 dz2 dz3 fzj e
  replace KX := (KX.drewN nq).off (i := 1) nx (.int .u64 ((z2 + m10) % 4294967296))
  replace KY := (KY.drewN nq).off (i := 1) ny (.int .u64 ((z2 + m10) % 4294967296))
  replace KR3 := (KR3.drewN nq).off (i := 1) nr (.int .u64 ((z2 + m10) % 4294967296))
  replace KZ := (KZ.drewN nq).s1 (.int .u64 ((z2 + m10) % 4294967296))
  replace hB := (below_drewN' hB nq).setCell (p := ⟨w2.heap.size + 1, 1, none⟩) lz (.int .u64 ((z2 + m10) % 4294967296))
  generalize hW : World.setCell _ _ _ = W5 at KX KY KZ KR3 hB ⊢
  clear hW
  obtain ⟨z5, c5, hz, hc, st, u1, u2, u3, u4⟩ := digit32 (z2 + m10) (by omega) (by omega)
  rw [hz] at KZ
  try rw [hc]
  have S5 := Lib.hid st
  clear hz hc st
  rw [rounds_succ]
  have e := E11.out
  obtain ⟨_, dx0, dx1, dx2, dx3, _⟩ := id KX
  obtain ⟨_, dy0, dy1, dy2, dy3, _⟩ := id KY
  obtain ⟨_, dz0, dz1, dz2, dz3, fz⟩ := id KZ
  have fzj := fz 2
  clear fz
  go_wp2
  go_quiet (fail)
  go_wp2
  clear dx0 dx1 dx2 dx3 dy0 dy1 dy2 dy3 dz0 dz1 dz2 dz3 fzj e
  replace KX := (KX.drewN nq).off (i := 2) nx (.int .u64 ((z3 + m11 + c5) % 4294967296))
  replace KY := (KY.drewN nq).off (i := 2) ny (.int .u64 ((z3 + m11 + c5) % 4294967296))
  replace KR3 := (KR3.drewN nq).off (i := 2) nr (.int .u64 ((z3 + m11 + c5) % 4294967296))
  replace KZ := (KZ.drewN nq).s2 (.int .u64 ((z3 + m11 + c5) % 4294967296))
  replace hB := (below_drewN' hB nq).setCell (p := ⟨w2.heap.size + 1, 2, none⟩) lz (.int .u64 ((z3 + m11 + c5) % 4294967296))
  generalize hW : World.setCell _ _ _ = W6 at KX KY KZ KR3 hB ⊢
  clear hW
  obtain ⟨z6, c6, hz, hc, st, u1, u2, u3, u4⟩ := digit32 (z3 + m11 + c5) (by omega) (by omega)
  rw [hz] at KZ
  try rw [hc]
  have S6 := Lib.hid st
  clear hz hc st
  rw [rounds_succ]
  have e := E12.out
  obtain ⟨_, dx0, dx1, dx2, dx3, _⟩ := id KX
  obtain ⟨_, dy0, dy1, dy2, dy3, _⟩ := id KY
  obtain ⟨_, dz0, dz1, dz2, dz3, fz⟩ := id KZ
  have fzj := fz 3
  clear fz
  go_wp2
  go_quiet (fail)
  go_wp2
  clear dx0 dx1 dx2 dx3 dy0 dy1 dy2 dy3 dz0 dz1 dz2 dz3 fzj e
  replace KX := (KX.drewN nq).off (i := 3) nx (.int .u64 ((z4 + m12 + c6) % 4294967296))
  replace KY := (KY.drewN nq).off (i := 3) ny (.int .u64 ((z4 + m12 + c6) % 4294967296))
  replace KR3 := (KR3.drewN nq).off (i := 3) nr (.int .u64 ((z4 + m12 + c6) % 4294967296))
  replace KZ := (KZ.drewN nq).s3 (.int .u64 ((z4 + m12 + c6) % 4294967296))
  replace hB := (below_drewN' hB nq).setCell (p := ⟨w2.heap.size + 1, 3, none⟩) lz (.int .u64 ((z4 + m12 + c6) % 4294967296))
  generalize hW : World.setCell _ _ _ = W7 at KX KY KZ KR3 hB ⊢
  clear hW
  obtain ⟨z7, c7, hz, hc, st, u1, u2, u3, u4⟩ := digit32 (z4 + m12 + c6) (by omega) (by omega)
  rw [hz] at KZ
  try rw [hc]
  have S7 := Lib.hid st
  clear hz hc st
  rw [rounds_succ]
  go_wp2
  rw [rounds_succ]
  go_wp2
  refine wp_loop_rounds 3 ?_
  rw [rounds_succ]
  have e := E20.out
  obtain ⟨_, dx0, dx1, dx2, dx3, _⟩ := id KX
  obtain ⟨_, dy0, dy1, dy2, dy3, _⟩ := id KY
  obtain ⟨_, dz0, dz1, dz2, dz3, fz⟩ := id KZ
  have fzj := fz 2
  clear fz
  go_wp2
  go_quiet (fail)
  go_wp2
  clear dx0 dx1 dx2 dx3 dy0 dy1 dy2 dy3 dz0 dz1 dz2 dz3 fzj e
  replace KX := (KX.drewN nq).off (i := 2) nx (.int .u64 ((z6 + m20) % 4294967296))
  replace KY := (KY.drewN nq).off (i := 2) ny (.int .u64 ((z6 + m20) % 4294967296))
  replace KR3 := (KR3.drewN nq).off (i := 2) nr (.int .u64 ((z6 + m20) % 4294967296))
  replace KZ := (KZ.drewN nq).s2 (.int .u64 ((z6 + m20) % 4294967296))
  replace hB := (below_drewN' hB nq).setCell (p := ⟨w2.heap.size + 1, 2, none⟩) lz (.int .u64 ((z6 + m20) % 4294967296))
  generalize hW : World.setCell _ _ _ = W8 at KX KY KZ KR3 hB ⊢
  clear hW
  obtain ⟨z8, c8, hz, hc, st, u1, u2, u3, u4⟩ := digit32 (z6 + m20) (by omega) (by omega)
  rw [hz] at KZ
  try rw [hc]
  have S8 := Lib.hid st
  clear hz hc st
  rw [rounds_succ]
  have e := E21.out
  obtain ⟨_, dx0, dx1, dx2, dx3, _⟩ := id KX
  obtain ⟨_, dy0, dy1, dy2, dy3, _⟩ := id KY
  obtain ⟨_, dz0, dz1, dz2, dz3, fz⟩ := id KZ
  have fzj := fz 3
  clear fz
  go_wp2
  go_quiet (fail)
  go_wp2
  clear dx0 dx1 dx2 dx3 dy0 dy1 dy2 dy3 dz0 dz1 dz2 dz3 fzj e
  replace KX := (KX.drewN nq).off (i := 3) nx (.int .u64 ((z7 + m21 + c8) % 4294967296))
  replace KY := (KY.drewN nq).off (i := 3) ny (.int .u64 ((z7 + m21 + c8) % 4294967296))
  replace KR3 := (KR3.drewN nq).off (i := 3) nr (.int .u64 ((z7 + m21 + c8) % 4294967296))
  replace KZ := (KZ.drewN nq).s3 (.int .u64 ((z7 + m21 + c8) % 4294967296))
  replace hB := (below_drewN' hB nq).setCell (p := ⟨w2.heap.size + 1, 3, none⟩) lz (.int .u64 ((z7 + m21 + c8) % 4294967296))
  generalize hW : World.setCell _ _ _ = W9 at KX KY KZ KR3 hB ⊢
  clear hW
  obtain ⟨z9, c9, hz, hc, st, u1, u2, u3, u4⟩ := digit32 (z7 + m21 + c8) (by omega) (by omega)
  rw [hz] at KZ
  try rw [hc]
  have S9 := Lib.hid st
  clear hz hc st
  rw [rounds_succ]
  go_wp2
  rw [rounds_succ]
  go_wp2
  refine wp_loop_rounds 2 ?_
  rw [rounds_succ]
  have e := E30.out
  obtain ⟨_, dx0, dx1, dx2, dx3, _⟩ := id KX
  obtain ⟨_, dy0, dy1, dy2, dy3, _⟩ := id KY
  obtain ⟨_, dz0, dz1, dz2, dz3, fz⟩ := id KZ
  have fzj := fz 3
  clear fz
  go_wp2
  go_quiet (fail)
  go_wp2
  clear dx0 dx1 dx2 dx3 dy0 dy1 dy2 dy3 dz0 dz1 dz2 dz3 fzj e
  replace KX := (KX.drewN nq).off (i := 3) nx (.int .u64 ((z9 + m30) % 4294967296))
  replace KY := (KY.drewN nq).off (i := 3) ny (.int .u64 ((z9 + m30) % 4294967296))
  replace KR3 := (KR3.drewN nq).off (i := 3) nr (.int .u64 ((z9 + m30) % 4294967296))
  replace KZ := (KZ.drewN nq).s3 (.int .u64 ((z9 + m30) % 4294967296))
  replace hB := (below_drewN' hB nq).setCell (p := ⟨w2.heap.size + 1, 3, none⟩) lz (.int .u64 ((z9 + m30) % 4294967296))
  generalize hW : World.setCell _ _ _ = W10 at KX KY KZ KR3 hB ⊢
  clear hW
  obtain ⟨z10, c10, hz, hc, st, u1, u2, u3, u4⟩ := digit32 (z9 + m30) (by omega) (by omega)
  rw [hz] at KZ
  try rw [hc]
  have S10 := Lib.hid st
  clear hz hc st
  rw [rounds_succ]
  go_wp2
  rw [rounds_succ]
  obtain ⟨_, dz0, dz1, dz2, dz3, _⟩ := id KZ
  go_wp2_with fail
  refine (rWhole z1 z5 z8 z10 (by omega) (by omega) (by omega) (by omega) (by omega) (by omega) (by omega) (by omega) _).mono ?_
  rintro e w3 ⟨h, l, ⟨r1, r2, r3, r4, r5⟩, rfl, hb⟩
  clear dz0 dz1 dz2 dz3
  obtain ⟨z0, k0, k1, f0, f1⟩ := KR3.below hb
  replace hB := below_then hB hb
  have FIN := Lib.hid (show h * 18446744073709551616 + l = (ah * 18446744073709551616 + al) * (bh * 18446744073709551616 + bl) % 340282366920938463463374607431768211456 from by
    rw [r5, ← XV.out, ← YV.out]
    exact fin32 x0 x1 x2 x3 y0 y1 y2 y3 m00 m01 m02 m03 m10 m11 m12 m20 m21 m30 z1 c1 z2 c2 z3 c3 z4 c4 z5 c5 z6 c6 z7 c7 z8 c8 z9 c9 z10 c10 E00.out E01.out E02.out E03.out E10.out E11.out E12.out E20.out E21.out E30.out S1.out S2.out S3.out S4.out S5.out S6.out S7.out S8.out S9.out S10.out (by omega) (by omega) (by omega) (by omega) (by omega) (by omega) (by omega) (by omega))
  clear r5 hb KX KY KZ KR3
  go_wp2
  refine bodyPost_ret (v := .agg #[.int .u64 h, .int .u64 l]) (by simp [results, Tryz.results20, go_sem, k0, k1]) rfl ⟨h, l, ⟨r1, r2, r3, r4, FIN.out⟩, rfl, ?_⟩
  go_grown
end Go.Proofs.YtkpignbmocpcaaaGreat.Wd
