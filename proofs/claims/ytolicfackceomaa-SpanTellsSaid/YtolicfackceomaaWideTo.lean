/-
  What Mul of the reference of layer 1 answers. Made by wip/gen/widemul.py.
-/
import Derived.Test.YtolicfackceomaaWideTe
import Derived.BigQuiet
namespace Go.Proofs.Ytolicfackceomaa.Wd
open Go.RowKit
set_option linter.unusedVariables false

theorem below_allocs (w : World) (o : Obj) : Below w.heap.size w (w.alloc o) := below_alloc (Below.refl _ _) o
theorem below_allocs2 (w : World) (o o' : Obj) : Below w.heap.size w ((w.alloc o).alloc o') := below_alloc (below_alloc (Below.refl _ _) o) o'
theorem Own.off {W : World} {b : Nat} {u v : Value} (k : Own W b u v) {b' i : Nat} (ne : b ≠ b') (x : Value) : Own (W.setCell ⟨b', i, none⟩ x) b u v := by
  have h : ∀ j, (W.setCell ⟨b', i, none⟩ x).cell? ⟨b, j, none⟩ = W.cell? ⟨b, j, none⟩ := fun j => World.cell?_setCell_other _ _ _ _ (fun q => by injection q with q _; exact ne q.symm)
  obtain ⟨a, c0, c1, f0, f1⟩ := k
  exact ⟨by simpa [World.setCell] using a, (h 0).trans c0, (h 1).trans c1, by rw [World.frozen?_setCell]; exact f0, by rw [World.frozen?_setCell]; exact f1⟩
section
variable {W : World} {b : Nat} {x0 x1 x2 x3 : Value}
theorem Own4.drewN (k : Own4 W b x0 x1 x2 x3) (n : Nat) : Own4 (W.drewN n) b x0 x1 x2 x3 := ⟨k.lt, k.c0, k.c1, k.c2, k.c3, k.fr⟩
theorem Own4.off (k : Own4 W b x0 x1 x2 x3) {b' i : Nat} (ne : b ≠ b') (x : Value) : Own4 (W.setCell ⟨b', i, none⟩ x) b x0 x1 x2 x3 := by
  have h : ∀ j, (W.setCell ⟨b', i, none⟩ x).cell? ⟨b, j, none⟩ = W.cell? ⟨b, j, none⟩ := fun j => World.cell?_setCell_other _ _ _ _ (fun q => by injection q with q _; exact ne q.symm)
  exact ⟨by simpa [World.setCell] using k.lt, (h 0).trans k.c0, (h 1).trans k.c1, (h 2).trans k.c2, (h 3).trans k.c3, fun j => by rw [World.frozen?_setCell]; exact k.fr j⟩
theorem other4 (W : World) (b i j : Nat) (x : Value) (ne : j ≠ i) : (W.setCell ⟨b, i, none⟩ x).cell? ⟨b, j, none⟩ = W.cell? ⟨b, j, none⟩ := World.cell?_setCell_other _ _ _ _ (fun q => by injection q with _ q; exact ne q.symm)
theorem Own4.s0 (k : Own4 W b x0 x1 x2 x3) (x : Value) : Own4 (W.setCell ⟨b, 0, none⟩ x) b x x1 x2 x3 :=
  ⟨by simpa [World.setCell] using k.lt, World.cell?_setCell_same _ _ _ k.c0, (other4 W b 0 1 x (by omega)).trans k.c1, (other4 W b 0 2 x (by omega)).trans k.c2, (other4 W b 0 3 x (by omega)).trans k.c3, fun j => by rw [World.frozen?_setCell]; exact k.fr j⟩
theorem Own4.s1 (k : Own4 W b x0 x1 x2 x3) (x : Value) : Own4 (W.setCell ⟨b, 1, none⟩ x) b x0 x x2 x3 :=
  ⟨by simpa [World.setCell] using k.lt, (other4 W b 1 0 x (by omega)).trans k.c0, World.cell?_setCell_same _ _ _ k.c1, (other4 W b 1 2 x (by omega)).trans k.c2, (other4 W b 1 3 x (by omega)).trans k.c3, fun j => by rw [World.frozen?_setCell]; exact k.fr j⟩
theorem Own4.s2 (k : Own4 W b x0 x1 x2 x3) (x : Value) : Own4 (W.setCell ⟨b, 2, none⟩ x) b x0 x1 x x3 :=
  ⟨by simpa [World.setCell] using k.lt, (other4 W b 2 0 x (by omega)).trans k.c0, (other4 W b 2 1 x (by omega)).trans k.c1, World.cell?_setCell_same _ _ _ k.c2, (other4 W b 2 3 x (by omega)).trans k.c3, fun j => by rw [World.frozen?_setCell]; exact k.fr j⟩
theorem Own4.s3 (k : Own4 W b x0 x1 x2 x3) (x : Value) : Own4 (W.setCell ⟨b, 3, none⟩ x) b x0 x1 x2 x :=
  ⟨by simpa [World.setCell] using k.lt, (other4 W b 3 0 x (by omega)).trans k.c0, (other4 W b 3 1 x (by omega)).trans k.c1, (other4 W b 3 2 x (by omega)).trans k.c2, World.cell?_setCell_same _ _ _ k.c3, fun j => by rw [World.frozen?_setCell]; exact k.fr j⟩
end
theorem prod32 (x y : Int) (h0 : 0 ≤ x) (h1 : x < 4294967296) (k0 : 0 ≤ y) (k1 : y < 4294967296) : ∃ m : Int, x * y = m ∧ 0 ≤ m ∧ m ≤ 18446744065119617025 :=
  ⟨_, rfl, Int.mul_nonneg h0 k0, by
    have a : x * y ≤ 4294967295 * y := Int.mul_le_mul_of_nonneg_right (by omega) k0
    omega⟩
theorem digit32 (n : Int) (h0 : 0 ≤ n) (h1 : n ≤ 18446744073709551615) : ∃ z c : Int, n % 4294967296 = z ∧ n / 4294967296 = c ∧ z + 4294967296 * c = n ∧ 0 ≤ z ∧ z < 4294967296 ∧ 0 ≤ c ∧ c < 4294967296 :=
  ⟨_, _, rfl, rfl, by omega, by omega, by omega, by omega, by omega⟩
theorem fin32 (x0 x1 x2 x3 y0 y1 y2 y3 m00 m01 m02 m03 m10 m11 m12 m20 m21 m30 z1 c1 z2 c2 z3 c3 z4 c4 z5 c5 z6 c6 z7 c7 z8 c8 z9 c9 z10 c10 : Int) (e00 : x0 * y0 = m00) (e01 : x0 * y1 = m01) (e02 : x0 * y2 = m02) (e03 : x0 * y3 = m03) (e10 : x1 * y0 = m10) (e11 : x1 * y1 = m11) (e12 : x1 * y2 = m12) (e20 : x2 * y0 = m20) (e21 : x2 * y1 = m21) (e30 : x3 * y0 = m30)
    (s1 : z1 + 4294967296 * c1 = m00) (s2 : z2 + 4294967296 * c2 = m01 + c1) (s3 : z3 + 4294967296 * c3 = m02 + c2) (s4 : z4 + 4294967296 * c4 = m03 + c3) (s5 : z5 + 4294967296 * c5 = z2 + m10) (s6 : z6 + 4294967296 * c6 = z3 + m11 + c5) (s7 : z7 + 4294967296 * c7 = z4 + m12 + c6) (s8 : z8 + 4294967296 * c8 = z6 + m20) (s9 : z9 + 4294967296 * c9 = z7 + m21 + c8) (s10 : z10 + 4294967296 * c10 = z9 + m30) (a0 : 0 ≤ z1) (b0 : z1 < 4294967296) (a1 : 0 ≤ z5) (b1 : z5 < 4294967296) (a2 : 0 ≤ z8) (b2 : z8 < 4294967296) (a3 : 0 ≤ z10) (b3 : z10 < 4294967296) :
    z1 + 4294967296 * z5 + 18446744073709551616 * z8 + 79228162514264337593543950336 * z10 = (x0 + 4294967296 * x1 + 18446744073709551616 * x2 + 79228162514264337593543950336 * x3) * (y0 + 4294967296 * y1 + 18446744073709551616 * y2 + 79228162514264337593543950336 * y3) % 340282366920938463463374607431768211456 := by
  obtain ⟨T, hT⟩ : ∃ T : Int, (x0 + 4294967296 * x1 + 18446744073709551616 * x2 + 79228162514264337593543950336 * x3) * (y0 + 4294967296 * y1 + 18446744073709551616 * y2 + 79228162514264337593543950336 * y3) =
      m00 + 4294967296 * (m01 + m10) + 18446744073709551616 * (m02 + m11 + m20) + 79228162514264337593543950336 * (m03 + m12 + m21 + m30) + 340282366920938463463374607431768211456 * T :=
    ⟨x1 * y3 + x2 * y2 + x3 * y1 + 4294967296 * (x2 * y3 + x3 * y2) + 18446744073709551616 * (x3 * y3), by
      rw [← e00, ← e01, ← e02, ← e03, ← e10, ← e11, ← e12, ← e20, ← e21, ← e30]
      grind⟩
  rw [hT]
  clear hT e00 e01 e02 e03 e10 e11 e12 e20 e21 e30
  omega

end Go.Proofs.Ytolicfackceomaa.Wd
