/-
  What awake of layer 1's statements answers: true. Made by wip/gen/awake.py.
-/
import Derived.Test.YtjgpmbgfcdckhaaWideB
import Derived.Test.YtjgpmbgfcdckhaaWideC
import Derived.Test.YtjgpmbgfcdckhaaWideD
import Derived.Test.YtjgpmbgfcdckhaaWideF
namespace Go.Proofs.Ytjgpmbgfcdckhaa
open Go.RowKit
set_option linter.unusedVariables false

theorem digits_20 (k : Nat) (k1 : 1 ≤ k) (k2 : k ≤ 39) (k3 : ((1 * 18446744073709551616 + 0) / 10 ^ k : Int) = 0) (k4 : k = 1 ∨ ((1 * 18446744073709551616 + 0) / 10 ^ (k - 1) : Int) ≠ 0) : k = 20 := by
  have : ∀ k, k < 40 → 1 ≤ k → ((1 * 18446744073709551616 + 0) / 10 ^ k : Int) = 0 → (k = 1 ∨ ((1 * 18446744073709551616 + 0) / 10 ^ (k - 1) : Int) ≠ 0) → k = 20 := by decide +kernel
  exact this k (by omega) k1 k3 k4
theorem digits_1 (k : Nat) (k1 : 1 ≤ k) (k2 : k ≤ 39) (k3 : ((0 * 18446744073709551616 + 0) / 10 ^ k : Int) = 0) (k4 : k = 1 ∨ ((0 * 18446744073709551616 + 0) / 10 ^ (k - 1) : Int) ≠ 0) : k = 1 := by
  have : ∀ k, k < 40 → 1 ≤ k → ((0 * 18446744073709551616 + 0) / 10 ^ k : Int) = 0 → (k = 1 ∨ ((0 * 18446744073709551616 + 0) / 10 ^ (k - 1) : Int) ≠ 0) → k = 1 := by decide +kernel
  exact this k (by omega) k1 k3 k4

set_option maxRecDepth 100000 in
set_option maxHeartbeats 4000000 in
theorem awake (w : World) :
    Calls Try.prog 4 #[] w (fun e w' => e = .returned (.bool true) ∧ Below w.heap.size w w') := by
  go_enter Try.func4, Try.ntmps4
  go_wp2_with fail
  refine (wOf 1 (by omega) (by omega) _).mono ?_
  rintro e w1 ⟨h, l, ⟨rfl, rfl⟩, rfl, hb1⟩
  have hB1 : Below w.heap.size w w1 := below_then (by go_grown) hb1
  clear hb1
  go_wp2_with fail
  refine (wAdd 0 18446744073709551615 0 1 (by omega) (by omega) (by omega) (by omega) (by omega) (by omega) (by omega) (by omega) _).mono ?_
  rintro e w2 ⟨h, l, c, ⟨⟨i1, i2, i3, i4, i5⟩, hc⟩, rfl, hb2⟩
  obtain rfl : h = 1 := by omega
  obtain rfl : l = 0 := by omega
  obtain rfl : c = false := by rw [hc]; decide +kernel
  clear i1 i2 i3 i4 i5 hc
  have Ha : Has w2 (w1.heap.size) 0 18446744073709551615 := by have := ((Has.fresh _ 0 18446744073709551615 24).alloc _).below hb2; simpa only [World.size_alloc] using this
  have Hb : Has w2 (w1.heap.size + 1) 0 1 := by have := (Has.fresh _ 0 1 24).below hb2; simpa only [World.size_alloc] using this
  have hB2 : Below w.heap.size w w2 := below_then (below_alloc (below_alloc (hB1) _) _) hb2
  clear hB1
  clear hb2
  obtain ⟨za, a0, a1⟩ := id Ha
  obtain ⟨zb, b0, b1⟩ := id Hb
  go_wp2_with fail
  refine (wSub 0 1 1 0 (by omega) (by omega) (by omega) (by omega) (by omega) (by omega) (by omega) (by omega) _).mono ?_
  rintro e w3 ⟨h, l, c, ⟨⟨i1, i2, i3, i4, i5⟩, hc⟩, rfl, hb3⟩
  obtain rfl : h = 18446744073709551615 := by omega
  obtain rfl : l = 1 := by omega
  obtain rfl : c = true := by rw [hc]; decide +kernel
  clear i1 i2 i3 i4 i5 hc
  clear za a0 a1 zb b0 b1
  replace Ha := ((Ha).alloc _).below hb3
  replace Hb := ((Hb).alloc _).below hb3
  have Hs : Has w3 (w2.heap.size) 1 0 := by have := (Has.fresh _ 1 0 24).below hb3; simpa only [World.size_alloc] using this
  have hB3 : Below w.heap.size w w3 := below_then (below_alloc (hB2) _) hb3
  clear hB2
  clear hb3
  obtain ⟨za, a0, a1⟩ := id Ha
  obtain ⟨zb, b0, b1⟩ := id Hb
  obtain ⟨zs, s0, s1⟩ := id Hs
  go_wp2_with fail
  refine (wAdd 18446744073709551615 0 1 0 (by omega) (by omega) (by omega) (by omega) (by omega) (by omega) (by omega) (by omega) _).mono ?_
  rintro e w4 ⟨h, l, c, ⟨⟨i1, i2, i3, i4, i5⟩, hc⟩, rfl, hb4⟩
  obtain rfl : h = 0 := by omega
  obtain rfl : l = 0 := by omega
  obtain rfl : c = true := by rw [hc]; decide +kernel
  clear i1 i2 i3 i4 i5 hc
  clear za a0 a1 zb b0 b1 zs s0 s1
  replace Ha := ((Ha).alloc _).below hb4
  replace Hb := ((Hb).alloc _).below hb4
  replace Hs := ((Hs).alloc _).below hb4
  have Hd : Has w4 (w3.heap.size) 18446744073709551615 1 := by have := (Has.fresh _ 18446744073709551615 1 24).below hb4; simpa only [World.size_alloc] using this
  have hB4 : Below w.heap.size w w4 := below_then (below_alloc (hB3) _) hb4
  clear hB3
  clear hb4
  obtain ⟨za, a0, a1⟩ := id Ha
  obtain ⟨zb, b0, b1⟩ := id Hb
  obtain ⟨zs, s0, s1⟩ := id Hs
  obtain ⟨zd, d0, d1⟩ := id Hd
  clear Hb
  go_wp2_with fail
  refine (wPut 2 3 (by omega) (by omega) (by omega) (by omega) _).mono ?_
  rintro e w5 ⟨bp, rfl, bp1, bp2, hby, hb5⟩
  rw [show bytesK 16 (2 * 18446744073709551616 + 3) = [3, 0, 0, 0, 0, 0, 0, 0, 2, 0, 0, 0, 0, 0, 0, 0] from by decide +kernel] at hby
  clear za a0 a1 zb b0 b1 zs s0 s1 zd d0 d1
  replace Ha := ((Ha).alloc _).below hb5
  replace Hs := ((Hs).alloc _).below hb5
  replace Hd := ((Hd).alloc _).below hb5
  have hB5 : Below w.heap.size w w5 := below_then (below_alloc (hB4) _) hb5
  clear hB4
  clear hb5
  obtain ⟨za, a0, a1⟩ := id Ha
  obtain ⟨zs, s0, s1⟩ := id Hs
  obtain ⟨zd, d0, d1⟩ := id Hd
  go_wp2_with fail
  refine (wTake bp 0 16 (by omega) 3 0 0 0 0 0 0 0 2 0 0 0 0 0 0 0 _ bp2 (by omega) (by omega) (by omega) (by omega) (by omega) (by omega) (by omega) (by omega) (by omega) (by omega) (by omega) (by omega) (by omega) (by omega) (by omega) (by omega) hby).mono ?_
  rintro e w6 ⟨h, l, dd, ⟨⟨i1, i2, i3, i4, i5⟩, rfl⟩, rfl, hb6⟩
  rw [show le256 [3, 0, 0, 0, 0, 0, 0, 0, 2, 0, 0, 0, 0, 0, 0, 0] = 2 * 18446744073709551616 + 3 from by decide +kernel] at i5
  obtain rfl : h = 2 := by omega
  obtain rfl : l = 3 := by omega
  clear i1 i2 i3 i4 i5 hby bp1 bp2
  clear za a0 a1 zs s0 s1 zd d0 d1
  replace Ha := Ha.below hb6
  replace Hs := Hs.below hb6
  replace Hd := Hd.below hb6
  have hB6 : Below w.heap.size w w6 := below_then (hB5) hb6
  clear hB5
  clear hb6
  obtain ⟨za, a0, a1⟩ := id Ha
  obtain ⟨zs, s0, s1⟩ := id Hs
  obtain ⟨zd, d0, d1⟩ := id Hd
  go_wp2_with fail
  refine (wTakeNo _ 1 1 (by omega) _).mono ?_
  rintro e w7 ⟨h, l, dd, ⟨rfl, rfl, rfl⟩, rfl, hb7⟩
  clear za a0 a1 zs s0 s1 zd d0 d1
  replace Ha := (((Ha).alloc _).alloc _).below hb7
  replace Hs := (((Hs).alloc _).alloc _).below hb7
  replace Hd := (((Hd).alloc _).alloc _).below hb7
  have Hn : Has w7 (w6.heap.size) 2 3 := by have := ((Has.fresh _ 2 3 24).alloc _).below hb7; simpa only [World.size_alloc] using this
  have hB7 : Below w.heap.size w w7 := below_then (below_alloc (below_alloc (hB6) _) _) hb7
  clear hB6
  clear hb7
  obtain ⟨za, a0, a1⟩ := id Ha
  obtain ⟨zs, s0, s1⟩ := id Hs
  obtain ⟨zd, d0, d1⟩ := id Hd
  obtain ⟨zn, n0, n1⟩ := id Hn
  go_wp2_with fail
  refine (wFull 9223372036854775808 6 (by omega) (by omega) (by omega) (by omega) _).mono ?_
  rintro e w8 ⟨h, l, ⟨i1, i2, i3, i4, i5⟩, rfl, hb8⟩
  obtain rfl : h = 3 := by omega
  obtain rfl : l = 0 := by omega
  clear i1 i2 i3 i4 i5
  clear za a0 a1 zs s0 s1 zd d0 d1 zn n0 n1
  replace Ha := ((Ha).alloc _).below hb8
  replace Hs := ((Hs).alloc _).below hb8
  replace Hd := ((Hd).alloc _).below hb8
  replace Hn := ((Hn).alloc _).below hb8
  have hB8 : Below w.heap.size w w8 := below_then (below_alloc (hB7) _) hb8
  clear hB7
  clear hb8
  obtain ⟨za, a0, a1⟩ := id Ha
  obtain ⟨zs, s0, s1⟩ := id Hs
  obtain ⟨zd, d0, d1⟩ := id Hd
  obtain ⟨zn, n0, n1⟩ := id Hn
  go_wp2_with fail
  refine (wOf 3 (by omega) (by omega) _).mono ?_
  rintro e w9 ⟨h, l, ⟨rfl, rfl⟩, rfl, hb9⟩
  clear za a0 a1 zs s0 s1 zd d0 d1 zn n0 n1
  replace Ha := Ha.below hb9
  replace Hs := Hs.below hb9
  replace Hd := Hd.below hb9
  replace Hn := Hn.below hb9
  have hB9 : Below w.heap.size w w9 := below_then (hB8) hb9
  clear hB8
  clear hb9
  obtain ⟨za, a0, a1⟩ := id Ha
  obtain ⟨zs, s0, s1⟩ := id Hs
  obtain ⟨zd, d0, d1⟩ := id Hd
  obtain ⟨zn, n0, n1⟩ := id Hn
  go_wp2_with fail
  refine (wMul 5 2 0 3 (by omega) (by omega) (by omega) (by omega) (by omega) (by omega) (by omega) (by omega) _).mono ?_
  rintro e w10 ⟨h, l, ⟨i1, i2, i3, i4, i5⟩, rfl, hb10⟩
  rw [show ((5 * 18446744073709551616 + 2) * (0 * 18446744073709551616 + 3) % 340282366920938463463374607431768211456 : Int) = 15 * 18446744073709551616 + 6 from by decide +kernel] at i5
  obtain rfl : h = 15 := by omega
  obtain rfl : l = 6 := by omega
  clear i1 i2 i3 i4 i5
  clear za a0 a1 zs s0 s1 zd d0 d1 zn n0 n1
  replace Ha := Ha.below hb10
  replace Hs := Hs.below hb10
  replace Hd := Hd.below hb10
  replace Hn := Hn.below hb10
  have hB10 : Below w.heap.size w w10 := below_then (hB9) hb10
  clear hB9
  clear hb10
  obtain ⟨za, a0, a1⟩ := id Ha
  obtain ⟨zs, s0, s1⟩ := id Hs
  obtain ⟨zd, d0, d1⟩ := id Hd
  obtain ⟨zn, n0, n1⟩ := id Hn
  go_wp2_with fail
  refine (wOf 3 (by omega) (by omega) _).mono ?_
  rintro e w11 ⟨h, l, ⟨rfl, rfl⟩, rfl, hb11⟩
  clear za a0 a1 zs s0 s1 zd d0 d1 zn n0 n1
  replace Ha := Ha.below hb11
  replace Hs := Hs.below hb11
  replace Hd := Hd.below hb11
  replace Hn := Hn.below hb11
  have hB11 : Below w.heap.size w w11 := below_then (hB10) hb11
  clear hB10
  clear hb11
  obtain ⟨za, a0, a1⟩ := id Ha
  obtain ⟨zs, s0, s1⟩ := id Hs
  obtain ⟨zd, d0, d1⟩ := id Hd
  obtain ⟨zn, n0, n1⟩ := id Hn
  go_wp2_with fail
  refine (wLeft 0 3 64 (by omega) (by omega) (by omega) (by omega) _).mono ?_
  rintro e w12 ⟨h, l, ⟨i1, i2, i3, i4, i5⟩, rfl, hb12⟩
  rw [show ((0 * 18446744073709551616 + 3) * 2 ^ (64 : Int).toNat % 340282366920938463463374607431768211456 : Int) = 3 * 18446744073709551616 from by decide +kernel] at i5
  obtain rfl : h = 3 := by omega
  obtain rfl : l = 0 := by omega
  clear i1 i2 i3 i4 i5
  clear za a0 a1 zs s0 s1 zd d0 d1 zn n0 n1
  replace Ha := Ha.below hb12
  replace Hs := Hs.below hb12
  replace Hd := Hd.below hb12
  replace Hn := Hn.below hb12
  have hB12 : Below w.heap.size w w12 := below_then (hB11) hb12
  clear hB11
  clear hb12
  obtain ⟨za, a0, a1⟩ := id Ha
  obtain ⟨zs, s0, s1⟩ := id Hs
  obtain ⟨zd, d0, d1⟩ := id Hd
  obtain ⟨zn, n0, n1⟩ := id Hn
  go_wp2_with fail
  refine (wRight 3 0 65 (by omega) (by omega) (by omega) (by omega) _).mono ?_
  rintro e w13 ⟨h, l, ⟨i1, i2, i3, i4, i5⟩, rfl, hb13⟩
  rw [show ((3 * 18446744073709551616 + 0) / 2 ^ (65 : Int).toNat : Int) = 1 from by decide +kernel] at i5
  obtain rfl : h = 0 := by omega
  obtain rfl : l = 1 := by omega
  clear i1 i2 i3 i4 i5
  clear za a0 a1 zs s0 s1 zd d0 d1 zn n0 n1
  replace Ha := Ha.below hb13
  replace Hs := Hs.below hb13
  replace Hd := Hd.below hb13
  replace Hn := Hn.below hb13
  have hB13 : Below w.heap.size w w13 := below_then (hB12) hb13
  clear hB12
  clear hb13
  obtain ⟨za, a0, a1⟩ := id Ha
  obtain ⟨zs, s0, s1⟩ := id Hs
  obtain ⟨zd, d0, d1⟩ := id Hd
  obtain ⟨zn, n0, n1⟩ := id Hn
  go_wp2_with fail
  refine (wOf 1 (by omega) (by omega) _).mono ?_
  rintro e w14 ⟨h, l, ⟨rfl, rfl⟩, rfl, hb14⟩
  clear za a0 a1 zs s0 s1 zd d0 d1 zn n0 n1
  replace Ha := Ha.below hb14
  replace Hs := Hs.below hb14
  replace Hd := Hd.below hb14
  replace Hn := Hn.below hb14
  have hB14 : Below w.heap.size w w14 := below_then (hB13) hb14
  clear hB13
  clear hb14
  obtain ⟨za, a0, a1⟩ := id Ha
  obtain ⟨zs, s0, s1⟩ := id Hs
  obtain ⟨zd, d0, d1⟩ := id Hd
  obtain ⟨zn, n0, n1⟩ := id Hn
  go_wp2_with fail
  refine (wLeft 0 18446744073709551615 128 (by omega) (by omega) (by omega) (by omega) _).mono ?_
  rintro e w15 ⟨h, l, ⟨i1, i2, i3, i4, i5⟩, rfl, hb15⟩
  rw [show ((0 * 18446744073709551616 + 18446744073709551615) * 2 ^ (128 : Int).toNat % 340282366920938463463374607431768211456 : Int) = 0 from by decide +kernel] at i5
  obtain rfl : h = 0 := by omega
  obtain rfl : l = 0 := by omega
  clear i1 i2 i3 i4 i5
  clear za a0 a1 zs s0 s1 zd d0 d1 zn n0 n1
  replace Ha := Ha.below hb15
  replace Hs := Hs.below hb15
  replace Hd := Hd.below hb15
  replace Hn := Hn.below hb15
  have hB15 : Below w.heap.size w w15 := below_then (hB14) hb15
  clear hB14
  clear hb15
  obtain ⟨za, a0, a1⟩ := id Ha
  obtain ⟨zs, s0, s1⟩ := id Hs
  obtain ⟨zd, d0, d1⟩ := id Hd
  obtain ⟨zn, n0, n1⟩ := id Hn
  go_wp2_with fail
  refine (wLen 1 0 (by omega) (by omega) (by omega) (by omega) _).mono ?_
  rintro e w16 ⟨r, hr, rfl, hb16⟩
  obtain rfl : r = 65 := by rw [hr]; decide +kernel
  clear hr
  clear za a0 a1 zs s0 s1 zd d0 d1 zn n0 n1
  replace Ha := Ha.below hb16
  replace Hs := Hs.below hb16
  replace Hd := Hd.below hb16
  replace Hn := Hn.below hb16
  have hB16 : Below w.heap.size w w16 := below_then (hB15) hb16
  clear hB15
  clear hb16
  obtain ⟨za, a0, a1⟩ := id Ha
  obtain ⟨zs, s0, s1⟩ := id Hs
  obtain ⟨zd, d0, d1⟩ := id Hd
  obtain ⟨zn, n0, n1⟩ := id Hn
  go_wp2_with fail
  refine (wBit 1 0 64 (by omega) (by omega) (by omega) (by omega) _).mono ?_
  rintro e w17 ⟨r, hr, rfl, hb17⟩
  obtain rfl : r = 1 := by rw [hr]; decide +kernel
  clear hr
  clear za a0 a1 zs s0 s1 zd d0 d1 zn n0 n1
  replace Ha := Ha.below hb17
  replace Hs := Hs.below hb17
  replace Hd := Hd.below hb17
  replace Hn := Hn.below hb17
  have hB17 : Below w.heap.size w w17 := below_then (hB16) hb17
  clear hB16
  clear hb17
  obtain ⟨za, a0, a1⟩ := id Ha
  obtain ⟨zs, s0, s1⟩ := id Hs
  obtain ⟨zd, d0, d1⟩ := id Hd
  obtain ⟨zn, n0, n1⟩ := id Hn
  go_wp2_with fail
  refine (wBit 1 0 128 (by omega) (by omega) (by omega) (by omega) _).mono ?_
  rintro e w18 ⟨r, hr, rfl, hb18⟩
  obtain rfl : r = 0 := by rw [hr]; decide +kernel
  clear hr
  clear za a0 a1 zs s0 s1 zd d0 d1 zn n0 n1
  replace Ha := Ha.below hb18
  replace Hs := Hs.below hb18
  replace Hd := Hd.below hb18
  replace Hn := Hn.below hb18
  have hB18 : Below w.heap.size w w18 := below_then (hB17) hb18
  clear hB17
  clear hb18
  obtain ⟨za, a0, a1⟩ := id Ha
  obtain ⟨zs, s0, s1⟩ := id Hs
  obtain ⟨zd, d0, d1⟩ := id Hd
  obtain ⟨zn, n0, n1⟩ := id Hn
  go_wp2_with fail
  refine (wPrint 1 0 (by omega) (by omega) (by omega) (by omega) _).mono ?_
  rintro e w19 ⟨k, k1, k2, k3, k4, rfl, hb19⟩
  obtain rfl : k = 20 := digits_20 k k1 k2 k3 k4
  rw [show strOfNums (decK 20 (1 * 18446744073709551616 + 0)) = ⟨#[49, 56, 52, 52, 54, 55, 52, 52, 48, 55, 51, 55, 48, 57, 53, 53, 49, 54, 49, 54]⟩ from by kernel_rfl]
  clear k1 k2 k3 k4
  clear za a0 a1 zs s0 s1 zd d0 d1 zn n0 n1
  replace Ha := Ha.below hb19
  replace Hs := Hs.below hb19
  replace Hd := Hd.below hb19
  replace Hn := Hn.below hb19
  have hB19 : Below w.heap.size w w19 := below_then (hB18) hb19
  clear hB18
  clear hb19
  obtain ⟨za, a0, a1⟩ := id Ha
  obtain ⟨zs, s0, s1⟩ := id Hs
  obtain ⟨zd, d0, d1⟩ := id Hd
  obtain ⟨zn, n0, n1⟩ := id Hn
  go_wp2_with fail
  refine (wPrint 0 0 (by omega) (by omega) (by omega) (by omega) _).mono ?_
  rintro e w20 ⟨k, k1, k2, k3, k4, rfl, hb20⟩
  obtain rfl : k = 1 := digits_1 k k1 k2 k3 k4
  rw [show strOfNums (decK 1 (0 * 18446744073709551616 + 0)) = ⟨#[48]⟩ from by kernel_rfl]
  clear k1 k2 k3 k4
  clear za a0 a1 zs s0 s1 zd d0 d1 zn n0 n1
  replace Ha := Ha.below hb20
  replace Hs := Hs.below hb20
  replace Hd := Hd.below hb20
  replace Hn := Hn.below hb20
  have hB20 : Below w.heap.size w w20 := below_then (hB19) hb20
  clear hB19
  clear hb20
  obtain ⟨za, a0, a1⟩ := id Ha
  obtain ⟨zs, s0, s1⟩ := id Hs
  obtain ⟨zd, d0, d1⟩ := id Hd
  obtain ⟨zn, n0, n1⟩ := id Hn
  go_wp2_with fail
  refine (wCmp 0 18446744073709551615 1 0 (by omega) (by omega) (by omega) (by omega) (by omega) (by omega) (by omega) (by omega) _).mono ?_
  rintro e w21 ⟨r, hr, rfl, hb21⟩
  obtain rfl : r = -1 := by rw [hr]; decide +kernel
  clear hr
  clear za a0 a1 zs s0 s1 zd d0 d1 zn n0 n1
  replace Ha := Ha.below hb21
  replace Hs := Hs.below hb21
  replace Hd := Hd.below hb21
  replace Hn := Hn.below hb21
  have hB21 : Below w.heap.size w w21 := below_then (hB20) hb21
  clear hB20
  clear hb21
  obtain ⟨za, a0, a1⟩ := id Ha
  obtain ⟨zs, s0, s1⟩ := id Hs
  obtain ⟨zd, d0, d1⟩ := id Hd
  obtain ⟨zn, n0, n1⟩ := id Hn
  go_wp2_with fail
  go_ret
  exact ⟨rfl, hB21⟩
end Go.Proofs.Ytjgpmbgfcdckhaa
