/-
  What Print of the reference of layer 1 answers: the walk.
-/
import Derived.Test.YtjgpmbgfcdckhaaWideTr
import Derived.LoopTactic
import Derived.Deep.LoopGhost
namespace Go.Proofs.Ytjgpmbgfcdckhaa
open Go.RowKit
set_option linter.unusedVariables false

theorem strOfNums_cons (x : Int) (xs : List Int) : strOfNums [x] ++ strOfNums xs = strOfNums (x :: xs) := by
  apply ByteArray.ext
  simp [strOfNums]
theorem half_up (n : Int) (j : Nat) : n / 2 ^ j = 2 * (n / 2 ^ (j + 1)) + n / 2 ^ j % 2 := by
  rw [Int.pow_succ, ← Int.ediv_ediv_of_nonneg (Int.le_of_lt (pw2 j))]
  omega

set_option maxRecDepth 100000 in
set_option maxHeartbeats 3000000 in
theorem rPrint (n : Int) (xs : List Int) (hx : Hid (bits128 n = xs)) (bx : Hid (AreBits xs)) (lx : Hid (xs.length = 128)) (vx : Hid (leB xs = n)) (h : Rng n) (w : World) :
    Calls Try.prog 29 #[.agg #[.int .u64 (hi n), .int .u64 (lo n)]] w (PrRet n w) := by
  obtain ⟨i0, hi', hz0, hz1, hz2⟩ := info_parts infoInt
  have HI := Lib.hid hi'
  have HZ0 := Lib.hid hz0
  have HZ1 := Lib.hid hz1
  have HZ2 := Lib.hid hz2
  clear hi' hz0 hz1 hz2
  have RN := Lib.hid h
  go_enter Try.func29, Try.ntmps29
  go_wp2_with fail
  refine (rListN n xs hx.out h _).mono ?_
  rintro e w1 ⟨g, cap, rfl, l1, l2, l3, own, hb⟩
  have st : DigAt (w.alloc (.cells #[.int .u64 (hi n), .int .u64 (lo n)] 27)) g xs (w.alloc (.cells #[.int .u64 (hi n), .int .u64 (lo n)] 27)).heap.size 1 1 [0] w1 :=
    ⟨owns_below (World.ownsRow_lit _ #[.int .i64 0] 1 (Nat.le_refl _) (by decide) rfl) hb, rfl, below_then (below_alloc (Below.refl _ _) _) hb, Kept.row own, by simp at l1 ⊢; omega, Nat.le_refl _⟩
  have hB : Below w.heap.size w (w.alloc (.cells #[.int .u64 (hi n), .int .u64 (lo n)] 27)) := below_alloc (Below.refl _ _) _
  have l4 : xs.length = 128 := lx.out
  have hs : (w.alloc (.cells #[.int .u64 (hi n), .int .u64 (lo n)] 27)).heap.size = w.heap.size + 1 := by simp
  rw [hs] at st
  generalize (w.alloc (.cells #[.int .u64 (hi n), .int .u64 (lo n)] 27)) = W0 at st hB hs ⊢
  have HS := Lib.hid hs
  have HB := Lib.hid hB
  have d0 : dg 1 (n / 2 ^ 128) = [0] := by rw [Int.ediv_eq_zero_of_lt h.1 (by rw [e128]; exact h.2)]; rfl
  have D0 : Dn 1 (n / 2 ^ 128) := by rw [Int.ediv_eq_zero_of_lt h.1 (by rw [e128]; exact h.2)]; exact ⟨by omega, rfl, .inl rfl⟩
  rw [← d0] at st
  have ST := Lib.hid st
  have SD := Lib.hid D0
  clear own hb l1 l3 st hB hs d0 D0
  go_wp2_with fail
  go_loopg [3, 5] 128 (fun q v i wr => ∃ (gd cd K : Nat), q ≤ 128 ∧ i = .int .i64 ((q : Int) - 1) ∧ v = .slice (some ⟨gd, 0, none⟩) K cd ∧ Hid (DigAt W0 g xs gd cd K (dg K (n / 2 ^ q)) wr) ∧ Hid (Dn K (n / 2 ^ q)))
  case atStart => exact ⟨w.heap.size + 1, 1, 1, by omega, rfl, rfl, ST, SD⟩
  case round =>
    clear ST SD
    obtain ⟨gd, cd, K, hq, rfl, rfl, DG, DN⟩ := hrel
    have K39 : K ≤ 39 := DN.out.le39 (rng_div RN.out _)
    have K1 : 1 ≤ K := DN.out.1
    by_cases h0 : gk = 0
    · subst h0
      rw [Int.pow_zero, Int.ediv_one] at DG DN
      obtain ⟨wo, rfl⟩ : ∃ wo, wo = wr := ⟨_, rfl⟩
      go_wp2_with fail
      go_loopg [9, 10] K (fun q s i wr' => ∃ k : Nat, k + q = K ∧ i = .int .i64 k ∧ s = .string (strOfNums (decK k n)) ∧ Hid (Below wo.heap.size wo wr'))
      case atStart => exact ⟨0, by omega, rfl, rfl, Lib.hid (Below.refl _ _)⟩
      case round =>
        obtain ⟨k, hk, rfl, rfl, BW⟩ := hrel
        by_cases hlt : k < K
        · have kl : (k : Int) < (K : Int) := by omega
          have k0 : (0 : Int) ≤ (k : Int) := by omega
          have kc := (DG.out.cell k hlt).1
          rw [← BW.out.cell (p := ⟨gd, k, none⟩) (by have := DG.out.own.lt gd rfl; exact this.2), dg_getD K n k hlt] at kc
          obtain ⟨y, hy⟩ : ∃ y, n / 10 ^ k % 10 = y := ⟨_, rfl⟩
          have y0 : 0 ≤ y := by omega
          have y1 : y < 10 := by omega
          rw [hy] at kc
          have edec : decK (k + 1) n = (48 + y) :: decK k n := by rw [decK, hy]
          obtain ⟨z, hz⟩ : ∃ z, 48 + y = z := ⟨_, rfl⟩
          rw [hz] at edec
          have z0 : 0 ≤ z := by omega
          have z1 : z < 256 := by omega
          have hconv := run_convert_bytes_arg (P := Try.prog) (wr.alloc (.cells #[.int .u8 z] 5)) 25 5 Try.underlying25 Try.underlying5 wr.heap.size 0 1 1 [z] rfl (fun i hi => by obtain rfl : i = 0 := (by omega); simp) 9 Try.underlying9
          have hadd : ∀ w0 : World, (Op.stringOp .add (strOfNums [z]) (strOfNums (decK k n))).run Try.prog w0 = .ok (.string (strOfNums (decK (k + 1) n))) w0 := fun w0 => by
            rw [run_string_add_sum w0 _ _ (by rw [strOfNums_size, strOfNums_size, decK_length]; simp; omega), strOfNums_cons, edec]
          have BW' := Lib.hid (below_alloc BW.out (.cells #[.int .u8 z] 5))
          clear hy edec
          generalize strOfNums (decK k n) = S at hadd ⊢
          obtain ⟨S', hS'⟩ : ∃ S', strOfNums (decK (k + 1) n) = S' := ⟨_, rfl⟩
          rw [hS'] at hadd
          have HS' := Lib.hid hS'
          clear hS'
          generalize strOfNums [z] = Z at hadd hconv
          go_wp2
          go_roundg (gk - 1)
          case rel => exact ⟨k + 1, by omega, by go_num, by rw [HS'.out], BW'⟩
          case measure => omega
        · obtain rfl : k = K := by omega
          go_wp2
          go_ret
          exact ⟨k, K1, K39, DN.out.2.1, DN.out.2.2, rfl, below_then (below_then HB.out DG.out.far) BW.out⟩
    · obtain ⟨j, rfl⟩ : ∃ j, gk = j + 1 := ⟨gk - 1, by omega⟩
      have j1 : (((j + 1 : Nat) : Int) - 1) = (j : Int) := by omega
      rw [j1]
      have j0 : (0 : Int) ≤ (j : Int) := by omega
      have jl : (j : Int) < (xs.length : Int) := by omega
      have cl := DG.out.kept.ints j (by omega)
      rw [Nat.zero_add, getD_leB xs bx.out n vx.out j (by omega)] at cl
      have hb := half_up n j
      obtain ⟨V, hV⟩ : ∃ V, n / 2 ^ (j + 1) = V := ⟨_, rfl⟩
      obtain ⟨B, hB⟩ : ∃ B, n / 2 ^ j = B := ⟨_, rfl⟩
      have V0 : 0 ≤ V := by rw [← hV]; exact Int.ediv_nonneg RN.out.1 (Int.le_of_lt (pw2 _))
      rw [hV] at DG DN hb
      rw [hB] at hb cl
      have HBB := Lib.hid hB
      obtain ⟨b, hbb⟩ : ∃ b, B % 2 = b := ⟨_, rfl⟩
      have b0 : 0 ≤ b := by omega
      have b1 : b ≤ 1 := by omega
      rw [hbb] at hb cl
      have BV := Lib.hid hb
      have HV0 := Lib.hid V0
      have HB0 := Lib.hid b0
      clear hV hB hbb hb
      obtain ⟨go, rfl⟩ : ∃ go, go = j := ⟨_, rfl⟩
      go_wp2_with fail
      go_loopg [6, 7] K (fun q u i wr' => ∃ (k : Nat) (c : Int) (ds : List Int), k + q = K ∧ i = .int .i64 k ∧ u = .int .i64 c ∧ Hid (c = B / 10 ^ k - 2 * (V / 10 ^ k)) ∧ 0 ≤ c ∧ c ≤ 1 ∧ Hid (Mx K k V B ds) ∧ Hid (DigAt W0 g xs gd cd K ds wr'))
      case atStart => exact ⟨0, b, _, by omega, rfl, rfl, Lib.hid (by rw [Int.pow_zero, Int.ediv_one, Int.ediv_one, BV.out]; omega), b0, b1, Lib.hid (Mx.start B), DG⟩
      case round =>
        clear DG cl b0 b1
        obtain ⟨k, c, ds, hk, rfl, rfl, HC, c0, c1, MX, DG⟩ := hrel
        by_cases hlt : k < K
        · have kl : (k : Int) < (K : Int) := by omega
          have k0 : (0 : Int) ≤ (k : Int) := by omega
          obtain ⟨cl, fz⟩ := DG.out.cell k hlt
          have y9 : 0 ≤ ds.getD k 0 ∧ ds.getD k 0 ≤ 9 := by rw [MX.out.2.2 k (Nat.le_refl _) hlt]; omega
          obtain ⟨N, hN⟩ : ∃ N, 2 * ds.getD k 0 + c = N := ⟨_, rfl⟩
          obtain ⟨mx, hc⟩ := MX.out.step hlt HC.out hN
          have MX' := Lib.hid mx
          have HC' := Lib.hid hc
          have DG' := Lib.hid (DG.out.set k (N % 10))
          generalize ds.getD k 0 = y at cl y9 hN
          obtain ⟨y0, y1⟩ := y9
          have N0 : 0 ≤ N := by omega
          have N1 : N ≤ 19 := by omega
          have q0 : 0 ≤ N / 10 := by omega
          have q1 : N / 10 ≤ 1 := by omega
          clear mx hc
          go_wp2
          go_roundg (gk - 1)
          case rel => exact ⟨k + 1, N / 10, _, by omega, by go_num, by first | rfl | (congr 1; omega), HC', q0, q1, MX', DG'⟩
          case measure => omega
        · obtain rfl : k = K := by omega
          have ed := MX.out.done
          have ec := carry_le DN.out.2.1 HC.out
          rw [ed] at DG
          have VB : V ≤ B := by have := BV.out; have := HV0.out; have := HB0.out; omega
          by_cases hc : c = 0
          · subst hc
            have DN' := Lib.hid (DN.out.keep HV0.out VB ec.symm)
            clear ec ed
            go_wp2
            go_roundg go
            case rel => exact ⟨gd, cd, k, by omega, by first | rfl | go_num, rfl, by rw [HBB.out]; exact DG, by rw [HBB.out]; exact DN'⟩
            case measure => omega
          · obtain rfl : c = 1 := by omega
            have DN' := Lib.hid (Dn.more ec.symm)
            have EA := Lib.hid (dg_append k B ec.symm)
            have s2 := DG.out.far.size
            have OWN := Lib.hid (DG.out.own.alloc (.cells #[.int .i64 1] 3))
            clear ec ed
            go_wp2_with (at_builtin; refine wpList_append_lies _ rfl _ _ 61 rfl W0.heap.size 3 i0 (.int .i64 0) 1 8 Try.underlying61 HI.out HZ0.out HZ1.out HZ2.out rfl (by decide) _ _ _ rfl OWN.out ⟨wr.heap.size, 0, none⟩ 1 1 [.int .i64 1] rfl rfl (new1 wr _ _) (by simp [Value.oneCell']) (by omega) (by unfold maxLen; omega) (by omega) (by simp; omega) (wr.heap.size + 1) (by simp) ?_; intro gg cap' w2 hown2 hgrow hat hlt2; have DG' := Lib.hid (DG.out.more hown2 hgrow hat); clear hown2 hgrow hat)
            rw [EA.out] at DG'
            go_wp2
            go_roundg go
            case rel => exact ⟨gg, cap', k + 1, by omega, by first | rfl | go_num, by first | rfl | go_num, by rw [HBB.out]; exact DG', by rw [HBB.out]; exact DN'⟩
            case measure => omega
end Go.Proofs.Ytjgpmbgfcdckhaa
