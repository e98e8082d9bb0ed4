/-
  The contracts of what WideTells calls, with the answers named ahead; two numbers that are laid at once.
-/
import Derived.Test.YtjgpmbgfcdckhaaWideTs
import Derived.Test.YtjgpmbgfcdckhaaWideTq
import Derived.Test.YtjgpmbgfcdckhaaWideTv
import Derived.Test.YtjgpmbgfcdckhaaWideG
namespace Go.Proofs.Ytjgpmbgfcdckhaa
open Go.RowKit
set_option linter.unusedVariables false

theorem rMulN (n m k : Int) (hn : Rng n) (hm : Rng m) (hk : md (n * m) = k) (w : World) :
    Calls Try.prog 15 #[.agg #[.int .u64 (hi n), .int .u64 (lo n)], .agg #[.int .u64 (hi m), .int .u64 (lo m)]] w (N1 k w) := by
  subst hk
  have h := rMul (hi n) (lo n) (hi m) (lo m) (hi0 hn) (hi1 hn) (lo0 n) (lo1 n) (hi0 hm) (hi1 hm) (lo0 m) (lo1 m) w
  rw [hilo, hilo] at h
  exact h.mono fun _ _ q => n1_of q
theorem rng_lo (n : Int) : Rng (lo n) := ⟨lo0 n, by have := lo1 n; omega⟩
theorem hi_lo (n : Int) : hi (lo n) = 0 := by unfold hi lo; omega
theorem lo_lo (n : Int) : lo (lo n) = lo n := by unfold lo; omega
theorem rMulLo (n m k : Int) (hk : lo n * lo m = k) (w : World) :
    Calls Try.prog 15 #[.agg #[.int .u64 0, .int .u64 (lo n)], .agg #[.int .u64 0, .int .u64 (lo m)]] w (N1 k w) := by
  have h0 := Int.mul_nonneg (lo0 n) (lo0 m)
  have h1 : lo n * lo m ≤ 18446744073709551615 * 18446744073709551615 := by
    have a := lo1 n
    have b := lo1 m
    have x : lo n * lo m ≤ 18446744073709551615 * lo m := Int.mul_le_mul_of_nonneg_right (by omega) (lo0 m)
    omega
  have h := rMulN (lo n) (lo m) k (rng_lo n) (rng_lo m) (by rw [← hk]; exact md_of _ ⟨h0, by omega⟩) w
  rw [hi_lo, lo_lo, hi_lo, lo_lo] at h
  exact h
theorem wOfLo (n : Int) (w : World) : Calls Try.prog 13 #[.int .u64 (lo n)] w (fun e w' => e = .returned (.agg #[.int .u64 0, .int .u64 (lo n)]) ∧ Below w.heap.size w w') := by
  have h := nOf (lo n) (lo0 n) (lo1 n) w
  refine h.mono ?_
  rintro e w' ⟨rfl, hb⟩
  rw [hi_lo, lo_lo]
  exact ⟨rfl, hb⟩
theorem rPrintN (n : Int) (h : Rng n) (w : World) : Calls Try.prog 29 #[.agg #[.int .u64 (hi n), .int .u64 (lo n)]] w (PrRet n w) :=
  rPrint n _ (Lib.hid rfl) (Lib.hid (bits128_bits n)) (Lib.hid (bits128_length n)) (Lib.hid (bits128_val n h)) h w
theorem rPutN (n : Int) (h : Rng n) (w : World) : Calls Try.prog 27 #[.agg #[.int .u64 (hi n), .int .u64 (lo n)]] w (fun e w' => ∃ g cap, e = .returned (.slice (some ⟨g, 0, none⟩) 16 cap) ∧ Bytes w' g 0 (bytesK 16 n) ∧ g < w'.heap.size ∧ 16 ≤ cap ∧ Below w.heap.size w w') :=
  rPut n _ (Lib.hid rfl) (Lib.hid (bits128_bits n)) (Lib.hid (bits128_length n)) (Lib.hid (bits128_val n h)) h w
theorem dn_exists (A : Int) : ∀ K : Nat, 1 ≤ K → A / 10 ^ K = 0 → ∃ K', Dn K' A
  | 0, h, _ => by omega
  | 1, _, h => ⟨1, by omega, h, .inl rfl⟩
  | K + 2, _, h => by
    by_cases q : A / 10 ^ (K + 1) = 0
    · exact dn_exists A (K + 1) (by omega) q
    · exact ⟨K + 2, by omega, h, .inr (by rw [show K + 2 - 1 = K + 1 from by omega]; exact q)⟩
theorem dn_of (A : Int) (h : Rng A) : ∃ K, Dn K A := by
  refine dn_exists A 39 (by omega) (Int.ediv_eq_zero_of_lt h.1 ?_)
  have e : (10 : Int) ^ 39 = 1000000000000000000000000000000000000000 := by decide +kernel
  have := h.2
  omega
theorem pr_fixed {A : Int} {K : Nat} (h : Rng A) (d : Dn K A) {w : World} {e : Ending} {w' : World} (q : PrRet A w e w') : e = .returned (.string (strOfNums (decK K A))) ∧ Below w.heap.size w w' := by
  obtain ⟨k, k1, k2, k3, k4, rfl, hb⟩ := q
  have : k = K := Dn.uniq h.1 ⟨k1, k3, k4⟩ d
  subst this
  exact ⟨rfl, hb⟩
theorem rSame16 (b1 c1 b2 c2 : Nat) (n : Int) (w : World) (h1 : Bytes w b1 0 (bytesK 16 n)) (h2 : Bytes w b2 0 (bytesK 16 n)) :
    Calls Try.prog 25 #[.slice (some ⟨b1, 0, none⟩) 16 c1, .slice (some ⟨b2, 0, none⟩) 16 c2] w (fun e w' => e = .returned (.bool true) ∧ Below w.heap.size w w') := by
  have l : (bytesK 16 n).length = 16 := rfl
  have h := rSame b1 0 c1 b2 0 c2 (bytesK 16 n) (by rw [l]; omega) w h1 h2
  rw [l] at h
  refine h.mono ?_
  rintro e w' ⟨rfl, k, rfl⟩
  exact ⟨rfl, below_drewN k⟩
theorem Bytes.below {W w' : World} {b off : Nat} {xs : List Int} (h : Bytes W b off xs) (hlt : b < W.heap.size) (hb : Below W.heap.size W w') : Bytes w' b off xs :=
  fun i hi => (hb.cell (p := ⟨b, off + i, none⟩) hlt).trans (h i hi)
/-- All that WideTells calls, with the answers named. -/
structure Tl (A B n : Int) (w0 : World) (pv : Value) (S T M Q F L R l b c : Int) (c1 c2 : Bool) (Qd : Int) (str : ByteArray) : Prop where
  rS : Rng S
  add : ∀ w, Calls Try.prog 5 #[.agg #[.int .u64 (hi A), .int .u64 (lo A)], .agg #[.int .u64 (hi B), .int .u64 (lo B)]] w (N2 S c1 w)
  radd : ∀ w, Calls Try.prog 6 #[.agg #[.int .u64 (hi A), .int .u64 (lo A)], .agg #[.int .u64 (hi B), .int .u64 (lo B)]] w (N2 S c1 w)
  sub : ∀ w, Calls Try.prog 7 #[.agg #[.int .u64 (hi A), .int .u64 (lo A)], .agg #[.int .u64 (hi B), .int .u64 (lo B)]] w (N2 T c2 w)
  rsub : ∀ w, Calls Try.prog 8 #[.agg #[.int .u64 (hi A), .int .u64 (lo A)], .agg #[.int .u64 (hi B), .int .u64 (lo B)]] w (N2 T c2 w)
  take : ∀ w, Below w0.heap.size w0 w → Calls Try.prog 9 #[pv] w (N3 Q Qd w)
  rtake : ∀ w, Below w0.heap.size w0 w → Calls Try.prog 10 #[pv] w (N3 Q Qd w)
  cmp : ∀ w, Calls Try.prog 11 #[.agg #[.int .u64 (hi A), .int .u64 (lo A)], .agg #[.int .u64 (hi B), .int .u64 (lo B)]] w (NI c w)
  rcmp : ∀ w, Calls Try.prog 12 #[.agg #[.int .u64 (hi A), .int .u64 (lo A)], .agg #[.int .u64 (hi B), .int .u64 (lo B)]] w (NI c w)
  of_ : ∀ w, Calls Try.prog 13 #[.int .u64 (lo A)] w (fun e w' => e = .returned (.agg #[.int .u64 0, .int .u64 (lo A)]) ∧ Below w.heap.size w w')
  mul : ∀ w, Calls Try.prog 14 #[.agg #[.int .u64 (hi A), .int .u64 (lo A)], .agg #[.int .u64 (hi B), .int .u64 (lo B)]] w (N1 M w)
  rmul : ∀ w, Calls Try.prog 15 #[.agg #[.int .u64 (hi A), .int .u64 (lo A)], .agg #[.int .u64 (hi B), .int .u64 (lo B)]] w (N1 M w)
  full : ∀ w, Calls Try.prog 16 #[.int .u64 (lo A), .int .u64 (lo B)] w (N1 F w)
  rfull : ∀ w, Calls Try.prog 15 #[.agg #[.int .u64 0, .int .u64 (lo A)], .agg #[.int .u64 0, .int .u64 (lo B)]] w (N1 F w)
  left : ∀ w, Calls Try.prog 17 #[.agg #[.int .u64 (hi A), .int .u64 (lo A)], .int .i64 n] w (N1 L w)
  rleft : ∀ w, Calls Try.prog 18 #[.agg #[.int .u64 (hi A), .int .u64 (lo A)], .int .i64 n] w (N1 L w)
  right : ∀ w, Calls Try.prog 19 #[.agg #[.int .u64 (hi A), .int .u64 (lo A)], .int .i64 n] w (N1 R w)
  rright : ∀ w, Calls Try.prog 20 #[.agg #[.int .u64 (hi A), .int .u64 (lo A)], .int .i64 n] w (N1 R w)
  len : ∀ w, Calls Try.prog 21 #[.agg #[.int .u64 (hi A), .int .u64 (lo A)]] w (NI l w)
  rlen : ∀ w, Calls Try.prog 22 #[.agg #[.int .u64 (hi A), .int .u64 (lo A)]] w (NI l w)
  bit : ∀ w, Calls Try.prog 23 #[.agg #[.int .u64 (hi A), .int .u64 (lo A)], .int .i64 n] w (NI b w)
  rbit : ∀ w, Calls Try.prog 24 #[.agg #[.int .u64 (hi A), .int .u64 (lo A)], .int .i64 n] w (NI b w)
  put : ∀ w, Calls Try.prog 26 #[.agg #[.int .u64 (hi A), .int .u64 (lo A)]] w (PutRet A w)
  rput : ∀ w, Calls Try.prog 27 #[.agg #[.int .u64 (hi A), .int .u64 (lo A)]] w (fun e w' => ∃ g cap, e = .returned (.slice (some ⟨g, 0, none⟩) 16 cap) ∧ Bytes w' g 0 (bytesK 16 A) ∧ g < w'.heap.size ∧ 16 ≤ cap ∧ Below w.heap.size w w')
  print : ∀ w, Calls Try.prog 28 #[.agg #[.int .u64 (hi A), .int .u64 (lo A)]] w (fun e w' => e = .returned (.string str) ∧ Below w.heap.size w w')
  rprint : ∀ w, Calls Try.prog 29 #[.agg #[.int .u64 (hi A), .int .u64 (lo A)]] w (fun e w' => e = .returned (.string str) ∧ Below w.heap.size w w')
theorem tl_of (A B n : Int) (ha : Rng A) (hb : Rng B) (w0 : World) (pv : Value) (Q Qd : Int)
    (take : ∀ w, Below w0.heap.size w0 w → Calls Try.prog 9 #[pv] w (N3 Q Qd w))
    (rtake : ∀ w, Below w0.heap.size w0 w → Calls Try.prog 10 #[pv] w (N3 Q Qd w)) :
    ∃ S T M F L R l b c c1 c2 str, Tl A B n w0 pv S T M Q F L R l b c c1 c2 Qd str := by
  obtain ⟨K, d⟩ := dn_of A ha
  exact ⟨_, _, _, _, _, _, _, _, _, _, _, _, rng_md (A + B), fun w => nAdd A B ha hb w, fun w => rAddN A B ha hb w, fun w => nSub A B ha hb w, fun w => rSubN A B ha hb w, take, rtake, fun w => nCmp A B ha hb w, fun w => rCmp A B ha hb w, fun w => wOfLo A w,
    fun w => nMul A B ha hb w, fun w => rMulN A B _ ha hb rfl w, fun w => nFull (lo A) (lo B) (lo0 A) (lo1 A) (lo0 B) (lo1 B) w, fun w => rMulLo A B _ rfl w, fun w => nLeft A n ha w, fun w => rLeftN A n ha w, fun w => nRight A n ha w, fun w => rRightN A n ha w,
    fun w => nLen A ha w, fun w => rLenN A ha w, fun w => nBit A n ha w, fun w => rBitN A n ha w, fun w => nPut A ha w, fun w => rPutN A ha w,
    fun w => (nPrint A ha w).mono fun _ _ q => pr_fixed ha d q, fun w => (rPrintN A ha w).mono fun _ _ q => pr_fixed ha d q⟩
def CutXY (w : World) (Lx : List (Nat × Int)) (A B : Int) (s t : Value) (wx : World) : Prop :=
  ∃ (bx by_ : Nat), s = .pointer (some ⟨bx, 0, none⟩) ∧ t = .pointer (some ⟨by_, 0, none⟩) ∧ Has wx bx (hi A) (lo A) ∧ Has wx by_ (hi B) (lo B) ∧ Keeps Lx wx ∧ Below w.heap.size w wx
theorem cutXY_ab {w W : World} {Lx : List (Nat × Int)} {A B : Int} {t : TypeId} (K : Keeps Lx W) (hB : Below w.heap.size w W) :
    CutXY w Lx A B (.pointer (some ⟨W.heap.size, 0, none⟩)) (.pointer (some ⟨W.heap.size + 1, 0, none⟩)) ((W.alloc (.cells #[.int .u64 (hi A), .int .u64 (lo A)] t)).alloc (.cells #[.int .u64 (hi B), .int .u64 (lo B)] t)).drew := by
  have h2 := Has.fresh (W.alloc (.cells #[.int .u64 (hi A), .int .u64 (lo A)] t)) (hi B) (lo B) t
  rw [World.size_alloc] at h2
  exact ⟨_, _, rfl, rfl, (Has.fresh W (hi A) (lo A) t).alloc _, h2, ((K.alloc _).alloc _).drew, (below_alloc (below_alloc hB _) _).drew⟩
theorem cutXY_ba {w W : World} {Lx : List (Nat × Int)} {A B : Int} {t : TypeId} (K : Keeps Lx W) (hB : Below w.heap.size w W) :
    CutXY w Lx A B (.pointer (some ⟨W.heap.size + 1, 0, none⟩)) (.pointer (some ⟨W.heap.size, 0, none⟩)) ((W.alloc (.cells #[.int .u64 (hi B), .int .u64 (lo B)] t)).alloc (.cells #[.int .u64 (hi A), .int .u64 (lo A)] t)).drew := by
  have h2 := Has.fresh (W.alloc (.cells #[.int .u64 (hi B), .int .u64 (lo B)] t)) (hi A) (lo A) t
  rw [World.size_alloc] at h2
  exact ⟨_, _, rfl, rfl, h2, (Has.fresh W (hi B) (lo B) t).alloc _, ((K.alloc _).alloc _).drew, (below_alloc (below_alloc hB _) _).drew⟩
theorem by_keep {W W' : World} {g : Nat} {xs : List Int} (h : g < W.heap.size ∧ Bytes W g 0 xs) (hb : Below W.heap.size W W') : g < W'.heap.size ∧ Bytes W' g 0 xs :=
  ⟨Nat.lt_of_lt_of_le h.1 hb.size, h.2.below h.1 hb⟩
end Go.Proofs.Ytjgpmbgfcdckhaa
