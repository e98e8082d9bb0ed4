/-
  What Right, Left, Bit and Len of the reference of layer 1 answer, in the words in which the program's own are said.
-/
import Derived.Test.YtjgpmbgfcdckhaaWideTt
import Derived.Test.YtjgpmbgfcdckhaaWideTj
namespace Go.Proofs.Ytjgpmbgfcdckhaa
open Go.RowKit
set_option linter.unusedVariables false

theorem pow_mono (a b : Nat) (h : a ≤ b) : (2 : Int) ^ a ≤ 2 ^ b := by
  have := Nat.pow_le_pow_right (show 0 < 2 by omega) h
  exact_mod_cast this
theorem e128 : (2 : Int) ^ 128 = 340282366920938463463374607431768211456 := by decide +kernel
theorem getD_leB (xs : List Int) (hb : AreBits xs) (n : Int) (hn : leB xs = n) (k : Nat) (hk : k < xs.length) : xs.getD k 0 = n / 2 ^ k % 2 := by
  have e := (leB_split xs hb k).2
  rw [List.drop_eq_getElem_cons hk] at e
  simp only [leB] at e
  have b := hb _ (List.getElem_mem hk)
  rw [← hn, ← e, List.getD_eq_getElem?_getD, List.getElem?_eq_getElem hk]
  simp only [Option.getD_some]
  omega
theorem take_next (xs : List Int) (k : Nat) (hk : k < xs.length) : leB (xs.take (k + 1)) = leB (xs.take k) + 2 ^ k * xs.getD k 0 := by
  rw [List.take_add_one, List.getElem?_eq_getElem hk, leB_append, List.length_take, Nat.min_eq_left (by omega)]
  simp [leB, List.getElem?_eq_getElem hk]
theorem topB_spec (xs : List Int) (hb : AreBits xs) : ∀ k : Nat, k ≤ xs.length → leB (xs.take k) < 2 ^ (topB xs k).toNat ∧ (topB xs k ≠ 0 → (2 : Int) ^ (topB xs k).toNat ≤ 2 * leB (xs.take k))
  | 0, _ => by simp [topB, leB]
  | k + 1, hk => by
    obtain ⟨h1, h2⟩ := topB_spec xs hb k (by omega)
    have ht := take_next xs k (by omega)
    have b := leB_bd _ (hb.take (k + 1))
    have b0 := leB_bd _ (hb.take k)
    rw [List.length_take, Nat.min_eq_left hk] at b
    have bx := hb (xs.getD k 0) (by
      have h : k < xs.length := by omega
      rw [List.getD_eq_getElem?_getD, List.getElem?_eq_getElem h]; exact List.getElem_mem h)
    unfold topB
    by_cases q : xs.getD k 0 = 1
    · rw [if_pos q, show ((k : Int) + 1).toNat = k + 1 from by omega]
      refine ⟨b.2, fun _ => ?_⟩
      rw [q] at ht
      rw [ht, Int.pow_succ]
      omega
    · rw [if_neg q]
      have z : xs.getD k 0 = 0 := by omega
      rw [z, Int.mul_zero, Int.add_zero] at ht
      rw [ht]
      exact ⟨h1, h2⟩
theorem len_uniq (A : Int) (a b : Nat) (h1 : A < 2 ^ a) (h2 : (2 : Int) ^ b ≤ 2 * A) : b ≤ a := by
  by_cases q : b ≤ a
  · exact q
  · have := pow_mono (a + 1) b (by omega)
    rw [Int.pow_succ] at this
    omega
theorem topB_len (n : Int) (xs : List Int) (hb : AreBits xs) (lx : xs.length = 128) (hn : leB xs = n) (h : Rng n) : topB xs 128 = lenN n := by
  obtain ⟨h1, h2⟩ := topB_spec xs hb 128 (by omega)
  have b := topB_bd xs 128
  rw [List.take_of_length_le (by omega), hn] at h1 h2
  by_cases z : n = 0
  · have t0 : topB xs 128 = 0 := by
      by_cases q : topB xs 128 = 0
      · exact q
      · have := h2 q
        have p := pw2 (topB xs 128).toNat
        omega
    rw [t0, z]
    decide +kernel
  · obtain ⟨l1, l2, l3, l4⟩ := len_spec n h z
    have t0 : topB xs 128 ≠ 0 := by
      intro q
      rw [q] at h1
      have := h.1
      simp at h1
      omega
    have a1 := len_uniq n _ _ h1 l4
    have a2 := len_uniq n _ _ l3 (h2 t0)
    omega
theorem rLenN (n : Int) (h : Rng n) (w : World) :
    Calls Try.prog 22 #[.agg #[.int .u64 (hi n), .int .u64 (lo n)]] w (NI (lenN n) w) :=
  rLenL n (bits128 n) (Lib.hid rfl) (Lib.hid (bits128_length n)) (lenN n) (Lib.hid (fun k hk => by subst hk; exact topB_len n _ (bits128_bits n) (bits128_length n) (bits128_val n h) h)) h w
theorem rBitN (n k : Int) (h : Rng n) (w : World) :
    Calls Try.prog 24 #[.agg #[.int .u64 (hi n), .int .u64 (lo n)], .int .i64 k] w (NI (bitOf n k) w) := by
  by_cases k0 : k < 0
  · have := rBitNeg n k (decide_eq_true k0) w
    rwa [show (0 : Int) = bitOf n k from by unfold bitOf; rw [if_pos k0]] at this
  · obtain ⟨j, rfl⟩ := Int.eq_ofNat_of_zero_le (show 0 ≤ k from by omega)
    by_cases k1 : j ≤ 127
    · have := rBitIn n (bits128 n) (Lib.hid rfl) (Lib.hid (bits128_length n)) j k1 h w
      rw [getD_leB _ (bits128_bits n) n (bits128_val n h) j (by rw [bits128_length]; omega)] at this
      unfold bitOf
      rw [if_neg k0]
      exact this
    · have := rBitFar n (j : Int) (by simp) (by simp; omega) w
      rwa [show (0 : Int) = bitOf n j from by
        unfold bitOf
        rw [if_neg k0, Int.toNat_natCast, Int.ediv_eq_zero_of_lt h.1 (Int.lt_of_lt_of_le h.2 (pow128 j (by omega)))]; rfl] at this
theorem rRightN (n k : Int) (h : Rng n) (w : World) :
    Calls Try.prog 20 #[.agg #[.int .u64 (hi n), .int .u64 (lo n)], .int .i64 k] w (N1 (n / 2 ^ k.toNat) w) := by
  have hx : Hid (bits128 n = bits128 n) := Lib.hid rfl
  have bx := Lib.hid (bits128_bits n)
  have lx := Lib.hid (bits128_length n)
  have z0 : md (leB []) = 0 := rfl
  by_cases k0 : k < 0
  · have := rRightNeg n _ hx bx lx k k0 h w
    rw [bits128_val n h, md_of n h] at this
    rw [show k.toNat = 0 from by omega, Int.pow_zero, Int.ediv_one]
    exact this
  · obtain ⟨j, rfl⟩ := Int.eq_ofNat_of_zero_le (show 0 ≤ k from by omega)
    rw [Int.toNat_natCast]
    by_cases k1 : j ≤ 127
    · have := rRightIn n _ hx bx lx j k1 h w
      rw [(leB_split _ bx.out j).2, bits128_val n h, md_of _ (rng_div h j)] at this
      exact this
    · rw [Int.ediv_eq_zero_of_lt h.1 (Int.lt_of_lt_of_le h.2 (pow128 j (by omega)))]
      by_cases k2 : j = 128
      · subst k2
        exact rRight128 n _ hx bx lx 0 (Lib.hid z0) h w
      · exact rRightFar n _ hx bx lx j (by omega) 0 (Lib.hid z0) h w
theorem left_val (K : Nat) (n : Int) (xs : List Int) (hb : AreBits xs) (hn : leB xs = n) : md (leB ((List.replicate K 0 ++ xs).take 128)) = md (n * 2 ^ K) := by
  have hz : ∀ K : Nat, leB (List.replicate K 0) = 0 := by
    intro K
    induction K with
    | zero => rfl
    | succ K ih => rw [List.replicate_succ, leB, ih]; rfl
  have hb2 : AreBits (List.replicate K 0 ++ xs) := by
    intro x hx
    rcases List.mem_append.1 hx with q | q
    · have := List.eq_of_mem_replicate q; omega
    · exact hb x q
  rw [(leB_split _ hb2 128).1, leB_append, hz, List.length_replicate, hn, e128, Int.zero_add, Int.mul_comm]
  unfold md
  omega
theorem rLeftN (n k : Int) (h : Rng n) (w : World) :
    Calls Try.prog 18 #[.agg #[.int .u64 (hi n), .int .u64 (lo n)], .int .i64 k] w (N1 (md (n * 2 ^ k.toNat)) w) := by
  have hx : Hid (bits128 n = bits128 n) := Lib.hid rfl
  have bx := Lib.hid (bits128_bits n)
  have lx := Lib.hid (bits128_length n)
  have vx := bits128_val n h
  by_cases k1 : k.toNat ≤ 128
  · have := rLeftIn n _ hx bx lx k k.toNat k1 (fun j hj => ⟨by simp; omega, by simp; omega⟩) (.inl (by simp; omega)) h w
    rw [left_val _ n _ bx.out vx] at this
    exact this
  · have := rLeftIn n _ hx bx lx k 128 (by omega) (fun j hj => ⟨by simp; omega, by simp; omega⟩) (.inr ⟨by simp; omega, by decide⟩) h w
    rw [left_val _ n _ bx.out vx] at this
    have e : md (n * 2 ^ 128) = md (n * 2 ^ k.toNat) := by
      obtain ⟨d, hd⟩ := Nat.exists_eq_add_of_le (show 128 ≤ k.toNat from by omega)
      rw [hd, Int.pow_add, e128]
      unfold md
      rw [Int.mul_emod_left, Int.mul_left_comm, Int.mul_emod_right]
    rw [e] at this
    exact this
end Go.Proofs.Ytjgpmbgfcdckhaa
