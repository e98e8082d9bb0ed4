/-
  How the document's answer finds what makes an odd number 1, bit by bit; and the power of a map, from the highest bit on. Plain mathematics.
-/
import Derived.Test.YtfnfjfmkhnofkaaAffN
import Derived.Test.YtfnfjfmkhnofkaaWideTt
import Derived.Test.YtfnfjfmkhnofkaaWideTj
import Derived.Test.YtfnfjfmkhnofkaaAffPowW
import Derived.Test.YtfnfjfmkhnofkaaWideTs
namespace Go.Proofs.Ytfnfjfmkhnofkaa
set_option linter.unusedVariables false

theorem at_diff (m : Mp) (h : m.Ok) : (atM m 1 + (Q - atM m 0)) % Q = m.A := by
  have h0 : atM m 0 = m.C := by
    show (m.A * 0 + m.C) % Q = m.C
    rw [Nat.mul_zero, Nat.zero_add, Nat.mod_eq_of_lt h.c]
  have h1 : atM m 1 = (m.A + m.C) % Q := by
    show (m.A * 1 + m.C) % Q = _
    rw [Nat.mul_one]
  rw [h0, h1, Nat.mod_add_mod]
  have := h.a
  have := h.c
  rw [show m.A + m.C + (Q - m.C) = m.A + Q by omega, Nat.add_mod_right, Nat.mod_eq_of_lt h.a]
/-- What makes n 1, its first bits alone. -/
def od1 (n : Nat) : Nat → Nat
  | 0 => 0
  | i + 1 => if n * od1 n i % Q / 2 ^ i % 2 = (if i = 0 then 1 else 0) then od1 n i else od1 n i + 2 ^ i
theorem bit_low {x i : Nat} (h : i < 128) : x % Q / 2 ^ i % 2 = x / 2 ^ i % 2 := by
  have e : Q = 2 ^ i * 2 ^ (128 - i) := by rw [← Nat.pow_add, show i + (128 - i) = 128 by omega]
  rw [e, Nat.mod_mul_right_div_self, show 128 - i = (127 - i) + 1 by omega, Nat.pow_succ, Nat.mod_mul_left_mod]
theorem od1_ok {n : Nat} (h : n % 2 = 1) : ∀ i, i ≤ 128 → od1 n i < 2 ^ i ∧ n * od1 n i % 2 ^ i = 1 % 2 ^ i
  | 0, _ => ⟨(by rw [Nat.pow_zero]; exact Nat.one_pos : od1 n 0 < 2 ^ 0), by rw [Nat.pow_zero, Nat.mod_one, Nat.mod_one]⟩
  | i + 1, hi => by
    obtain ⟨l, e⟩ := od1_ok h i (by omega)
    rw [od1, bit_low (by omega)]
    have p : 2 ^ (i + 1) = 2 * 2 ^ i := by rw [Nat.pow_succ, Nat.mul_comm]
    by_cases i0 : i = 0
    · subst i0
      rw [show od1 n 0 = 0 from rfl, if_pos rfl, if_neg (by rw [Nat.mul_zero]; decide)]
      refine ⟨by decide, ?_⟩
      show n * 1 % 2 = 1 % 2
      omega
    · rw [if_neg i0]
      generalize od1 n i = x at l e ⊢
      have one : 1 < 2 ^ i := by
        obtain ⟨j, rfl⟩ : ∃ j, i = j + 1 := ⟨i - 1, by omega⟩
        rw [Nat.pow_succ]
        have := Nat.two_pow_pos j
        omega
      rw [Nat.mod_eq_of_lt one] at e
      rw [p]
      generalize 2 ^ i = u at l e one ⊢
      have d := Nat.div_add_mod (n * x) u
      rw [e] at d
      have u2 : 1 % (2 * u) = 1 := Nat.mod_eq_of_lt (by omega)
      rw [u2]
      have b := Nat.mod_mul (x := n * x) (a := u) (b := 2)
      rw [Nat.mul_comm 2 u]
      split
      · rename_i z
        refine ⟨by omega, ?_⟩
        rw [b, e, z, Nat.mul_zero]
      · rename_i z
        refine ⟨by omega, ?_⟩
        have z1 : n * x / u % 2 = 1 := by omega
        have c : (n * x + n * u) / u = n * x / u + n := by rw [Nat.add_mul_div_right _ _ (by omega)]
        rw [Nat.mul_add, Nat.mod_mul, Nat.add_mul_mod_self_right, e, c, show (n * x / u + n) % 2 = 0 by omega, Nat.mul_zero]
theorem od1_inv {n : Nat} (h : n % 2 = 1) : od1 n 128 = invQ n := by
  obtain ⟨l, e⟩ := od1_ok h 128 (Nat.le_refl _)
  exact invQ_is h (by rw [show Q = 2 ^ 128 from rfl]; exact l) (by rw [show Q = 2 ^ 128 from rfl, e])
/-- The power of a map, from the highest bit on. -/
theorem pow_down {m : Mp} (h : m.Ok) (n i : Nat) : powM m (n / 2 ^ i) = if n / 2 ^ i % 2 = 1 then thenM (thenM (powM m (n / 2 ^ (i + 1))) (powM m (n / 2 ^ (i + 1)))) m else thenM (powM m (n / 2 ^ (i + 1))) (powM m (n / 2 ^ (i + 1))) := by
  have e : n / 2 ^ (i + 1) = n / 2 ^ i / 2 := by rw [Nat.pow_succ, Nat.div_div_eq_div_mul]
  rw [e, pow_two]
  generalize n / 2 ^ i = k
  split
  · rename_i z
    rw [pow_succ h, show 2 * (k / 2) + 1 = k by omega]
  · rw [show 2 * (k / 2) = k by omega]
end Go.Proofs.Ytfnfjfmkhnofkaa
/-
  What Right, Left, Bit and Len of the reference of layer 1 answer, in the words in which the program's own are said.
-/
namespace Go.Proofs.Ytfnfjfmkhnofkaa.Wd
open Go.RowKit
set_option linter.unusedVariables false

theorem pow_mono (a b : Nat) (h : a ≤ b) : (2 : Int) ^ a ≤ 2 ^ b := by
  have := Nat.pow_le_pow_right (show 0 < 2 by omega) h
  exact_mod_cast this
theorem e128 : (2 : Int) ^ 128 = 340282366920938463463374607431768211456 := by decide +kernel
theorem getD_leB (xs : List Int) (hb : AreBits xs) (n : Int) (hn : leB xs = n) (k : Nat) (hk : k < xs.length) : xs.getD k 0 = n / 2 ^ k % 2 := by
  have e := (leB_split xs hb k).2
  rw [List.drop_eq_getElem_cons hk] at e
  simp only [leB] at e
  have b := hb _ (List.getElem_mem hk)
  rw [← hn, ← e, List.getD_eq_getElem?_getD, List.getElem?_eq_getElem hk]
  simp only [Option.getD_some]
  omega
theorem take_next (xs : List Int) (k : Nat) (hk : k < xs.length) : leB (xs.take (k + 1)) = leB (xs.take k) + 2 ^ k * xs.getD k 0 := by
  rw [List.take_add_one, List.getElem?_eq_getElem hk, leB_append, List.length_take, Nat.min_eq_left (by omega)]
  simp [leB, List.getElem?_eq_getElem hk]
theorem topB_spec (xs : List Int) (hb : AreBits xs) : ∀ k : Nat, k ≤ xs.length → leB (xs.take k) < 2 ^ (topB xs k).toNat ∧ (topB xs k ≠ 0 → (2 : Int) ^ (topB xs k).toNat ≤ 2 * leB (xs.take k))
  | 0, _ => by simp [topB, leB]
  | k + 1, hk => by
    obtain ⟨h1, h2⟩ := topB_spec xs hb k (by omega)
    have ht := take_next xs k (by omega)
    have b := leB_bd _ (hb.take (k + 1))
    have b0 := leB_bd _ (hb.take k)
    rw [List.length_take, Nat.min_eq_left hk] at b
    have bx := hb (xs.getD k 0) (by
      have h : k < xs.length := by omega
      rw [List.getD_eq_getElem?_getD, List.getElem?_eq_getElem h]; exact List.getElem_mem h)
    unfold topB
    by_cases q : xs.getD k 0 = 1
    · rw [if_pos q, show ((k : Int) + 1).toNat = k + 1 from by omega]
      refine ⟨b.2, fun _ => ?_⟩
      rw [q] at ht
      rw [ht, Int.pow_succ]
      omega
    · rw [if_neg q]
      have z : xs.getD k 0 = 0 := by omega
      rw [z, Int.mul_zero, Int.add_zero] at ht
      rw [ht]
      exact ⟨h1, h2⟩
theorem len_uniq (A : Int) (a b : Nat) (h1 : A < 2 ^ a) (h2 : (2 : Int) ^ b ≤ 2 * A) : b ≤ a := by
  by_cases q : b ≤ a
  · exact q
  · have := pow_mono (a + 1) b (by omega)
    rw [Int.pow_succ] at this
    omega
theorem topB_len (n : Int) (xs : List Int) (hb : AreBits xs) (lx : xs.length = 128) (hn : leB xs = n) (h : Rng n) : topB xs 128 = lenN n := by
  obtain ⟨h1, h2⟩ := topB_spec xs hb 128 (by omega)
  have b := topB_bd xs 128
  rw [List.take_of_length_le (by omega), hn] at h1 h2
  by_cases z : n = 0
  · have t0 : topB xs 128 = 0 := by
      by_cases q : topB xs 128 = 0
      · exact q
      · have := h2 q
        have p := pw2 (topB xs 128).toNat
        omega
    rw [t0, z]
    decide +kernel
  · obtain ⟨l1, l2, l3, l4⟩ := len_spec n h z
    have t0 : topB xs 128 ≠ 0 := by
      intro q
      rw [q] at h1
      have := h.1
      simp at h1
      omega
    have a1 := len_uniq n _ _ h1 l4
    have a2 := len_uniq n _ _ l3 (h2 t0)
    omega
theorem rLenN (n : Int) (h : Rng n) (w : World) :
    Calls Try.prog 32 #[.agg #[.int .u64 (hi n), .int .u64 (lo n)]] w (NI (lenN n) w) :=
  rLenL n (bits128 n) (Lib.hid rfl) (Lib.hid (bits128_length n)) (lenN n) (Lib.hid (fun k hk => by subst hk; exact topB_len n _ (bits128_bits n) (bits128_length n) (bits128_val n h) h)) h w
theorem rBitN (n k : Int) (h : Rng n) (w : World) :
    Calls Try.prog 25 #[.agg #[.int .u64 (hi n), .int .u64 (lo n)], .int .i64 k] w (NI (bitOf n k) w) := by
  by_cases k0 : k < 0
  · have := rBitNeg n k (decide_eq_true k0) w
    rwa [show (0 : Int) = bitOf n k from by unfold bitOf; rw [if_pos k0]] at this
  · obtain ⟨j, rfl⟩ := Int.eq_ofNat_of_zero_le (show 0 ≤ k from by omega)
    by_cases k1 : j ≤ 127
    · have := rBitIn n (bits128 n) (Lib.hid rfl) (Lib.hid (bits128_length n)) j k1 h w
      rw [getD_leB _ (bits128_bits n) n (bits128_val n h) j (by rw [bits128_length]; omega)] at this
      unfold bitOf
      rw [if_neg k0]
      exact this
    · have := rBitFar n (j : Int) (by simp) (by simp; omega) w
      rwa [show (0 : Int) = bitOf n j from by
        unfold bitOf
        rw [if_neg k0, Int.toNat_natCast, Int.ediv_eq_zero_of_lt h.1 (Int.lt_of_lt_of_le h.2 (pow128 j (by omega)))]; rfl] at this
theorem left_val (K : Nat) (n : Int) (xs : List Int) (hb : AreBits xs) (hn : leB xs = n) : md (leB ((List.replicate K 0 ++ xs).take 128)) = md (n * 2 ^ K) := by
  have hz : ∀ K : Nat, leB (List.replicate K 0) = 0 := by
    intro K
    induction K with
    | zero => rfl
    | succ K ih => rw [List.replicate_succ, leB, ih]; rfl
  have hb2 : AreBits (List.replicate K 0 ++ xs) := by
    intro x hx
    rcases List.mem_append.1 hx with q | q
    · have := List.eq_of_mem_replicate q; omega
    · exact hb x q
  rw [(leB_split _ hb2 128).1, leB_append, hz, List.length_replicate, hn, e128, Int.zero_add, Int.mul_comm]
  unfold md
  omega
theorem rLeftN (n k : Int) (h : Rng n) (w : World) :
    Calls Try.prog 28 #[.agg #[.int .u64 (hi n), .int .u64 (lo n)], .int .i64 k] w (N1 (md (n * 2 ^ k.toNat)) w) := by
  have hx : Hid (bits128 n = bits128 n) := Lib.hid rfl
  have bx := Lib.hid (bits128_bits n)
  have lx := Lib.hid (bits128_length n)
  have vx := bits128_val n h
  by_cases k1 : k.toNat ≤ 128
  · have := rLeftIn n _ hx bx lx k k.toNat k1 (fun j hj => ⟨by simp; omega, by simp; omega⟩) (.inl (by simp; omega)) h w
    rw [left_val _ n _ bx.out vx] at this
    exact this
  · have := rLeftIn n _ hx bx lx k 128 (by omega) (fun j hj => ⟨by simp; omega, by simp; omega⟩) (.inr ⟨by simp; omega, by decide⟩) h w
    rw [left_val _ n _ bx.out vx] at this
    have e : md (n * 2 ^ 128) = md (n * 2 ^ k.toNat) := by
      obtain ⟨d, hd⟩ := Nat.exists_eq_add_of_le (show 128 ≤ k.toNat from by omega)
      rw [hd, Int.pow_add, e128]
      unfold md
      rw [Int.mul_emod_left, Int.mul_left_comm, Int.mul_emod_right]
    rw [e] at this
    exact this
end Go.Proofs.Ytfnfjfmkhnofkaa.Wd
/-
  What the reference of layer 9 answers: numbers of layer 1's reference in the words of this layer; Own, At, Then.
-/
namespace Go.Proofs.Ytfnfjfmkhnofkaa
open Go.RowKit G
set_option linter.unusedVariables false
set_option maxRecDepth 100000

/-- A block of four words in memory: a map of the reference. -/
def R4 (w : World) (b : Nat) (p q r s : Int) : Prop := w.heap[b]? = some (.cells #[.int .u64 p, .int .u64 q, .int .u64 r, .int .u64 s] 37 (0, 0))
section
variable {w w' : World} {b x : Nat} {p q r s p' q' r' s' : Int}
theorem R4.lt (h : R4 w b p q r s) : b < w.heap.size := (Array.getElem?_eq_some_iff.1 h).1
theorem R4.below (h : R4 w b p q r s) (hb : Below w.heap.size w w') : R4 w' b p q r s := (hb.block b h.lt).trans h
theorem R4.new (w : World) (p q r s : Int) : R4 (w.alloc (.cells #[.int .u64 p, .int .u64 q, .int .u64 r, .int .u64 s] 37)) w.heap.size p q r s := show (w.heap.push _)[w.heap.size]? = some _ by simp
theorem R4.f4 (h : R4 w b p q r s) : F4 w b p q r s := f4_of_block h
theorem R4.cells (h : R4 w b p q r s) : w.cell? ⟨b, 0, none⟩ = some (.int .u64 p) ∧ w.cell? ⟨b, 1, none⟩ = some (.int .u64 q) ∧ w.cell? ⟨b, 2, none⟩ = some (.int .u64 r) ∧ w.cell? ⟨b, 3, none⟩ = some (.int .u64 s) := ⟨h.f4.c0, h.f4.c1, h.f4.c2, h.f4.c3⟩
theorem R4.free (h : R4 w b p q r s) : w.frozen? ⟨b, 0, none⟩ = false ∧ w.frozen? ⟨b, 1, none⟩ = false ∧ w.frozen? ⟨b, 2, none⟩ = false ∧ w.frozen? ⟨b, 3, none⟩ = false := by
  unfold R4 at h
  refine ⟨?_, ?_, ?_, ?_⟩ <;> simp [World.frozen?, h]
theorem R4.far (h : R4 w b p q r s) {a : Addr} (hne : b ≠ a.block) (u : Value) : R4 (w.setCell a u) b p q r s := (Below.heap_setCell w a u b hne).trans h
theorem R4.far4 (h : R4 w b p q r s) (hne : b ≠ x) : R4 ((((w.setCell ⟨x, 0, none⟩ (.int .u64 p')).setCell ⟨x, 1, none⟩ (.int .u64 q')).setCell ⟨x, 2, none⟩ (.int .u64 r')).setCell ⟨x, 3, none⟩ (.int .u64 s')) b p q r s := (((h.far hne _).far hne _).far hne _).far hne _
theorem R4.at (h : R4 w b p q r s) (i : Nat) (v : Value) : (w.setCell ⟨b, i, none⟩ v).heap[b]? = some (.cells ((#[.int .u64 p, .int .u64 q, .int .u64 r, .int .u64 s] : Array Value).setIfInBounds i v) 37 (0, 0)) := by
  unfold R4 at h
  simp [World.setCell, Array.getElem?_modify, h]
theorem R4.set0 (h : R4 w b p q r s) (x : Int) : R4 (w.setCell ⟨b, 0, none⟩ (.int .u64 x)) b x q r s := (h.at 0 _).trans rfl
theorem R4.set1 (h : R4 w b p q r s) (x : Int) : R4 (w.setCell ⟨b, 1, none⟩ (.int .u64 x)) b p x r s := (h.at 1 _).trans rfl
theorem R4.set2 (h : R4 w b p q r s) (x : Int) : R4 (w.setCell ⟨b, 2, none⟩ (.int .u64 x)) b p q x s := (h.at 2 _).trans rfl
theorem R4.set3 (h : R4 w b p q r s) (x : Int) : R4 (w.setCell ⟨b, 3, none⟩ (.int .u64 x)) b p q r x := (h.at 3 _).trans rfl
theorem R4.put (h : R4 w x p q r s) : R4 ((((w.setCell ⟨x, 0, none⟩ (.int .u64 p')).setCell ⟨x, 1, none⟩ (.int .u64 q')).setCell ⟨x, 2, none⟩ (.int .u64 r')).setCell ⟨x, 3, none⟩ (.int .u64 s')) x p' q' r' s' := (((h.set0 p').set1 q').set2 r').set3 s'
theorem below_putR4 {B : Nat} {a : World} (h : Below B a w) (hb : B ≤ x) : Below B a ((((w.setCell ⟨x, 0, none⟩ (.int .u64 p')).setCell ⟨x, 1, none⟩ (.int .u64 q')).setCell ⟨x, 2, none⟩ (.int .u64 r')).setCell ⟨x, 3, none⟩ (.int .u64 s')) := (((h.setCell hb _).setCell hb _).setCell hb _).setCell hb _
end
/-- A block of two words in memory: a number of the reference. -/
def R2 (w : World) (b : Nat) (p q : Int) : Prop := w.heap[b]? = some (.cells #[.int .u64 p, .int .u64 q] 31 (0, 0))
section
variable {w w' : World} {b x : Nat} {p q p' q' : Int}
theorem R2.lt (h : R2 w b p q) : b < w.heap.size := (Array.getElem?_eq_some_iff.1 h).1
theorem R2.below (h : R2 w b p q) (hb : Below w.heap.size w w') : R2 w' b p q := (hb.block b h.lt).trans h
theorem R2.new (w : World) (p q : Int) : R2 (w.alloc (.cells #[.int .u64 p, .int .u64 q] 31)) w.heap.size p q := show (w.heap.push _)[w.heap.size]? = some _ by simp
theorem R2.cells (h : R2 w b p q) : w.cell? ⟨b, 0, none⟩ = some (.int .u64 p) ∧ w.cell? ⟨b, 1, none⟩ = some (.int .u64 q) := by
  unfold R2 at h
  refine ⟨?_, ?_⟩ <;> simp [World.cell?, h]
theorem R2.free (h : R2 w b p q) : w.frozen? ⟨b, 0, none⟩ = false ∧ w.frozen? ⟨b, 1, none⟩ = false := by
  unfold R2 at h
  refine ⟨?_, ?_⟩ <;> simp [World.frozen?, h]
theorem R2.far (h : R2 w b p q) {a : Addr} (hne : b ≠ a.block) (u : Value) : R2 (w.setCell a u) b p q := (Below.heap_setCell w a u b hne).trans h
theorem R2.far2 (h : R2 w b p q) (hne : b ≠ x) (u v : Value) : R2 ((w.setCell ⟨x, 0, none⟩ u).setCell ⟨x, 1, none⟩ v) b p q := (h.far hne _).far hne _
theorem R2.at (h : R2 w b p q) (i : Nat) (v : Value) : (w.setCell ⟨b, i, none⟩ v).heap[b]? = some (.cells ((#[.int .u64 p, .int .u64 q] : Array Value).setIfInBounds i v) 31 (0, 0)) := by
  unfold R2 at h
  simp [World.setCell, Array.getElem?_modify, h]
theorem R2.set0 (h : R2 w b p q) (x : Int) : R2 (w.setCell ⟨b, 0, none⟩ (.int .u64 x)) b x q := (h.at 0 _).trans rfl
theorem R2.set1 (h : R2 w b p q) (x : Int) : R2 (w.setCell ⟨b, 1, none⟩ (.int .u64 x)) b p x := (h.at 1 _).trans rfl
theorem R2.put (h : R2 w x p q) : R2 ((w.setCell ⟨x, 0, none⟩ (.int .u64 p')).setCell ⟨x, 1, none⟩ (.int .u64 q')) x p' q' := (h.set0 p').set1 q'
theorem below_putR2 {B : Nat} {a : World} (h : Below B a w) (hb : B ≤ x) (u v : Value) : Below B a ((w.setCell ⟨x, 0, none⟩ u).setCell ⟨x, 1, none⟩ v) := (h.setCell hb _).setCell hb _
end
theorem r2_early {w v : World} (hb : Below (w.alloc (.cells #[.int .u64 0, .int .u64 0] 31)).heap.size (w.alloc (.cells #[.int .u64 0, .int .u64 0] 31)) v) : R2 v w.heap.size 0 0 := R2.below (R2.new w 0 0) hb
/-- Behind a region that lays one number. -/
def CutN (W0 : World) (h l : Int) (p : Value) (wr : World) : Prop := ∃ b, p = .pointer (some ⟨b, 0, none⟩) ∧ R2 wr b h l ∧ Below W0.heap.size W0 wr
theorem CutN.of {W0 x : World} {h l : Int} (hb : Below W0.heap.size W0 x) : CutN W0 h l (.pointer (some ⟨x.heap.size, 0, none⟩)) (x.alloc (.cells #[.int .u64 h, .int .u64 l] 31)) := ⟨_, rfl, R2.new x h l, below_alloc hb _⟩
theorem CutN.early {W0 x : World} {b : Nat} {h l : Int} (hb : Below W0.heap.size W0 x) (le : W0.heap.size ≤ b) (z : R2 x b 0 0) : CutN W0 h l (.pointer (some ⟨b, 0, none⟩)) ((x.setCell ⟨b, 0, none⟩ (.int .u64 h)).setCell ⟨b, 1, none⟩ (.int .u64 l)) := ⟨_, rfl, R2.put z, below_putR2 hb le _ _⟩
theorem hi_nat (n : Nat) : Wd.hi (n : Int) = ((hiW n : Nat) : Int) := by unfold Wd.hi hiW; omega
theorem lo_nat (n : Nat) : Wd.lo (n : Int) = ((loW n : Nat) : Int) := by unfold Wd.lo loW; omega
theorem rng_nat {n : Nat} (h : n < Q) : Wd.Rng (n : Int) := ⟨by omega, by have : n < 340282366920938463463374607431768211456 := h; omega⟩
theorem md_nat (n : Nat) : Wd.md (n : Int) = ((n % Q : Nat) : Int) := by unfold Wd.md; rw [Int.natCast_emod]; rfl
/-- A call that tells a number, or a number and a bool. -/
abbrev TNB (f : FuncId) (args : Array Value) (h l : Int) (c : Bool) : Prop := ∀ W : World, Calls Try.prog f args W (fun e w' => e = .returned (.tuple #[.agg #[.int .u64 h, .int .u64 l], .bool c]) ∧ Below W.heap.size W w')
theorem yMul {M N : Nat} (i : M < Q) (j : N < Q) : TN 26 #[.agg #[.int .u64 ((hiW M : Nat) : Int), .int .u64 ((loW M : Nat) : Int)], .agg #[.int .u64 ((hiW N : Nat) : Int), .int .u64 ((loW N : Nat) : Int)]] ((hiW (M * N % Q) : Nat) : Int) ((loW (M * N % Q) : Nat) : Int) := fun W => by
  have hn := rng_nat i
  have hm := rng_nat j
  have h := Wd.rMul (Wd.hi M) (Wd.lo M) (Wd.hi N) (Wd.lo N) (Wd.hi0 hn) (Wd.hi1 hn) (Wd.lo0 M) (Wd.lo1 M) (Wd.hi0 hm) (Wd.hi1 hm) (Wd.lo0 N) (Wd.lo1 N) W
  rw [Wd.hilo, Wd.hilo] at h
  have q := h.mono fun _ _ q => Wd.n1_of q
  rw [show (M : Int) * (N : Int) % 340282366920938463463374607431768211456 = ((M * N % Q : Nat) : Int) by rw [Int.natCast_emod, Int.natCast_mul]; rfl] at q
  unfold Wd.N1 at q
  simp only [hi_nat, lo_nat] at q
  exact q
theorem yAdd {M N : Nat} (i : M < Q) (j : N < Q) : TNB 27 #[.agg #[.int .u64 ((hiW M : Nat) : Int), .int .u64 ((loW M : Nat) : Int)], .agg #[.int .u64 ((hiW N : Nat) : Int), .int .u64 ((loW N : Nat) : Int)]] ((hiW ((M + N) % Q) : Nat) : Int) ((loW ((M + N) % Q) : Nat) : Int) (decide ((340282366920938463463374607431768211456 : Int) ≤ (M : Int) + (N : Int))) := fun W => by
  have q := Wd.rAddN M N (rng_nat i) (rng_nat j) W
  rw [show Wd.md ((M : Int) + (N : Int)) = (((M + N) % Q : Nat) : Int) by rw [← Int.natCast_add]; exact md_nat _] at q
  unfold Wd.N2 at q
  simp only [hi_nat, lo_nat] at q
  exact q
theorem ySub {M N : Nat} (i : M < Q) (j : N < Q) : TNB 29 #[.agg #[.int .u64 ((hiW M : Nat) : Int), .int .u64 ((loW M : Nat) : Int)], .agg #[.int .u64 ((hiW N : Nat) : Int), .int .u64 ((loW N : Nat) : Int)]] ((hiW ((M + (Q - N)) % Q) : Nat) : Int) ((loW ((M + (Q - N)) % Q) : Nat) : Int) (decide ((M : Int) < (N : Int))) := fun W => by
  have q := Wd.rSubN M N (rng_nat i) (rng_nat j) W
  rw [show Wd.md ((M : Int) - (N : Int)) = (((M + (Q - N)) % Q : Nat) : Int) by
    unfold Wd.md
    have : N < 340282366920938463463374607431768211456 := j
    show _ = (((M + (340282366920938463463374607431768211456 - N)) % 340282366920938463463374607431768211456 : Nat) : Int)
    omega] at q
  unfold Wd.N2 at q
  simp only [hi_nat, lo_nat] at q
  exact q
end Go.Proofs.Ytfnfjfmkhnofkaa
/-
  What the reference of layer 9 answers: Own, At, Then.
-/
namespace Go.Proofs.Ytfnfjfmkhnofkaa
open Go.RowKit G
set_option linter.unusedVariables false
set_option maxRecDepth 100000

set_option maxHeartbeats 2000000 in
theorem yOwn (p q r s : Int) : TM 12 #[.agg #[.int .u64 p, .int .u64 q, .int .u64 r, .int .u64 s]] p q r s := fun w => by
  have U := B4.new w p q r s
  have s1 : (w.alloc (.cells #[.int .u64 p, .int .u64 q, .int .u64 r, .int .u64 s] 26)).heap.size = w.heap.size + 1 := Array.size_push _
  have L := below_alloc (Below.refl w.heap.size w) (.cells #[.int .u64 p, .int .u64 q, .int .u64 r, .int .u64 s] 26)
  have H1 := Lib.hid (And.intro U (And.intro s1 L))
  clear U s1 L
  go_enter Try.func12, Try.ntmps12
  go_upto_region 1 with fail
  generalize w.alloc _ = V1 at H1 ⊢
  have Z := R4.new V1 0 0 0 0
  rw [H1.out.2.1] at Z
  have LB := below_allocs V1 (.cells #[.int .u64 0, .int .u64 0, .int .u64 0, .int .u64 0] 37)
  have U := H1.out.1.below LB
  have hB := below_then H1.out.2.2 LB
  clear LB H1
  generalize V1.alloc _ = V2 at Z U hB ⊢
  have HR := Lib.hid (R4.put (p' := p) (q' := q) (r' := r) (s' := s) Z)
  have HB := Lib.hid (below_putR4 (x := w.heap.size + 1) (p' := p) (q' := q) (r' := r) (s' := s) hB (Nat.le_succ _))
  obtain ⟨x1, x2, x3, x4⟩ := U.cells
  obtain ⟨z1, z2, z3, z4⟩ := Z.cells
  obtain ⟨f1, f2, f3, f4⟩ := Z.free
  clear U Z hB
  go_wp2_with fail
  generalize World.setCell (World.setCell (World.setCell (World.setCell V2 _ _) _ _) _ _) _ _ = V3 at HR HB ⊢
  obtain ⟨r1, r2, r3, r4⟩ := HR.out.cells
  try simp only [Exit.inBlock, Exit.then, Exit.noGoto]
  refine bodyPost_ret (by simp [results, Try.results12, go_sem, r1, r2, r3, r4]; try rfl) rfl ?_
  exact ⟨rfl, HB.out⟩
set_option maxHeartbeats 4000000 in
theorem atMain (a0 a1 c0 c1 h l p0 p1 s0 s1 : Int) (o : Bool)
    (M : Hid (TN 26 #[.agg #[.int .u64 a0, .int .u64 a1], .agg #[.int .u64 h, .int .u64 l]] p0 p1))
    (D : Hid (TNB 27 #[.agg #[.int .u64 p0, .int .u64 p1], .agg #[.int .u64 c0, .int .u64 c1]] s0 s1 o)) :
    TN 14 #[.agg #[.int .u64 a0, .int .u64 a1, .int .u64 c0, .int .u64 c1], .agg #[.int .u64 h, .int .u64 l]] s0 s1 := fun w => by
  have U := R4.new w a0 a1 c0 c1
  have z1 : (w.alloc (.cells #[.int .u64 a0, .int .u64 a1, .int .u64 c0, .int .u64 c1] 37)).heap.size = w.heap.size + 1 := Array.size_push _
  have L := below_alloc (Below.refl w.heap.size w) (.cells #[.int .u64 a0, .int .u64 a1, .int .u64 c0, .int .u64 c1] 37)
  have H1 := Lib.hid (And.intro U (And.intro z1 L))
  clear U z1 L
  go_enter Try.func14, Try.ntmps14
  go_upto_region 1 with fail
  generalize w.alloc _ = V1 at H1 ⊢
  have UX := R2.new V1 h l
  have z2 : (V1.alloc (.cells #[.int .u64 h, .int .u64 l] 31)).heap.size = w.heap.size + 1 + 1 := (Array.size_push _).trans (by rw [H1.out.2.1])
  rw [H1.out.2.1] at UX
  have LB := below_allocs V1 (.cells #[.int .u64 h, .int .u64 l] 31)
  have H2 := Lib.hid (And.intro (H1.out.1.below LB) (And.intro UX (And.intro z2 (below_then H1.out.2.2 LB))))
  clear UX z2 LB H1
  generalize V1.alloc _ = V2 at H2 ⊢
  have UZ := R2.new V2 0 0
  rw [H2.out.2.2.1] at UZ
  have LB := below_allocs V2 (.cells #[.int .u64 0, .int .u64 0] 31)
  have HK := Lib.hid (And.intro (H2.out.1.below LB) (And.intro (H2.out.2.1.below LB) (And.intro UZ (below_then H2.out.2.2.2 LB))))
  clear UZ LB H2
  generalize V2.alloc _ = V4 at HK ⊢
  have hc : w.heap.size ≤ w.heap.size + 1 := Nat.le_succ _
  generalize w.heap.size + 1 = cx at HK hc ⊢
  go_cut [5] (CutN V4 s0 s1)
  case first =>
    have hX : Below V4.heap.size V4 V4 := Below.refl _ _
    obtain ⟨f1, f2, f3, f4⟩ := HK.out.1.cells
    obtain ⟨f5, f6⟩ := HK.out.2.1.cells
    have l1 : w.heap.size < V4.heap.size := HK.out.1.lt
    have l2 : cx < V4.heap.size := HK.out.2.1.lt
    go_region_held3 (fun w' => w'.cell? ⟨w.heap.size, 0, none⟩ = some (.int .u64 a0) ∧ w'.cell? ⟨w.heap.size, 1, none⟩ = some (.int .u64 a1) ∧ w'.cell? ⟨w.heap.size, 2, none⟩ = some (.int .u64 c0) ∧ w'.cell? ⟨w.heap.size, 3, none⟩ = some (.int .u64 c1) ∧ w'.cell? ⟨cx, 0, none⟩ = some (.int .u64 h) ∧ w'.cell? ⟨cx, 1, none⟩ = some (.int .u64 l)) (go_keep) (first
      | (go_at_call 26; (with_reducible refine (M.out _).mono ?_); rintro e x1 ⟨rfl, hb⟩; (first | (have za : R2 x1 V4.heap.size 0 0 := r2_early (w := World.drew V4) hb; obtain ⟨za0, za1⟩ := R2.cells za; obtain ⟨za2, za3⟩ := R2.free za; have za4 := R2.lt za) | skip); replace hX := below_then (show Below V4.heap.size V4 _ by first | exact hX | exact hX.drew | exact hX.alloc hX.size _ | exact hX.drew.alloc hX.drew.size _) hb; clear hb; have sx1 : V4.heap.size ≤ x1.heap.size := hX.size; have d1 : w.heap.size ≠ V4.heap.size := Nat.ne_of_lt l1; have d2 : V4.heap.size ≠ w.heap.size := Nat.ne_of_gt l1; have d3 : cx ≠ V4.heap.size := Nat.ne_of_lt l2; have d4 : V4.heap.size ≠ cx := Nat.ne_of_gt l2; clear f1 f2 f3 f4 f5 f6 l1 l2; obtain ⟨f1, f2, f3, f4⟩ := (HK.out.1.below hX).cells; obtain ⟨f5, f6⟩ := (HK.out.2.1.below hX).cells; have l1 : w.heap.size < x1.heap.size := (HK.out.1.below hX).lt; have l2 : cx < x1.heap.size := (HK.out.2.1.below hX).lt)
      | (go_at_call 27; (with_reducible refine (D.out _).mono ?_); rintro e x2 ⟨rfl, hb⟩; (first | (have zc : R2 x2 x1.heap.size 0 0 := r2_early (w := x1) hb; obtain ⟨zc0, zc1⟩ := R2.cells zc; obtain ⟨zc2, zc3⟩ := R2.free zc; have zc4 := R2.lt zc) | skip); (first | (replace za := R2.below za (below_then (by first | exact Below.refl _ _ | exact below_allocs _ _) hb); obtain ⟨ya0, ya1⟩ := R2.cells za; obtain ⟨ya2, ya3⟩ := R2.free za; have ya4 := R2.lt za) | skip); replace hX := below_then (show Below V4.heap.size V4 _ by first | exact hX | exact hX.drew | exact hX.alloc hX.size _ | exact hX.drew.alloc hX.drew.size _) hb; clear hb; have d5 : w.heap.size ≠ x1.heap.size := Nat.ne_of_lt l1; have d6 : x1.heap.size ≠ w.heap.size := Nat.ne_of_gt l1; have d7 : cx ≠ x1.heap.size := Nat.ne_of_lt l2; have d8 : x1.heap.size ≠ cx := Nat.ne_of_gt l2; clear f1 f2 f3 f4 f5 f6 l1 l2; obtain ⟨f1, f2, f3, f4⟩ := (HK.out.1.below hX).cells; obtain ⟨f5, f6⟩ := (HK.out.2.1.below hX).cells; have l1 : w.heap.size < x2.heap.size := (HK.out.1.below hX).lt; have l2 : cx < x2.heap.size := (HK.out.2.1.below hX).lt; have d9 : w.heap.size ≠ x2.heap.size := Nat.ne_of_lt l1; have d10 : cx ≠ x2.heap.size := Nat.ne_of_lt l2))
    all_goals
      go_wp2_with fail
      go_meet
      first
        | with_reducible exact CutN.of hX
        | with_reducible exact CutN.early hX (Nat.le_refl _) za
        | with_reducible exact CutN.early hX sx1 zc
  obtain ⟨b, rfl, N, hX⟩ := hcut
  have hU := HK.out.2.2.1.below hX
  have HR := Lib.hid (R2.put (p' := s0) (q' := s1) hU)
  have HB : Hid (Below w.heap.size w ((wc.setCell ⟨cx + 1, 0, none⟩ (.int .u64 s0)).setCell ⟨cx + 1, 1, none⟩ (.int .u64 s1))) := Lib.hid (below_putR2 (below_then HK.out.2.2.2 hX) (Nat.le_trans hc (Nat.le_succ _)) _ _)
  obtain ⟨n1, n2⟩ := N.cells
  obtain ⟨z1, z2⟩ := hU.cells
  obtain ⟨f1, f2⟩ := hU.free
  clear HK M D hU N hX
  go_wp2_with fail
  generalize World.setCell (World.setCell wc _ _) _ _ = V5 at HR HB ⊢
  obtain ⟨r1, r2⟩ := HR.out.cells
  try simp only [Exit.inBlock, Exit.then, Exit.noGoto]
  refine bodyPost_ret (by simp [results, Try.results14, go_sem, r1, r2]; try rfl) rfl ?_
  exact ⟨rfl, HB.out⟩
end Go.Proofs.Ytfnfjfmkhnofkaa
/-
  What the reference of layer 9 answers: At and Then. Made by wip/gen/affref.py.
-/
namespace Go.Proofs.Ytfnfjfmkhnofkaa
open Go.RowKit G
set_option linter.unusedVariables false
set_option maxRecDepth 100000

theorem yAtM (m : Mp) (hm : m.Ok) {x : Nat} (hx : x < Q) : TN 14 #[m.val, .agg #[.int .u64 ((hiW x : Nat) : Int), .int .u64 ((loW x : Nat) : Int)]] ((hiW (atM m x) : Nat) : Int) ((loW (atM m x) : Nat) : Int) := by
  have D := yAdd (M := m.A * x % Q) (Nat.mod_lt _ (by decide)) hm.c
  rw [Nat.mod_add_mod] at D
  exact atMain _ _ _ _ _ _ _ _ _ _ _ (Lib.hid (yMul hm.a hx)) (Lib.hid D)
set_option maxHeartbeats 8000000 in
theorem rthenMain (a0 a1 a2 a3 b0 b1 b2 b3 p0 p1 e0 e1 q0 q1 g0 g1 d0 d1 : Int) (o : Bool)
    (A1 : Hid (TN 14 #[.agg #[.int .u64 a0, .int .u64 a1, .int .u64 a2, .int .u64 a3], .agg #[.int .u64 0, .int .u64 0]] p0 p1))
    (A2 : Hid (TN 14 #[.agg #[.int .u64 b0, .int .u64 b1, .int .u64 b2, .int .u64 b3], .agg #[.int .u64 p0, .int .u64 p1]] e0 e1))
    (A3 : Hid (TN 14 #[.agg #[.int .u64 a0, .int .u64 a1, .int .u64 a2, .int .u64 a3], .agg #[.int .u64 0, .int .u64 1]] q0 q1))
    (A4 : Hid (TN 14 #[.agg #[.int .u64 b0, .int .u64 b1, .int .u64 b2, .int .u64 b3], .agg #[.int .u64 q0, .int .u64 q1]] g0 g1))
    (D : Hid (TNB 29 #[.agg #[.int .u64 g0, .int .u64 g1], .agg #[.int .u64 e0, .int .u64 e1]] d0 d1 o)) :
    TM 11 #[.agg #[.int .u64 a0, .int .u64 a1, .int .u64 a2, .int .u64 a3], .agg #[.int .u64 b0, .int .u64 b1, .int .u64 b2, .int .u64 b3]] d0 d1 e0 e1 := fun w => by
  have U := R4.new w a0 a1 a2 a3
  have z1 : (w.alloc (.cells #[.int .u64 a0, .int .u64 a1, .int .u64 a2, .int .u64 a3] 37)).heap.size = w.heap.size + 1 := Array.size_push _
  have L := below_alloc (Below.refl w.heap.size w) (.cells #[.int .u64 a0, .int .u64 a1, .int .u64 a2, .int .u64 a3] 37)
  have H1 := Lib.hid (And.intro U (And.intro z1 L))
  clear U z1 L
  go_enter Try.func11, Try.ntmps11
  go_upto_region 1 with fail
  generalize w.alloc _ = V1 at H1 ⊢
  have UX := R4.new V1 b0 b1 b2 b3
  have z2 : (V1.alloc (.cells #[.int .u64 b0, .int .u64 b1, .int .u64 b2, .int .u64 b3] 37)).heap.size = w.heap.size + 1 + 1 := (Array.size_push _).trans (by rw [H1.out.2.1])
  rw [H1.out.2.1] at UX
  have LB := below_allocs V1 (.cells #[.int .u64 b0, .int .u64 b1, .int .u64 b2, .int .u64 b3] 37)
  have H2 := Lib.hid (And.intro (H1.out.1.below LB) (And.intro UX (And.intro z2 (below_then H1.out.2.2 LB))))
  clear UX z2 LB H1
  generalize V1.alloc _ = V2 at H2 ⊢
  have UZ := R4.new V2 0 0 0 0
  rw [H2.out.2.2.1] at UZ
  have LB := below_allocs V2 (.cells #[.int .u64 0, .int .u64 0, .int .u64 0, .int .u64 0] 37)
  have HK := Lib.hid (And.intro (H2.out.1.below LB) (And.intro (H2.out.2.1.below LB) UZ))
  have HW := Lib.hid (below_then H2.out.2.2.2 LB)
  clear UZ LB H2
  generalize V2.alloc _ = V4 at HK HW ⊢
  have hc : w.heap.size ≤ w.heap.size + 1 := Nat.le_succ _
  generalize w.heap.size + 1 = cn at HK hc ⊢
  obtain ⟨cm, hcm⟩ : ∃ cm, cm = w.heap.size := ⟨_, rfl⟩
  rw [← hcm] at HK ⊢
  go_cut [5] (CutN V4 e0 e1)
  case first =>
    clear A3 A4 D hc hcm
    have hX : Below V4.heap.size V4 V4 := Below.refl _ _
    obtain ⟨f1, f2, f3, f4⟩ := (HK.out.1.below hX).cells
    obtain ⟨f5, f6, f7, f8⟩ := (HK.out.2.1.below hX).cells
    have l1 : cm < V4.heap.size := (HK.out.1.below hX).lt
    have l2 : cn < V4.heap.size := (HK.out.2.1.below hX).lt
    go_region_held3 (fun w' => w'.cell? ⟨cm, 0, none⟩ = some (.int .u64 a0) ∧ w'.cell? ⟨cm, 1, none⟩ = some (.int .u64 a1) ∧ w'.cell? ⟨cm, 2, none⟩ = some (.int .u64 a2) ∧ w'.cell? ⟨cm, 3, none⟩ = some (.int .u64 a3) ∧ w'.cell? ⟨cn, 0, none⟩ = some (.int .u64 b0) ∧ w'.cell? ⟨cn, 1, none⟩ = some (.int .u64 b1) ∧ w'.cell? ⟨cn, 2, none⟩ = some (.int .u64 b2) ∧ w'.cell? ⟨cn, 3, none⟩ = some (.int .u64 b3)) (go_keep) (first
      | (go_at_call 14; (with_reducible refine (A1.out _).mono ?_); rintro e x1 ⟨rfl, hb⟩; (first | (have za : R2 x1 V4.heap.size 0 0 := r2_early (w := World.drew V4) hb; obtain ⟨za0, za1⟩ := R2.cells za; obtain ⟨za2, za3⟩ := R2.free za; have za4 := R2.lt za) | skip); replace hX := below_then (show Below V4.heap.size V4 _ by first | exact hX | exact hX.drew | exact hX.alloc hX.size _ | exact hX.drew.alloc hX.drew.size _) hb; clear hb; have sx1 : V4.heap.size ≤ x1.heap.size := hX.size; have da1 : cm ≠ V4.heap.size := Nat.ne_of_lt l1; have da2 : V4.heap.size ≠ cm := Nat.ne_of_gt l1; have da3 : cn ≠ V4.heap.size := Nat.ne_of_lt l2; have da4 : V4.heap.size ≠ cn := Nat.ne_of_gt l2; clear f1 f2 f3 f4 f5 f6 f7 f8 l1 l2; obtain ⟨f1, f2, f3, f4⟩ := (HK.out.1.below hX).cells; obtain ⟨f5, f6, f7, f8⟩ := (HK.out.2.1.below hX).cells; have l1 : cm < x1.heap.size := (HK.out.1.below hX).lt; have l2 : cn < x1.heap.size := (HK.out.2.1.below hX).lt)
      | (go_at_call 14; (with_reducible refine (A2.out _).mono ?_); rintro e x2 ⟨rfl, hb⟩; (first | (have zc : R2 x2 x1.heap.size 0 0 := r2_early (w := x1) hb; obtain ⟨zc0, zc1⟩ := R2.cells zc; obtain ⟨zc2, zc3⟩ := R2.free zc; have zc4 := R2.lt zc) | skip); (first | (replace za := R2.below za (below_then (by first | exact Below.refl _ _ | exact below_allocs _ _) hb); obtain ⟨ya0, ya1⟩ := R2.cells za; obtain ⟨ya2, ya3⟩ := R2.free za; have ya4 := R2.lt za) | skip); replace hX := below_then (show Below V4.heap.size V4 _ by first | exact hX | exact hX.drew | exact hX.alloc hX.size _ | exact hX.drew.alloc hX.drew.size _) hb; clear hb; have db1 : cm ≠ x1.heap.size := Nat.ne_of_lt l1; have db2 : x1.heap.size ≠ cm := Nat.ne_of_gt l1; have db3 : cn ≠ x1.heap.size := Nat.ne_of_lt l2; have db4 : x1.heap.size ≠ cn := Nat.ne_of_gt l2; clear f1 f2 f3 f4 f5 f6 f7 f8 l1 l2; obtain ⟨f1, f2, f3, f4⟩ := (HK.out.1.below hX).cells; obtain ⟨f5, f6, f7, f8⟩ := (HK.out.2.1.below hX).cells; have l1 : cm < x2.heap.size := (HK.out.1.below hX).lt; have l2 : cn < x2.heap.size := (HK.out.2.1.below hX).lt; have dc1 : cm ≠ x2.heap.size := Nat.ne_of_lt l1; have dc2 : x2.heap.size ≠ cm := Nat.ne_of_gt l1; have dc3 : cn ≠ x2.heap.size := Nat.ne_of_lt l2; have dc4 : x2.heap.size ≠ cn := Nat.ne_of_gt l2))
    all_goals
      go_wp2_with fail
      go_meet
      first
        | with_reducible exact CutN.of hX
        | with_reducible exact CutN.early hX (Nat.le_refl _) za
        | with_reducible exact CutN.early hX sx1 zc
  obtain ⟨bz, rfl, NZ, hX⟩ := hcut
  obtain ⟨W5, h5⟩ : ∃ x : World, x = wc := ⟨_, rfl⟩
  subst h5
  have HJ := HK
  clear HK
  have HK := Lib.hid (And.intro (HJ.out.1.below hX) (And.intro (HJ.out.2.1.below hX) (And.intro (HJ.out.2.2.below hX) (And.intro (below_then HW.out hX) NZ))))
  clear HJ HW hX NZ A1 A2
  go_upto_region 2 with fail
  go_cut [6] (CutN W5 g0 g1)
  case first =>
    clear D hc hcm
    have hX : Below W5.heap.size W5 W5 := Below.refl _ _
    obtain ⟨f1, f2, f3, f4⟩ := (HK.out.1.below hX).cells
    obtain ⟨f5, f6, f7, f8⟩ := (HK.out.2.1.below hX).cells
    have l1 : cm < W5.heap.size := (HK.out.1.below hX).lt
    have l2 : cn < W5.heap.size := (HK.out.2.1.below hX).lt
    go_region_held3 (fun w' => w'.cell? ⟨cm, 0, none⟩ = some (.int .u64 a0) ∧ w'.cell? ⟨cm, 1, none⟩ = some (.int .u64 a1) ∧ w'.cell? ⟨cm, 2, none⟩ = some (.int .u64 a2) ∧ w'.cell? ⟨cm, 3, none⟩ = some (.int .u64 a3) ∧ w'.cell? ⟨cn, 0, none⟩ = some (.int .u64 b0) ∧ w'.cell? ⟨cn, 1, none⟩ = some (.int .u64 b1) ∧ w'.cell? ⟨cn, 2, none⟩ = some (.int .u64 b2) ∧ w'.cell? ⟨cn, 3, none⟩ = some (.int .u64 b3)) (go_keep) (first
      | (go_at_call 14; (with_reducible refine (A3.out _).mono ?_); rintro e x1 ⟨rfl, hb⟩; (first | (have za : R2 x1 W5.heap.size 0 0 := r2_early (w := World.drew W5) hb; obtain ⟨za0, za1⟩ := R2.cells za; obtain ⟨za2, za3⟩ := R2.free za; have za4 := R2.lt za) | skip); replace hX := below_then (show Below W5.heap.size W5 _ by first | exact hX | exact hX.drew | exact hX.alloc hX.size _ | exact hX.drew.alloc hX.drew.size _) hb; clear hb; have sx1 : W5.heap.size ≤ x1.heap.size := hX.size; have da1 : cm ≠ W5.heap.size := Nat.ne_of_lt l1; have da2 : W5.heap.size ≠ cm := Nat.ne_of_gt l1; have da3 : cn ≠ W5.heap.size := Nat.ne_of_lt l2; have da4 : W5.heap.size ≠ cn := Nat.ne_of_gt l2; clear f1 f2 f3 f4 f5 f6 f7 f8 l1 l2; obtain ⟨f1, f2, f3, f4⟩ := (HK.out.1.below hX).cells; obtain ⟨f5, f6, f7, f8⟩ := (HK.out.2.1.below hX).cells; have l1 : cm < x1.heap.size := (HK.out.1.below hX).lt; have l2 : cn < x1.heap.size := (HK.out.2.1.below hX).lt)
      | (go_at_call 14; (with_reducible refine (A4.out _).mono ?_); rintro e x2 ⟨rfl, hb⟩; (first | (have zc : R2 x2 x1.heap.size 0 0 := r2_early (w := x1) hb; obtain ⟨zc0, zc1⟩ := R2.cells zc; obtain ⟨zc2, zc3⟩ := R2.free zc; have zc4 := R2.lt zc) | skip); (first | (replace za := R2.below za (below_then (by first | exact Below.refl _ _ | exact below_allocs _ _) hb); obtain ⟨ya0, ya1⟩ := R2.cells za; obtain ⟨ya2, ya3⟩ := R2.free za; have ya4 := R2.lt za) | skip); replace hX := below_then (show Below W5.heap.size W5 _ by first | exact hX | exact hX.drew | exact hX.alloc hX.size _ | exact hX.drew.alloc hX.drew.size _) hb; clear hb; have db1 : cm ≠ x1.heap.size := Nat.ne_of_lt l1; have db2 : x1.heap.size ≠ cm := Nat.ne_of_gt l1; have db3 : cn ≠ x1.heap.size := Nat.ne_of_lt l2; have db4 : x1.heap.size ≠ cn := Nat.ne_of_gt l2; clear f1 f2 f3 f4 f5 f6 f7 f8 l1 l2; obtain ⟨f1, f2, f3, f4⟩ := (HK.out.1.below hX).cells; obtain ⟨f5, f6, f7, f8⟩ := (HK.out.2.1.below hX).cells; have l1 : cm < x2.heap.size := (HK.out.1.below hX).lt; have l2 : cn < x2.heap.size := (HK.out.2.1.below hX).lt; have dc1 : cm ≠ x2.heap.size := Nat.ne_of_lt l1; have dc2 : x2.heap.size ≠ cm := Nat.ne_of_gt l1; have dc3 : cn ≠ x2.heap.size := Nat.ne_of_lt l2; have dc4 : x2.heap.size ≠ cn := Nat.ne_of_gt l2))
    all_goals
      go_wp2_with fail
      go_meet
      first
        | with_reducible exact CutN.of hX
        | with_reducible exact CutN.early hX (Nat.le_refl _) za
        | with_reducible exact CutN.early hX sx1 zc
  obtain ⟨bo, rfl, NO, hX⟩ := hcut
  obtain ⟨W6, h6⟩ : ∃ x : World, x = wc := ⟨_, rfl⟩
  subst h6
  have HJ := Lib.hid (And.intro (HK.out.2.2.1.below hX) (And.intro (below_then HK.out.2.2.2.1 hX) (And.intro (HK.out.2.2.2.2.below hX) NO)))
  clear HK hX NO A3 A4
  obtain ⟨n1, n2⟩ := HJ.out.2.2.1.cells
  obtain ⟨k1, k2⟩ := HJ.out.2.2.2.cells
  go_wp2_with fail
  clear n1 n2 k1 k2
  refine (D.out _).mono ?_
  rintro e W7 ⟨rfl, hb⟩
  have ND := R2.new W7 d0 d1
  have LB := below_then hb (below_allocs W7 (.cells #[.int .u64 d0, .int .u64 d1] 31))
  have HL := Lib.hid (And.intro (HJ.out.1.below LB) (And.intro (below_then HJ.out.2.1 LB) (And.intro (HJ.out.2.2.1.below LB) ND)))
  clear HJ hb LB ND D
  go_upto_region 4 with fail
  generalize W7.alloc _ = W8 at HL ⊢
  generalize W7.heap.size = bd at HL ⊢
  have HR := Lib.hid (R4.put (p' := d0) (q' := d1) (r' := e0) (s' := e1) HL.out.1)
  have HB : Hid (Below w.heap.size w ((((W8.setCell ⟨cn + 1, 0, none⟩ (.int .u64 d0)).setCell ⟨cn + 1, 1, none⟩ (.int .u64 d1)).setCell ⟨cn + 1, 2, none⟩ (.int .u64 e0)).setCell ⟨cn + 1, 3, none⟩ (.int .u64 e1))) := Lib.hid (below_putR4 HL.out.2.1 (Nat.le_trans hc (Nat.le_succ _)))
  obtain ⟨n1, n2⟩ := HL.out.2.2.1.cells
  obtain ⟨k1, k2⟩ := HL.out.2.2.2.cells
  obtain ⟨z1, z2, z3, z4⟩ := HL.out.1.cells
  obtain ⟨f1, f2, f3, f4⟩ := HL.out.1.free
  clear HL
  go_wp2_with fail
  generalize World.setCell (World.setCell (World.setCell (World.setCell W8 _ _) _ _) _ _) _ _ = V9 at HR HB ⊢
  obtain ⟨r1, r2, r3, r4⟩ := HR.out.cells
  try simp only [Exit.inBlock, Exit.then, Exit.noGoto]
  refine bodyPost_ret (by simp [results, Try.results11, go_sem, r1, r2, r3, r4]; try rfl) rfl ?_
  exact ⟨rfl, HB.out⟩
theorem yThenM (m n : Mp) (hm : m.Ok) (hn : n.Ok) : TM 11 #[m.val, n.val] ((hiW (thenM m n).A : Nat) : Int) ((loW (thenM m n).A : Nat) : Int) ((hiW (thenM m n).C : Nat) : Int) ((loW (thenM m n).C : Nat) : Int) := by
  have D := ySub (M := atM (thenM m n) 1) (N := atM (thenM m n) 0) (atM_lt _ _) (atM_lt _ _)
  rw [at_diff _ (thenM_ok m n)] at D
  have A2 := yAtM n hn (atM_lt m 0)
  have A4 := yAtM n hn (atM_lt m 1)
  rw [← at_then] at A2 A4
  have e0 : atM (thenM m n) 0 = (thenM m n).C := by
    show ((thenM m n).A * 0 + (thenM m n).C) % Q = _
    rw [Nat.mul_zero, Nat.zero_add, Nat.mod_eq_of_lt (thenM_ok m n).c]
  rw [e0] at A2 D
  exact rthenMain _ _ _ _ _ _ _ _ _ _ _ _ _ _ _ _ _ _ _ (Lib.hid (yAtM m hm (x := 0) (by decide))) (Lib.hid A2) (Lib.hid (yAtM m hm (x := 1) (by decide))) (Lib.hid A4) (Lib.hid D)
end Go.Proofs.Ytfnfjfmkhnofkaa
/-
  What the reference of layer 9 answers: Power.
-/
namespace Go.Proofs.Ytfnfjfmkhnofkaa
open Go.RowKit G
set_option linter.unusedVariables false
set_option maxRecDepth 100000

/-- Four words are a map's. -/
def Ws (m : Mp) (p q r s : Int) : Prop := p = ((hiW m.A : Nat) : Int) ∧ q = ((loW m.A : Nat) : Int) ∧ r = ((hiW m.C : Nat) : Int) ∧ s = ((loW m.C : Nat) : Int)
theorem Ws.of (m : Mp) : Ws m ((hiW m.A : Nat) : Int) ((loW m.A : Nat) : Int) ((hiW m.C : Nat) : Int) ((loW m.C : Nat) : Int) := ⟨rfl, rfl, rfl, rfl⟩
section
variable {w v : World} {g x : Nat} {p' q' r' s' : Int}
theorem far_block4 (hne : g ≠ x) : ((((w.setCell ⟨x, 0, none⟩ (.int .u64 p')).setCell ⟨x, 1, none⟩ (.int .u64 q')).setCell ⟨x, 2, none⟩ (.int .u64 r')).setCell ⟨x, 3, none⟩ (.int .u64 s')).heap[g]? = w.heap[g]? :=
  (Below.heap_setCell _ _ _ g hne).trans ((Below.heap_setCell _ _ _ g hne).trans ((Below.heap_setCell _ _ _ g hne).trans (Below.heap_setCell _ _ _ g hne)))
theorem size_put4 : ((((w.setCell ⟨x, 0, none⟩ (.int .u64 p')).setCell ⟨x, 1, none⟩ (.int .u64 q')).setCell ⟨x, 2, none⟩ (.int .u64 r')).setCell ⟨x, 3, none⟩ (.int .u64 s')).heap.size = w.heap.size := by simp [World.setCell]
theorem cell_same (h : w.heap[g]? = v.heap[g]?) (k : Nat) : w.cell? ⟨g, k, none⟩ = v.cell? ⟨g, k, none⟩ := by
  unfold World.cell?
  simp only [h]
end
/-- An answer that is a map, its words named. -/
def AnsQ (m : Mp) (w : World) (e : Ending) (w' : World) : Prop := ∃ p0 p1 p2 p3 : Int, Ws m p0 p1 p2 p3 ∧ e = .returned (.agg #[.int .u64 p0, .int .u64 p1, .int .u64 p2, .int .u64 p3]) ∧ Below w.heap.size w w'
set_option maxHeartbeats 8000000 in
theorem powerMain (a0 a1 a2 a3 h l : Int) (L M : Nat) (xs : List Int) (q s : Nat → Mp) (w : World)
    (CL : Hid (∀ W : World, Calls Try.prog 31 #[.agg #[.int .u64 h, .int .u64 l]] W (fun e w' => ∃ g cap : Nat, e = .returned (.slice (some ⟨g, 0, none⟩) M cap) ∧ W.heap.size ≤ g ∧ g < w'.heap.size ∧ M ≤ cap ∧ (∀ k, k < M → w'.cell? ⟨g, k, none⟩ = some (.int .i64 (xs.getD k 0))) ∧ Below W.heap.size W w')))
    (CN : Hid (∀ W : World, Calls Try.prog 32 #[.agg #[.int .u64 h, .int .u64 l]] W (fun e w' => e = .returned (.int .i64 (L : Int)) ∧ Below W.heap.size W w')))
    (hL : L ≤ M) (hM : M ≤ 128)
    (T1 : Hid (∀ (j : Nat) (p0 p1 p2 p3 : Int), Ws (q (j + 1)) p0 p1 p2 p3 → ∃ o0 o1 o2 o3 : Int, Ws (s j) o0 o1 o2 o3 ∧ TM 11 #[.agg #[.int .u64 p0, .int .u64 p1, .int .u64 p2, .int .u64 p3], .agg #[.int .u64 p0, .int .u64 p1, .int .u64 p2, .int .u64 p3]] o0 o1 o2 o3))
    (T2 : Hid (∀ (j : Nat) (p0 p1 p2 p3 : Int), Ws (s j) p0 p1 p2 p3 → j < M → xs.getD j 0 = 1 → ∃ o0 o1 o2 o3 : Int, Ws (q j) o0 o1 o2 o3 ∧ TM 11 #[.agg #[.int .u64 p0, .int .u64 p1, .int .u64 p2, .int .u64 p3], .agg #[.int .u64 a0, .int .u64 a1, .int .u64 a2, .int .u64 a3]] o0 o1 o2 o3))
    (E : Hid (∀ j, j < M → xs.getD j 0 ≠ 1 → s j = q j)) (q0 : Hid (Ws (q L) 0 1 0 0)) :
    Calls Try.prog 17 #[.agg #[.int .u64 a0, .int .u64 a1, .int .u64 a2, .int .u64 a3], .agg #[.int .u64 h, .int .u64 l]] w (AnsQ (q 0) w) := by
  have U := R4.new w a0 a1 a2 a3
  have z1 : (w.alloc (.cells #[.int .u64 a0, .int .u64 a1, .int .u64 a2, .int .u64 a3] 37)).heap.size = w.heap.size + 1 := Array.size_push _
  have LW := below_alloc (Below.refl w.heap.size w) (.cells #[.int .u64 a0, .int .u64 a1, .int .u64 a2, .int .u64 a3] 37)
  have H1 := Lib.hid (And.intro U (And.intro z1 LW))
  clear U z1 LW
  go_enter Try.func17, Try.ntmps17
  go_upto_region 1 with fail
  generalize w.alloc _ = V1 at H1 ⊢
  have UX := R2.new V1 h l
  have z2 : (V1.alloc (.cells #[.int .u64 h, .int .u64 l] 31)).heap.size = w.heap.size + 1 + 1 := (Array.size_push _).trans (by rw [H1.out.2.1])
  rw [H1.out.2.1] at UX
  have LB := below_allocs V1 (.cells #[.int .u64 h, .int .u64 l] 31)
  have H2 := Lib.hid (And.intro (H1.out.1.below LB) (And.intro UX (And.intro z2 (below_then H1.out.2.2 LB))))
  clear UX z2 LB H1
  generalize V1.alloc _ = V2 at H2 ⊢
  have UZ := R4.new V2 0 0 0 0
  rw [H2.out.2.2.1] at UZ
  have LB := below_allocs V2 (.cells #[.int .u64 0, .int .u64 0, .int .u64 0, .int .u64 0] 37)
  have z3 : (V2.alloc (.cells #[.int .u64 0, .int .u64 0, .int .u64 0, .int .u64 0] 37)).heap.size = w.heap.size + 1 + 1 + 1 := (Array.size_push _).trans (by rw [H2.out.2.2.1])
  have HK := Lib.hid (And.intro (H2.out.1.below LB) (And.intro (H2.out.2.1.below LB) (And.intro UZ (And.intro (below_then H2.out.2.2.2 LB) z3))))
  clear UZ LB H2 z3
  generalize V2.alloc _ = V3 at HK ⊢
  go_upto_region 2 with fail
  have UO := R4.new V3 0 1 0 0
  rw [HK.out.2.2.2.2] at UO
  have LB := below_allocs V3 (.cells #[.int .u64 0, .int .u64 1, .int .u64 0, .int .u64 0] 37)
  rw [HK.out.2.2.2.2]
  have HJ := Lib.hid (And.intro (HK.out.1.below LB) (And.intro (HK.out.2.1.below LB) (And.intro (HK.out.2.2.1.below LB) (And.intro (below_then HK.out.2.2.2.1 LB) UO))))
  clear HK UO LB
  generalize V3.alloc _ = V4 at HJ ⊢
  have hc : w.heap.size ≤ w.heap.size + 1 + 1 := Nat.le_trans (Nat.le_succ _) (Nat.le_succ _)
  have hd : w.heap.size ≤ w.heap.size + 1 + 1 + 1 := Nat.le_trans hc (Nat.le_succ _)
  have ha : w.heap.size ≠ w.heap.size + 1 + 1 + 1 := by omega
  have hz : w.heap.size + 1 + 1 ≠ w.heap.size + 1 + 1 + 1 := by omega
  generalize w.heap.size + 1 + 1 + 1 = co at HJ hd ha hz ⊢
  generalize w.heap.size + 1 + 1 = cz at HJ hc hz ⊢
  generalize w.heap.size + 1 = cn at HJ ⊢
  obtain ⟨x1, x2⟩ := HJ.out.2.1.cells
  go_wp2_with fail
  clear x1 x2
  refine (CL.out _).mono ?_
  rintro e V5 ⟨g, cap, rfl, gb, gl, gc, cl, hb⟩
  have gne : g ≠ co := Nat.ne_of_gt (Nat.lt_of_lt_of_le HJ.out.2.2.2.2.lt gb)
  clear gb
  have HI := Lib.hid (And.intro (HJ.out.1.below hb) (And.intro (HJ.out.2.1.below hb) (And.intro (HJ.out.2.2.1.below hb) (And.intro (below_then HJ.out.2.2.2.1 hb) (And.intro (HJ.out.2.2.2.2.below hb) (And.intro gl cl))))))
  clear HJ hb gl cl CL
  obtain ⟨x1, x2⟩ := HI.out.2.1.cells
  go_wp2_with fail
  clear x1 x2
  refine (CN.out _).mono ?_
  rintro e V6 ⟨rfl, hb⟩
  have CE : Hid (∀ k, k < M → V6.cell? ⟨g, k, none⟩ = some (.int .i64 (xs.getD k 0))) := Lib.hid fun k hk => (hb.cell (p := ⟨g, k, none⟩) (World.block_lt_of_cell? _ _ (HI.out.2.2.2.2.2.2 k hk))).trans (HI.out.2.2.2.2.2.2 k hk)
  have HH := Lib.hid (And.intro (HI.out.1.below hb) (And.intro (HI.out.2.2.1.below hb) (And.intro (below_then HI.out.2.2.2.1 hb) (And.intro (HI.out.2.2.2.2.1.below hb) (Nat.lt_of_lt_of_le HI.out.2.2.2.2.2.1 hb.size)))))
  clear HI hb CN
  have w1 : IntKind.i64.wrap ((L : Int) - 1) = (L : Int) - 1 := by rw [IntKind.wrap_i64]; omega
  go_wp2_with fail
  have gl := HH.out.2.2.2.2
  have F0 : Hid (R4 V6 w.heap.size a0 a1 a2 a3 ∧ R4 V6 cz 0 0 0 0 ∧ Below w.heap.size w V6 ∧ V6.heap[g]? = V6.heap[g]? ∧ V6.heap.size ≤ V6.heap.size ∧ ∃ p0 p1 p2 p3 : Int, Ws (q L) p0 p1 p2 p3 ∧ R4 V6 co p0 p1 p2 p3) := Lib.hid ⟨HH.out.1, HH.out.2.1, HH.out.2.2.1, rfl, Nat.le_refl _, 0, 1, 0, 0, q0.out, HH.out.2.2.2.1⟩
  have Hc := Lib.hid (And.intro hc (And.intro hd (And.intro ha (And.intro hz (And.intro gne gl)))))
  clear HH hc hd ha hz gne gl q0
  go_loopg [7] L (fun gh z wr => ∃ v : Int, z = .int .i64 v ∧ v = (gh : Int) - 1 ∧ gh ≤ L ∧ Hid (R4 wr w.heap.size a0 a1 a2 a3 ∧ R4 wr cz 0 0 0 0 ∧ Below w.heap.size w wr ∧ wr.heap[g]? = V6.heap[g]? ∧ V6.heap.size ≤ wr.heap.size ∧ ∃ p0 p1 p2 p3 : Int, Ws (q gh) p0 p1 p2 p3 ∧ R4 wr co p0 p1 p2 p3))
  case atStart => exact ⟨_, rfl, rfl, Nat.le_refl _, F0⟩
  case round =>
    obtain ⟨v, rfl, hv, hle, F⟩ := hrel
    clear F0 w1
    rcases gk with _ | j
    · obtain rfl : v = -1 := by omega
      clear hv hle
      obtain ⟨FA, FZ, FB, FG, FS, p0, p1, p2, p3, hq, FO⟩ := F.out
      have HQ := Lib.hid hq
      have HR := Lib.hid (R4.put (p' := p0) (q' := p1) (r' := p2) (s' := p3) FZ)
      have HB : Hid (Below w.heap.size w ((((wr.setCell ⟨cz, 0, none⟩ (.int .u64 p0)).setCell ⟨cz, 1, none⟩ (.int .u64 p1)).setCell ⟨cz, 2, none⟩ (.int .u64 p2)).setCell ⟨cz, 3, none⟩ (.int .u64 p3))) := Lib.hid (below_putR4 FB Hc.out.1)
      obtain ⟨x1, x2, x3, x4⟩ := FO.cells
      obtain ⟨y1, y2, y3, y4⟩ := FZ.cells
      obtain ⟨f1, f2, f3, f4⟩ := FZ.free
      clear F FA FZ FB FG FS hq FO T1 T2 E CE
      go_wp2_with fail
      generalize World.setCell (World.setCell (World.setCell (World.setCell wr _ _) _ _) _ _) _ _ = V9 at HR HB ⊢
      obtain ⟨r1, r2, r3, r4⟩ := HR.out.cells
      try simp only [Exit.inBlock, Exit.then, Exit.noGoto]
      refine bodyPost_ret (by simp [results, Try.results17, go_sem, r1, r2, r3, r4]; try rfl) rfl ?_
      exact ⟨p0, p1, p2, p3, HQ.out, rfl, HB.out⟩
    · obtain rfl : v = (j : Int) := by omega
      clear hv
      obtain ⟨FA, FZ, FB, FG, FS, p0, p1, p2, p3, hq, FO⟩ := F.out
      obtain ⟨o0, o1, o2, o3, ho, TT⟩ := T1.out j p0 p1 p2 p3 hq
      have HT := Lib.hid TT
      have HO := Lib.hid ho
      have jM : j < M := by omega
      have K1 := Lib.hid (And.intro FA (And.intro FZ (And.intro FB (And.intro FG (And.intro FS FO)))))
      obtain ⟨x1, x2, x3, x4⟩ := FO.cells
      have k0 : (j : Int) ≥ 0 := by omega
      have kM : (j : Int) < (M : Int) := by omega
      have k1000 : j ≤ 1000 := by omega
      have w1 : IntKind.i64.wrap ((j : Int) - 1) = (j : Int) - 1 := by rw [IntKind.wrap_i64]; omega
      clear F FA FZ FB FG FS hq FO TT ho
      go_wp2_with fail
      refine (HT.out _).mono ?_
      rintro e W7 ⟨rfl, hb⟩
      clear x1 x2 x3 x4 HT
      have G7 : W7.heap[g]? = V6.heap[g]? := (hb.block g (Nat.lt_of_lt_of_le Hc.out.2.2.2.2.2 K1.out.2.2.2.2.1)).trans K1.out.2.2.2.1
      have K2 := Lib.hid (And.intro (K1.out.1.below hb) (And.intro (K1.out.2.1.below hb) (And.intro (below_then K1.out.2.2.1 hb) (And.intro G7 (And.intro (Nat.le_trans K1.out.2.2.2.2.1 hb.size) (K1.out.2.2.2.2.2.below hb))))))
      clear K1 G7 hb
      have P1 := Lib.hid (R4.put (p' := o0) (q' := o1) (r' := o2) (s' := o3) K2.out.2.2.2.2.2)
      have P2 := Lib.hid (R4.far4 (x := co) (p' := o0) (q' := o1) (r' := o2) (s' := o3) K2.out.1 Hc.out.2.2.1)
      have P3 := Lib.hid (R4.far4 (x := co) (p' := o0) (q' := o1) (r' := o2) (s' := o3) K2.out.2.1 Hc.out.2.2.2.1)
      have P4 : Hid (Below w.heap.size w ((((W7.setCell ⟨co, 0, none⟩ (.int .u64 o0)).setCell ⟨co, 1, none⟩ (.int .u64 o1)).setCell ⟨co, 2, none⟩ (.int .u64 o2)).setCell ⟨co, 3, none⟩ (.int .u64 o3))) := Lib.hid (below_putR4 K2.out.2.2.1 Hc.out.2.1)
      have P5 : Hid (((((W7.setCell ⟨co, 0, none⟩ (.int .u64 o0)).setCell ⟨co, 1, none⟩ (.int .u64 o1)).setCell ⟨co, 2, none⟩ (.int .u64 o2)).setCell ⟨co, 3, none⟩ (.int .u64 o3)).heap[g]? = V6.heap[g]?) := Lib.hid ((far_block4 Hc.out.2.2.2.2.1).trans K2.out.2.2.2.1)
      have P6 : Hid (V6.heap.size ≤ ((((W7.setCell ⟨co, 0, none⟩ (.int .u64 o0)).setCell ⟨co, 1, none⟩ (.int .u64 o1)).setCell ⟨co, 2, none⟩ (.int .u64 o2)).setCell ⟨co, 3, none⟩ (.int .u64 o3)).heap.size) := Lib.hid (by rw [size_put4]; exact K2.out.2.2.2.2.1)
      obtain ⟨x1, x2, x3, x4⟩ := K2.out.2.2.2.2.2.cells
      obtain ⟨f1, f2, f3, f4⟩ := K2.out.2.2.2.2.2.free
      clear K2
      go_upto_region 7 with fail
      clear x1 x2 x3 x4 f1 f2 f3 f4
      generalize World.setCell (World.setCell (World.setCell (World.setCell W7 _ _) _ _) _ _) _ _ = V7 at P1 P2 P3 P4 P5 P6 ⊢
      have cg : V7.cell? ⟨g, j, none⟩ = some (.int .i64 (xs.getD j 0)) := (cell_same P5.out j).trans (CE.out j jM)
      have EJ := Lib.hid (E.out j jM)
      have TJ := Lib.hid (fun p0 p1 p2 p3 hw => T2.out j p0 p1 p2 p3 hw jM)
      generalize xs.getD j 0 = y at cg EJ TJ
      by_cases hy : y = 1
      · have hyb : (y == 1) = true := by simpa using hy
        obtain ⟨u0, u1, u2, u3, hu, TT⟩ := TJ.out o0 o1 o2 o3 HO.out hy
        have HT := Lib.hid TT
        have HU := Lib.hid hu
        obtain ⟨x1, x2, x3, x4⟩ := P1.out.cells
        obtain ⟨y1, y2, y3, y4⟩ := P2.out.cells
        clear hy EJ TJ TT hu HO
        go_wp2_with fail
        refine (HT.out _).mono ?_
        rintro e W8 ⟨rfl, hb⟩
        clear x1 x2 x3 x4 y1 y2 y3 y4 HT cg hyb
        have G8 : W8.heap[g]? = V6.heap[g]? := (hb.block g (Nat.lt_of_lt_of_le Hc.out.2.2.2.2.2 P6.out)).trans P5.out
        have K2 := Lib.hid (And.intro (P2.out.below hb) (And.intro (P3.out.below hb) (And.intro (below_then P4.out hb) (And.intro G8 (And.intro (Nat.le_trans P6.out hb.size) (P1.out.below hb))))))
        clear P1 P2 P3 P4 P5 P6 G8 hb
        obtain ⟨x1, x2, x3, x4⟩ := K2.out.2.2.2.2.2.cells
        obtain ⟨f1, f2, f3, f4⟩ := K2.out.2.2.2.2.2.free
        go_wp2_with fail
        go_roundg j
        case measure => omega
        case rel => exact ⟨_, rfl, by go_num, by omega, Lib.hid ⟨R4.far4 K2.out.1 Hc.out.2.2.1, R4.far4 K2.out.2.1 Hc.out.2.2.2.1, below_putR4 K2.out.2.2.1 Hc.out.2.1, (far_block4 Hc.out.2.2.2.2.1).trans K2.out.2.2.2.1, by rw [size_put4]; exact K2.out.2.2.2.2.1, _, _, _, _, HU.out, R4.put K2.out.2.2.2.2.2⟩⟩
      · have hyb : (y == 1) = false := by simpa using hy
        have HU : Hid (Ws (q j) o0 o1 o2 o3) := Lib.hid (by rw [← EJ.out hy]; exact HO.out)
        clear hy EJ TJ HO
        go_wp2_with fail
        go_roundg j
        case measure => omega
        case rel => exact ⟨_, rfl, by go_num, by omega, Lib.hid ⟨P2.out, P3.out, P4.out, P5.out, P6.out, _, _, _, _, HU.out, P1.out⟩⟩
theorem len_ex {n : Nat} (h : n < Q) : ∃ L : Nat, Wd.lenN (n : Int) = (L : Int) ∧ L ≤ 128 ∧ n / 2 ^ L = 0 := by
  by_cases h0 : n = 0
  · subst h0
    exact ⟨0, Wd.len_zero, by decide, by decide⟩
  · obtain ⟨a, b, c, d⟩ := Wd.len_spec (n : Int) (rng_nat h) (by omega)
    refine ⟨(Wd.lenN (n : Int)).toNat, by omega, by omega, ?_⟩
    have : n < 2 ^ (Wd.lenN (n : Int)).toNat := by exact_mod_cast c
    exact Nat.div_eq_of_lt this
theorem bit_is {n : Nat} (h : n < Q) (j : Nat) (hj : j < 128) : (Wd.bits128 (n : Int)).getD j 0 = ((n / 2 ^ j % 2 : Nat) : Int) := by
  rw [Wd.getD_leB _ (Wd.bits128_bits _) (n : Int) (Wd.bits128_val _ (rng_nat h)) j (by rw [Wd.bits128_length]; exact hj)]
  rw [Int.natCast_emod, Int.natCast_ediv, Int.natCast_pow]
  rfl
theorem yPowerM (m : Mp) (hm : m.Ok) {n : Nat} (hn : n < Q) : TM 17 #[m.val, .agg #[.int .u64 ((hiW n : Nat) : Int), .int .u64 ((loW n : Nat) : Int)]] ((hiW (powM m n).A : Nat) : Int) ((loW (powM m n).A : Nat) : Int) ((hiW (powM m n).C : Nat) : Int) ((loW (powM m n).C : Nat) : Int) := fun w => by
  obtain ⟨L, hL, L1, L2⟩ := len_ex hn
  have PD := fun j => pow_down hm n j
  have R := powerMain _ _ _ _ _ _ L 128 (Wd.bits128 (n : Int)) (fun j => powM m (n / 2 ^ j)) (fun j => thenM (powM m (n / 2 ^ (j + 1))) (powM m (n / 2 ^ (j + 1)))) w
    (Lib.hid fun W => by
      have q := Wd.rListN (n : Int) _ rfl (rng_nat hn) W
      simp only [hi_nat, lo_nat] at q
      refine q.mono ?_
      rintro e w' ⟨g, cap, rfl, hg, hlt, hcap, own, hb⟩
      rw [Wd.bits128_length] at hcap ⊢
      refine ⟨g, cap, rfl, hg, hlt, hcap, fun k hk => ?_, hb⟩
      have := Wd.ints_of_owns own k (by rw [Wd.bits128_length]; exact hk)
      rwa [Nat.zero_add] at this)
    (Lib.hid fun W => by
      have q := Wd.rLenN (n : Int) (rng_nat hn) W
      rw [hL] at q
      unfold Wd.NI at q
      simp only [hi_nat, lo_nat] at q
      exact q)
    L1 (Nat.le_refl _)
    (Lib.hid fun j p0 p1 p2 p3 hp => ⟨_, _, _, _, Ws.of _, by
      obtain ⟨rfl, rfl, rfl, rfl⟩ := hp
      exact yThenM _ _ (powM_ok _ _) (powM_ok _ _)⟩)
    (Lib.hid fun j p0 p1 p2 p3 hp hj hb => ⟨_, _, _, _, Ws.of _, by
      obtain ⟨rfl, rfl, rfl, rfl⟩ := hp
      rw [bit_is hn j hj] at hb
      have := yThenM (thenM (powM m (n / 2 ^ (j + 1))) (powM m (n / 2 ^ (j + 1)))) m (thenM_ok _ _) hm
      have e := PD j
      rw [if_pos (show n / 2 ^ j % 2 = 1 by omega)] at e
      rw [← e] at this
      exact this⟩)
    (Lib.hid fun j hj hb => by
      rw [bit_is hn j hj] at hb
      have e := PD j
      rw [if_neg (show ¬ n / 2 ^ j % 2 = 1 by omega)] at e
      exact e.symm)
    (Lib.hid (by
      show Ws (powM m (n / 2 ^ L)) 0 1 0 0
      rw [L2, pow_zero]
      exact ⟨rfl, rfl, rfl, rfl⟩))
  refine R.mono ?_
  rintro e w' ⟨p0, p1, p2, p3, ⟨rfl, rfl, rfl, rfl⟩, rfl, hb⟩
  simp only [Nat.pow_zero, Nat.div_one]
  exact ⟨trivial, hb⟩
end Go.Proofs.Ytfnfjfmkhnofkaa
