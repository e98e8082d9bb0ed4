/-
  Philox4x32-10: blocks of four words of 32 bits, rounds both ways, rounds in parts. Plain mathematics; nothing of the program.
-/
import Derived.Test.YtdmoedjjbhkdmaaRows
namespace Go.Proofs.Ytdmoedjjbhkdmaa
set_option linter.unusedVariables false

structure Bk where
  a : Nat
  b : Nat
  c : Nat
  d : Nat
structure Bk.Ok (x : Bk) : Prop where
  a : x.a < 4294967296
  b : x.b < 4294967296
  c : x.c < 4294967296
  d : x.d < 4294967296
theorem Bk.same {x y : Bk} (h1 : x.a = y.a) (h2 : x.b = y.b) (h3 : x.c = y.c) (h4 : x.d = y.d) : x = y := by
  obtain ⟨a, b, c, d⟩ := x
  obtain ⟨e, f, g, h⟩ := y
  obtain rfl : a = e := h1
  obtain rfl : b = f := h2
  obtain rfl : c = g := h3
  obtain rfl : d = h := h4
  rfl
structure Ky where
  k : Nat
  m : Nat
structure Ky.Ok (x : Ky) : Prop where
  k : x.k < 4294967296
  m : x.m < 4294967296
def Bk.zero : Bk := ⟨0, 0, 0, 0⟩
def Ky.zero : Ky := ⟨0, 0⟩
/-- A word times a factor: what goes over, and what stays. -/
def hiF (x f : Nat) : Nat := x * f / 4294967296
def loF (x f : Nat) : Nat := x * f % 4294967296
theorem hiF_lt {x f : Nat} (h : x < 4294967296) (hf : f < 4294967296) : hiF x f < 4294967296 := by
  unfold hiF
  rw [Nat.div_lt_iff_lt_mul (by decide)]
  exact Nat.mul_lt_mul'' h hf
theorem loF_lt (x f : Nat) : loF x f < 4294967296 := Nat.mod_lt _ (by decide)
/-- What undoes a factor, modulo 2^32. -/
theorem loF_back {x f u : Nat} (hx : x < 4294967296) (h : f * u % 4294967296 = 1) : loF (loF x f) u = x := by
  unfold loF
  rw [Nat.mod_mul_mod, Nat.mul_assoc, ← Nat.mul_mod_mod, h, Nat.mul_one, Nat.mod_eq_of_lt hx]
theorem xor3_lt {x y z : Nat} (hx : x < 4294967296) (hy : y < 4294967296) (hz : z < 4294967296) : x ^^^ y ^^^ z < 4294967296 := Nat.xor_lt_two_pow (n := 32) (Nat.xor_lt_two_pow (n := 32) hx hy) hz
theorem xor3_back (x y z : Nat) : x ^^^ (x ^^^ y ^^^ z) ^^^ z = y := by
  rw [← Nat.xor_assoc, ← Nat.xor_assoc, Nat.xor_self, Nat.zero_xor, Nat.xor_assoc, Nat.xor_self, Nat.xor_zero]
abbrev f1 : Nat := 3528531795
abbrev f2 : Nat := 3449720151
abbrev u1 : Nat := 2568649947
abbrev u2 : Nat := 1836887655
def roundB (x : Bk) (k : Ky) : Bk := ⟨hiF x.c f2 ^^^ x.b ^^^ k.k, loF x.c f2, hiF x.a f1 ^^^ x.d ^^^ k.m, loF x.a f1⟩
def unroundB (x : Bk) (k : Ky) : Bk := ⟨loF x.d u1, hiF (loF x.b u2) f2 ^^^ x.a ^^^ k.k, loF x.b u2, hiF (loF x.d u1) f1 ^^^ x.c ^^^ k.m⟩
def nextK (k : Ky) : Ky := ⟨(k.k + 2654435769) % 4294967296, (k.m + 3144134277) % 4294967296⟩
theorem roundB_ok {x : Bk} {k : Ky} (h : x.Ok) (hk : k.Ok) : (roundB x k).Ok := ⟨xor3_lt (hiF_lt h.c (by decide)) h.b hk.k, loF_lt _ _, xor3_lt (hiF_lt h.a (by decide)) h.d hk.m, loF_lt _ _⟩
theorem unroundB_ok {x : Bk} {k : Ky} (h : x.Ok) (hk : k.Ok) : (unroundB x k).Ok := ⟨loF_lt _ _, xor3_lt (hiF_lt (loF_lt _ _) (by decide)) h.a hk.k, loF_lt _ _, xor3_lt (hiF_lt (loF_lt _ _) (by decide)) h.c hk.m⟩
theorem nextK_ok (k : Ky) : (nextK k).Ok := ⟨Nat.mod_lt _ (by decide), Nat.mod_lt _ (by decide)⟩
theorem unround_round {x : Bk} (h : x.Ok) (k : Ky) : unroundB (roundB x k) k = x := by
  have ea : loF (loF x.a f1) u1 = x.a := loF_back h.a (by decide)
  have ec : loF (loF x.c f2) u2 = x.c := loF_back h.c (by decide)
  refine Bk.same ?_ ?_ ?_ ?_
  · exact ea
  · show hiF (loF (loF x.c f2) u2) f2 ^^^ (hiF x.c f2 ^^^ x.b ^^^ k.k) ^^^ k.k = x.b
    rw [ec, xor3_back]
  · exact ec
  · show hiF (loF (loF x.a f1) u1) f1 ^^^ (hiF x.a f1 ^^^ x.d ^^^ k.m) ^^^ k.m = x.d
    rw [ea, xor3_back]
theorem round_unround {x : Bk} (h : x.Ok) (k : Ky) : roundB (unroundB x k) k = x := by
  have eb : loF (loF x.b u2) f2 = x.b := loF_back h.b (by decide)
  have ed : loF (loF x.d u1) f1 = x.d := loF_back h.d (by decide)
  refine Bk.same ?_ ?_ ?_ ?_
  · show hiF (loF x.b u2) f2 ^^^ (hiF (loF x.b u2) f2 ^^^ x.a ^^^ k.k) ^^^ k.k = x.a
    rw [xor3_back]
  · exact eb
  · show hiF (loF x.d u1) f1 ^^^ (hiF (loF x.d u1) f1 ^^^ x.c ^^^ k.m) ^^^ k.m = x.c
    rw [xor3_back]
  · exact ed
/-- So many keys on, so many rounds, and so many undone. -/
def iterK (k : Ky) : Nat → Ky
  | 0 => k
  | n + 1 => nextK (iterK k n)
def mixB (x : Bk) (k : Ky) : Nat → Bk
  | 0 => x
  | n + 1 => roundB (mixB x k n) (iterK k n)
def unmixB (x : Bk) (k : Ky) : Nat → Bk
  | 0 => x
  | n + 1 => unmixB (unroundB x (iterK k n)) k n
theorem iterK_ok {k : Ky} (h : k.Ok) : ∀ n, (iterK k n).Ok
  | 0 => h
  | n + 1 => nextK_ok _
theorem mixB_ok {x : Bk} {k : Ky} (h : x.Ok) (hk : k.Ok) : ∀ n, (mixB x k n).Ok
  | 0 => h
  | n + 1 => roundB_ok (mixB_ok h hk n) (iterK_ok hk n)
theorem unmixB_ok {k : Ky} (hk : k.Ok) : ∀ (n : Nat) {x : Bk}, x.Ok → (unmixB x k n).Ok
  | 0, _, h => h
  | n + 1, _, h => unmixB_ok hk n (unroundB_ok h (iterK_ok hk n))
theorem unmix_mix {x : Bk} {k : Ky} (h : x.Ok) (hk : k.Ok) : ∀ n, unmixB (mixB x k n) k n = x
  | 0 => rfl
  | n + 1 => by
    show unmixB (unroundB (roundB (mixB x k n) (iterK k n)) (iterK k n)) k n = x
    rw [unround_round (mixB_ok h hk n), unmix_mix h hk n]
theorem mix_unmix {k : Ky} (hk : k.Ok) : ∀ (n : Nat) {x : Bk}, x.Ok → mixB (unmixB x k n) k n = x
  | 0, _, _ => rfl
  | n + 1, x, h => by
    show roundB (mixB (unmixB (unroundB x (iterK k n)) k n) k n) (iterK k n) = x
    rw [mix_unmix hk n (unroundB_ok h (iterK_ok hk n)), round_unround h]
theorem iterK_add (k : Ky) (n : Nat) : ∀ m, iterK (iterK k n) m = iterK k (n + m)
  | 0 => rfl
  | m + 1 => by
    show nextK (iterK (iterK k n) m) = nextK (iterK k (n + m))
    rw [iterK_add k n m]
theorem mix_add (x : Bk) (k : Ky) (n : Nat) : ∀ m, mixB (mixB x k n) (iterK k n) m = mixB x k (n + m)
  | 0 => rfl
  | m + 1 => by
    show roundB (mixB (mixB x k n) (iterK k n) m) (iterK (iterK k n) m) = roundB (mixB x k (n + m)) (iterK k (n + m))
    rw [mix_add x k n m, iterK_add]
theorem mix_inj {x y : Bk} {k : Ky} (hx : x.Ok) (hy : y.Ok) (hk : k.Ok) (n : Nat) (e : mixB x k n = mixB y k n) : x = y := by
  rw [← unmix_mix hx hk n, e, unmix_mix hy hk n]
theorem round_inj {x y : Bk} {k : Ky} (hx : x.Ok) (hy : y.Ok) (e : roundB x k = roundB y k) : x = y := by
  rw [← unround_round hx k, e, unround_round hy k]
end Go.Proofs.Ytdmoedjjbhkdmaa
