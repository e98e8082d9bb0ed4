/-
  A block of four words of any struct; what the reference of layer 10 answers: Own, Word, Step, Jump.
-/
import Derived.Test.YthnmekieanndgaaPcgA
import Derived.Test.YthnmekieanndgaaAffR
namespace Go.Proofs.Ythnmekieanndgaa
open Go.RowKit G
set_option linter.unusedVariables false
set_option maxRecDepth 100000

/-- A block of four words in memory: a struct of type t. -/
def K4 (t : TypeId) (w : World) (b : Nat) (p q r s : Int) : Prop := w.heap[b]? = some (.cells #[.int .u64 p, .int .u64 q, .int .u64 r, .int .u64 s] t (0, 0))
section
variable {t : TypeId} {w w' : World} {b x : Nat} {p q r s p' q' r' s' : Int}
theorem K4.lt (h : K4 t w b p q r s) : b < w.heap.size := (Array.getElem?_eq_some_iff.1 h).1
theorem K4.below (h : K4 t w b p q r s) (hb : Below w.heap.size w w') : K4 t w' b p q r s := (hb.block b h.lt).trans h
theorem K4.new (t : TypeId) (w : World) (p q r s : Int) : K4 t (w.alloc (.cells #[.int .u64 p, .int .u64 q, .int .u64 r, .int .u64 s] t)) w.heap.size p q r s := show (w.heap.push _)[w.heap.size]? = some _ by simp
theorem K4.cells (h : K4 t w b p q r s) : w.cell? ⟨b, 0, none⟩ = some (.int .u64 p) ∧ w.cell? ⟨b, 1, none⟩ = some (.int .u64 q) ∧ w.cell? ⟨b, 2, none⟩ = some (.int .u64 r) ∧ w.cell? ⟨b, 3, none⟩ = some (.int .u64 s) := by
  unfold K4 at h
  refine ⟨?_, ?_, ?_, ?_⟩ <;> simp [World.cell?, h]
theorem K4.free (h : K4 t w b p q r s) : w.frozen? ⟨b, 0, none⟩ = false ∧ w.frozen? ⟨b, 1, none⟩ = false ∧ w.frozen? ⟨b, 2, none⟩ = false ∧ w.frozen? ⟨b, 3, none⟩ = false := by
  unfold K4 at h
  refine ⟨?_, ?_, ?_, ?_⟩ <;> simp [World.frozen?, h]
theorem K4.far (h : K4 t w b p q r s) {a : Addr} (hne : b ≠ a.block) (u : Value) : K4 t (w.setCell a u) b p q r s := (Below.heap_setCell w a u b hne).trans h
theorem K4.far4 (h : K4 t w b p q r s) (hne : b ≠ x) : K4 t ((((w.setCell ⟨x, 0, none⟩ (.int .u64 p')).setCell ⟨x, 1, none⟩ (.int .u64 q')).setCell ⟨x, 2, none⟩ (.int .u64 r')).setCell ⟨x, 3, none⟩ (.int .u64 s')) b p q r s := (((h.far hne _).far hne _).far hne _).far hne _
theorem K4.at (h : K4 t w b p q r s) (i : Nat) (v : Value) : (w.setCell ⟨b, i, none⟩ v).heap[b]? = some (.cells ((#[.int .u64 p, .int .u64 q, .int .u64 r, .int .u64 s] : Array Value).setIfInBounds i v) t (0, 0)) := by
  unfold K4 at h
  simp [World.setCell, Array.getElem?_modify, h]
theorem K4.set0 (h : K4 t w b p q r s) (x : Int) : K4 t (w.setCell ⟨b, 0, none⟩ (.int .u64 x)) b x q r s := (h.at 0 _).trans rfl
theorem K4.set1 (h : K4 t w b p q r s) (x : Int) : K4 t (w.setCell ⟨b, 1, none⟩ (.int .u64 x)) b p x r s := (h.at 1 _).trans rfl
theorem K4.set2 (h : K4 t w b p q r s) (x : Int) : K4 t (w.setCell ⟨b, 2, none⟩ (.int .u64 x)) b p q x s := (h.at 2 _).trans rfl
theorem K4.set3 (h : K4 t w b p q r s) (x : Int) : K4 t (w.setCell ⟨b, 3, none⟩ (.int .u64 x)) b p q r x := (h.at 3 _).trans rfl
theorem K4.put (h : K4 t w x p q r s) : K4 t ((((w.setCell ⟨x, 0, none⟩ (.int .u64 p')).setCell ⟨x, 1, none⟩ (.int .u64 q')).setCell ⟨x, 2, none⟩ (.int .u64 r')).setCell ⟨x, 3, none⟩ (.int .u64 s')) x p' q' r' s' := (((h.set0 p').set1 q').set2 r').set3 s'
theorem below_putK4 {B : Nat} {a : World} (h : Below B a w) (hb : B ≤ x) : Below B a ((((w.setCell ⟨x, 0, none⟩ (.int .u64 p')).setCell ⟨x, 1, none⟩ (.int .u64 q')).setCell ⟨x, 2, none⟩ (.int .u64 r')).setCell ⟨x, 3, none⟩ (.int .u64 s')) := (((h.setCell hb _).setCell hb _).setCell hb _).setCell hb _
end
theorem k4_early {t : TypeId} {w v : World} (hb : Below (w.alloc (.cells #[.int .u64 0, .int .u64 0, .int .u64 0, .int .u64 0] t)).heap.size (w.alloc (.cells #[.int .u64 0, .int .u64 0, .int .u64 0, .int .u64 0] t)) v) : K4 t v w.heap.size 0 0 0 0 := K4.below (K4.new t w 0 0 0 0) hb
set_option maxHeartbeats 4000000 in
theorem yOwnP (a b c d : Int) : TM 11 #[.agg #[.int .u64 a, .int .u64 b, .int .u64 c, .int .u64 d]] a b c d := fun w => by
  have U := K4.new 26 w a b c d
  have z1 : (w.alloc (.cells #[.int .u64 a, .int .u64 b, .int .u64 c, .int .u64 d] 26)).heap.size = w.heap.size + 1 := Array.size_push _
  have L := below_allocs w (.cells #[.int .u64 a, .int .u64 b, .int .u64 c, .int .u64 d] 26)
  have H1 := Lib.hid (And.intro U (And.intro z1 L))
  clear U z1 L
  go_enter Try.func11, Try.ntmps11
  go_upto_region 1 with fail
  generalize w.alloc _ = V1 at H1 ⊢
  have UX := K4.new 33 V1 0 0 0 0
  rw [H1.out.2.1] at UX
  have LB := below_allocs V1 (.cells #[.int .u64 0, .int .u64 0, .int .u64 0, .int .u64 0] 33)
  have H2 := Lib.hid (And.intro (H1.out.1.below LB) (And.intro UX (below_then H1.out.2.2 LB)))
  clear UX LB H1
  generalize V1.alloc _ = V2 at H2 ⊢
  have hc : w.heap.size ≤ w.heap.size + 1 := Nat.le_succ _
  generalize w.heap.size + 1 = cz at H2 hc ⊢
  have HR := Lib.hid (K4.put (p' := a) (q' := b) (r' := c) (s' := d) H2.out.2.1)
  have HB : Hid (Below w.heap.size w ((((V2.setCell ⟨cz, 0, none⟩ (.int .u64 a)).setCell ⟨cz, 1, none⟩ (.int .u64 b)).setCell ⟨cz, 2, none⟩ (.int .u64 c)).setCell ⟨cz, 3, none⟩ (.int .u64 d))) := Lib.hid (below_putK4 H2.out.2.2 hc)
  obtain ⟨x1, x2, x3, x4⟩ := H2.out.1.cells
  obtain ⟨y1, y2, y3, y4⟩ := H2.out.2.1.cells
  obtain ⟨f1, f2, f3, f4⟩ := H2.out.2.1.free
  clear H2
  go_wp2_with fail
  generalize World.setCell (World.setCell (World.setCell (World.setCell V2 _ _) _ _) _ _) _ _ = V9 at HR HB ⊢
  obtain ⟨r1, r2, r3, r4⟩ := HR.out.cells
  try simp only [Exit.inBlock, Exit.then, Exit.noGoto]
  refine bodyPost_ret (by simp [results, Try.results11, go_sem, r1, r2, r3, r4]; try rfl) rfl ?_
  exact ⟨rfl, HB.out⟩
/-- The reference's word, of words that are Nats. -/
def wordN (h l : Nat) : Nat :=
  let h1 := (h ^^^ h / 2 ^ 32) * fac % 18446744073709551616
  (h1 ^^^ h1 / 2 ^ 48) * (l ||| 1) % 18446744073709551616
theorem or_one (l : Nat) : l ||| 1 = if l % 2 = 0 then l + 1 else l := by
  have h1 : (l ||| 1) % 2 = 1 := by
    rw [Nat.or_mod_two_eq_one]
    exact Or.inr rfl
  have h2 : (l ||| 1) / 2 = l / 2 := by
    rw [Nat.or_div_two]
    simp
  by_cases e : l % 2 = 0
  · rw [if_pos e]; omega
  · rw [if_neg e]; omega
theorem shl (k h : Nat) (hh : h < 18446744073709551616) : bits .xor .u64 (h : Int) ((h : Int) / 2 ^ k) = ((h ^^^ h / 2 ^ k : Nat) : Int) := by
  rw [div_int, xor_int _ _ hh (Nat.lt_of_le_of_lt (Nat.div_le_self _ _) hh)]
set_option maxHeartbeats 4000000 in
theorem yWordN (h l : Nat) (c d : Int) (hh : h < 18446744073709551616) (hl : l < 18446744073709551616) (w : World) :
    Calls Try.prog 10 #[.agg #[.int .u64 (h : Int), .int .u64 (l : Int), .int .u64 c, .int .u64 d]] w (fun e w' => e = .returned (.int .u64 ((wordN h l : Nat) : Int)) ∧ Below w.heap.size w w') := by
  have e1 := shl 32 h hh
  rw [show (2 : Int) ^ 32 = 4294967296 from rfl] at e1
  have x1 : h ^^^ h / 2 ^ 32 < 18446744073709551616 := Nat.xor_lt_two_pow (n := 64) hh (Nat.lt_of_le_of_lt (Nat.div_le_self _ _) hh)
  obtain ⟨g, hg⟩ : ∃ g, (h ^^^ h / 2 ^ 32) * fac % 18446744073709551616 = g := ⟨_, rfl⟩
  have g1 : g < 18446744073709551616 := by rw [← hg]; exact Nat.mod_lt _ (by decide)
  have e2 := shl 48 g g1
  rw [show (2 : Int) ^ 48 = 281474976710656 from rfl] at e2
  have e3 : IntKind.u64.wrap (((h ^^^ h / 2 ^ 32 : Nat) : Int) * 15750249268501108917) = (g : Int) := by rw [IntKind.wrap_u64, ← hg, Int.natCast_emod, Int.natCast_mul]; rfl
  obtain ⟨k, hk⟩ : ∃ k, g ^^^ g / 2 ^ 48 = k := ⟨_, rfl⟩
  rw [hk] at e2
  have hw : wordN h l = k * (l ||| 1) % 18446744073709551616 := by
    show ((h ^^^ h / 2 ^ 32) * fac % 18446744073709551616 ^^^ (h ^^^ h / 2 ^ 32) * fac % 18446744073709551616 / 2 ^ 48) * (l ||| 1) % 18446744073709551616 = _
    rw [hg, hk]
  have HW : Hid (IntKind.u64.wrap ((k : Int) * ((l ||| 1 : Nat) : Int)) = ((wordN h l : Nat) : Int)) := Lib.hid (by rw [hw, IntKind.wrap_u64, Int.natCast_emod, Int.natCast_mul]; rfl)
  clear hw hk hg
  generalize h ^^^ h / 2 ^ 32 = x at e1 e3 x1
  have ho := or_one l
  obtain ⟨o, hO⟩ : ∃ o, l ||| 1 = o := ⟨_, rfl⟩
  rw [hO] at HW ho
  clear hO
  generalize wordN h l = W0 at HW ⊢
  have U := K4.new 33 w h l c d
  have LB := below_allocs w (.cells #[.int .u64 (h : Int), .int .u64 (l : Int), .int .u64 c, .int .u64 d] 33)
  go_enter Try.func10, Try.ntmps10
  go_upto_region 1 with fail
  have HK := Lib.hid (And.intro U LB)
  clear U LB
  generalize w.alloc _ = V1 at HK ⊢
  obtain ⟨x1, x2, x3, x4⟩ := HK.out.1.cells
  have hm : (l : Int) % 2 = ((l % 2 : Nat) : Int) := by omega
  by_cases e : l % 2 = 0
  · rw [if_pos e] at ho
    rw [e] at hm
    have HWo := HW.out
    rw [show (o : Int) = (l : Int) + 1 by omega] at HWo
    go_wp2
    go_ret
    exact ⟨rfl, HK.out.2⟩
  · rw [if_neg e] at ho
    subst ho
    have hm1 : (o : Int) % 2 = 1 := by omega
    have HWo := HW.out
    clear hm
    go_wp2
    go_ret
    exact ⟨rfl, HK.out.2⟩
end Go.Proofs.Ythnmekieanndgaa
