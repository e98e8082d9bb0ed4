/-
  What half's pair, begins, Block and Number answer.
-/
import Derived.Test.YtdmoedjjbhkdmaaHfR
import Derived.Test.YtdmoedjjbhkdmaaPhXc
import Derived.Maps.OwnOps
namespace Go.Proofs.Ytdmoedjjbhkdmaa
open Go.RowKit G Go.Maps
set_option linter.unusedVariables false
set_option maxRecDepth 100000

abbrev TI (f : FuncId) (args : Array Value) (v : Int) : Prop := ∀ W : World, Calls Try.prog f args W (fun e w' => e = .returned (.int .i64 v) ∧ Below W.heap.size W w')
theorem law_bool : Keyed Try.prog 4 := bool_keyed Try.underlying4
theorem zero_int (w : World) : (zeroValue 3).run Try.prog w = .ok (.int .i64 0) w := by kernel_rfl
set_option maxHeartbeats 2000000 in
theorem xbegins (s : Bool) : TI 28 #[.bool s] (if s then 2 else 0) := fun w => by
  have hmm := @run_makeMap Try.prog
  go_enter Try.func28, Try.ntmps28
  have o1 := World.ownsMap_made (H := Unit) w Try.prog 4 (plainElem Try.prog 3)
  have hB : Below w.heap.size w (w.alloc (.map #[] 0)) := below_allocs w _
  obtain ⟨w2, r1, o2, g1⟩ := o1.update law_bool Try.underlying82 (by unfold maxLen; omega) (keyOf_bool_mk Try.underlying4 false) (plainElem_int Try.underlying3 (a := 0) (q := .i64) (by decide))
  obtain ⟨w3, r2, o3, g2⟩ := o2.update law_bool Try.underlying82 (by unfold maxLen; omega) (keyOf_bool_mk Try.underlying4 true) (plainElem_int Try.underlying3 (a := 2) (q := .i64) (by decide))
  obtain ⟨c, r3, hat, hwc⟩ := o3.lookup_int law_bool Try.underlying82 Try.underlying3 (zero_int _) (keyOf_bool_mk Try.underlying4 s)
  have hv : c = if s then 2 else 0 := by
    cases s
    · change (DataW.lit (Lit.int .i64 0) : DataW Unit) = _ at hat
      cases hat
      rfl
    · change (DataW.lit (Lit.int .i64 2) : DataW Unit) = _ at hat
      cases hat
      rfl
  have hB3 : Below w.heap.size w w3 := (hB.grown g1 hB.size (fun j hj => by cases hj; exact Nat.le_refl _)).grown g2 (Nat.le_trans hB.size g1.size) (fun j hj => by cases hj; exact Nat.le_refl _)
  rw [← hv]
  clear o3 hB hat hwc hv
  go_wp2
  go_ret
  exact ⟨rfl, hB3⟩
set_option maxRecDepth 100000

/-- A block of two words in memory: a number. -/
def Nw (w : World) (b : Nat) (p q : Int) : Prop := w.heap[b]? = some (.cells #[.int .u64 p, .int .u64 q] 24 (0, 0))
section
variable {w w' : World} {b x : Nat} {p q p' q' : Int}
theorem Nw.lt (h : Nw w b p q) : b < w.heap.size := (Array.getElem?_eq_some_iff.1 h).1
theorem Nw.below (h : Nw w b p q) (hb : Below w.heap.size w w') : Nw w' b p q := (hb.block b h.lt).trans h
theorem Nw.new (w : World) (p q : Int) : Nw (w.alloc (.cells #[.int .u64 p, .int .u64 q] 24)) w.heap.size p q := show (w.heap.push _)[w.heap.size]? = some _ by simp
theorem Nw.cells (h : Nw w b p q) : w.cell? ⟨b, 0, none⟩ = some (.int .u64 p) ∧ w.cell? ⟨b, 1, none⟩ = some (.int .u64 q) := by
  unfold Nw at h
  refine ⟨?_, ?_⟩ <;> simp [World.cell?, h]
theorem Nw.free (h : Nw w b p q) : w.frozen? ⟨b, 0, none⟩ = false ∧ w.frozen? ⟨b, 1, none⟩ = false := by
  unfold Nw at h
  refine ⟨?_, ?_⟩ <;> simp [World.frozen?, h]
theorem Nw.far (h : Nw w b p q) {a : Addr} (hne : b ≠ a.block) (u : Value) : Nw (w.setCell a u) b p q := (Below.heap_setCell w a u b hne).trans h
theorem Nw.far2 (h : Nw w b p q) (hne : b ≠ x) (u v : Value) : Nw ((w.setCell ⟨x, 0, none⟩ u).setCell ⟨x, 1, none⟩ v) b p q := (h.far hne _).far hne _
theorem Nw.at (h : Nw w b p q) (i : Nat) (v : Value) : (w.setCell ⟨b, i, none⟩ v).heap[b]? = some (.cells ((#[.int .u64 p, .int .u64 q] : Array Value).setIfInBounds i v) 24 (0, 0)) := by
  unfold Nw at h
  simp [World.setCell, Array.getElem?_modify, h]
theorem Nw.set0 (h : Nw w b p q) (x : Int) : Nw (w.setCell ⟨b, 0, none⟩ (.int .u64 x)) b x q := (h.at 0 _).trans rfl
theorem Nw.set1 (h : Nw w b p q) (x : Int) : Nw (w.setCell ⟨b, 1, none⟩ (.int .u64 x)) b p x := (h.at 1 _).trans rfl
theorem Nw.put (h : Nw w x p q) : Nw ((w.setCell ⟨x, 0, none⟩ (.int .u64 p')).setCell ⟨x, 1, none⟩ (.int .u64 q')) x p' q' := (h.set0 p').set1 q'
theorem below_putNw {B : Nat} {a : World} (h : Below B a w) (hb : B ≤ x) (u v : Value) : Below B a ((w.setCell ⟨x, 0, none⟩ u).setCell ⟨x, 1, none⟩ v) := (h.setCell hb _).setCell hb _
end
set_option maxHeartbeats 2000000 in
theorem xpair (l h : Nat) (hl : l < 4294967296) (hh : h < 4294967296) : TU 29 #[.int .u32 (l : Int), .int .u32 (h : Int)] ((l + 4294967296 * h : Nat) : Int) := fun w => by
  have w1 : IntKind.u64.wrap (h : Int) = (h : Int) := by rw [IntKind.wrap_u64]; omega
  have w2 : IntKind.u64.wrap (l : Int) = (l : Int) := by rw [IntKind.wrap_u64]; omega
  have w3 : IntKind.u64.wrap ((h : Int) * 4294967296) = ((4294967296 * h : Nat) : Int) := by rw [IntKind.wrap_u64]; omega
  have w4 : bits .or .u64 (4294967296 * (h : Int)) (l : Int) = ((l + 4294967296 * h : Nat) : Int) := by
    have := u64_or_nat (4294967296 * h) l (by omega) (by omega)
    rw [show (4294967296 * h ||| l) = 4294967296 * h + l from (Nat.two_pow_add_eq_or_of_lt (i := 32) hl h).symm, Nat.add_comm, Int.natCast_mul] at this
    exact this
  generalize l + 4294967296 * h = r at w4 ⊢
  go_enter Try.func29, Try.ntmps29
  go_wp2
  go_ret
  exact ⟨rfl, Below.refl _ _⟩
set_option maxHeartbeats 4000000 in
theorem xblockMain (p q a b c d : Nat) (hp : Dg p b a) (hq : Dg q d c) (w : World) : Calls Try.prog 18 #[.agg #[.int .u64 (q : Int), .int .u64 (p : Int)]] w (fun e w' => e = .returned (.agg #[.int .u32 (a : Int), .int .u32 (b : Int), .int .u32 (c : Int), .int .u32 (d : Int)]) ∧ Below w.heap.size w w') := by
  obtain ⟨p1, p2, p3, p4, p5, p6, p7, p8⟩ := hp
  obtain ⟨q1, q2, q3, q4, q5, q6, q7, q8⟩ := hq
  have LB := below_allocs w (.cells #[.int .u64 (q : Int), .int .u64 (p : Int)] 24)
  have U := cells_new w (.int .u64 (q : Int)) (.int .u64 (p : Int)) 24
  have z1 : (w.alloc (.cells #[.int .u64 (q : Int), .int .u64 (p : Int)] 24)).heap.size = w.heap.size + 1 := Array.size_push _
  have H1 := Lib.hid (And.intro U (And.intro z1 LB))
  clear U z1 LB
  go_enter Try.func18, Try.ntmps18
  go_upto_region 1 with fail
  generalize w.alloc _ = V1 at H1 ⊢
  have UZ := _root_.Go.Proofs.Ytdmoedjjbhkdmaa.B4.new 47 V1 0 0 0 0
  rw [H1.out.2.1] at UZ
  have LB := below_allocs V1 (.cells #[.int .u32 0, .int .u32 0, .int .u32 0, .int .u32 0] 47)
  have HK := Lib.hid (And.intro (two_below H1.out.1 LB) (And.intro UZ (below_then H1.out.2.2 LB)))
  clear UZ LB H1
  generalize V1.alloc _ = V4 at HK ⊢
  have hc : w.heap.size ≤ w.heap.size + 1 := Nat.le_succ _
  generalize w.heap.size + 1 = cz at HK hc ⊢
  have HR := Lib.hid (B4.put (p' := (a : Int)) (q' := (b : Int)) (r' := (c : Int)) (s' := (d : Int)) HK.out.2.1)
  have HB := Lib.hid (below_put4 HK.out.2.2 hc (.int .u32 (a : Int)) (.int .u32 (b : Int)) (.int .u32 (c : Int)) (.int .u32 (d : Int)))
  obtain ⟨x1, x2⟩ := HK.out.1
  obtain ⟨g1, g2, g3, g4⟩ := HK.out.2.1.cells
  obtain ⟨g5, g6, g7, g8⟩ := HK.out.2.1.free
  clear HK
  have v1 : IntKind.u32.wrap (p : Int) = (a : Int) := by rw [IntKind.wrap_u32]; exact p3
  have v2 : IntKind.u32.wrap (q : Int) = (c : Int) := by rw [IntKind.wrap_u32]; exact q3
  have v3 : IntKind.u32.wrap (b : Int) = (b : Int) := by rw [IntKind.wrap_u32]; exact p7
  have v4 : IntKind.u32.wrap (d : Int) = (d : Int) := by rw [IntKind.wrap_u32]; exact q7
  go_wp2_with fail
  generalize World.setCell (World.setCell (World.setCell (World.setCell V4 _ _) _ _) _ _) _ _ = V9 at HR HB ⊢
  obtain ⟨r1, r2, r3, r4⟩ := HR.out.cells
  try simp only [Exit.inBlock, Exit.then, Exit.noGoto]
  refine bodyPost_ret (by simp [results, Try.results18, go_sem, r1, r2, r3, r4]; try rfl) rfl ?_
  exact ⟨rfl, HB.out⟩
theorem xBlock (c : Nat) (h : c < 340282366920938463463374607431768211456) : TB 18 #[U c] (blockH c) := fun w => by
  have l1 : loW c < 18446744073709551616 := Nat.mod_lt _ (by decide)
  have l2 : hiW c < 18446744073709551616 := by unfold hiW; omega
  have e : blockH c = ⟨loW c % 4294967296, loW c / 4294967296, hiW c % 4294967296, hiW c / 4294967296⟩ := by
    unfold loW hiW
    refine Bk.same ?_ ?_ ?_ ?_
    · show c % 4294967296 = c % 18446744073709551616 % 4294967296
      omega
    · show c / 4294967296 % 4294967296 = c % 18446744073709551616 / 4294967296
      omega
    · show c / 18446744073709551616 % 4294967296 = c / 18446744073709551616 % 4294967296
      rfl
    · show c / 79228162514264337593543950336 % 4294967296 = c / 18446744073709551616 / 4294967296
      omega
  rw [e]
  exact xblockMain (loW c) (hiW c) _ _ _ _ (dg_of l1) (dg_of l2) w
set_option maxHeartbeats 8000000 in
theorem xnumberMain (a b c d h l : Int) (P1 : Hid (TU 29 #[.int .u32 c, .int .u32 d] h)) (P2 : Hid (TU 29 #[.int .u32 a, .int .u32 b] l)) : TN 23 #[.agg #[.int .u32 a, .int .u32 b, .int .u32 c, .int .u32 d]] h l := fun w => by
  have U := _root_.Go.Proofs.Ytdmoedjjbhkdmaa.B4.new 47 w a b c d
  have z1 : (w.alloc (.cells #[.int .u32 a, .int .u32 b, .int .u32 c, .int .u32 d] 47)).heap.size = w.heap.size + 1 := Array.size_push _
  have L := below_allocs w (.cells #[.int .u32 a, .int .u32 b, .int .u32 c, .int .u32 d] 47)
  have H1 := Lib.hid (And.intro U (And.intro z1 L))
  clear U z1 L
  go_enter Try.func23, Try.ntmps23
  go_upto_region 1 with fail
  generalize w.alloc _ = V1 at H1 ⊢
  have UZ := Nw.new V1 0 0
  rw [H1.out.2.1] at UZ
  have LB := below_allocs V1 (.cells #[.int .u64 0, .int .u64 0] 24)
  have HK := Lib.hid (And.intro (H1.out.1.below LB) UZ)
  have HW := Lib.hid (below_then H1.out.2.2 LB)
  clear UZ LB H1
  generalize V1.alloc _ = V4 at HK HW ⊢
  have hc : w.heap.size ≤ w.heap.size + 1 := Nat.le_succ _
  have n1 : w.heap.size ≠ w.heap.size + 1 := by omega
  generalize w.heap.size + 1 = cz at HK hc n1 ⊢
  have n3 := n1.symm
  obtain ⟨cs, hcs⟩ : ∃ cs, cs = w.heap.size := ⟨_, rfl⟩
  rw [← hcs] at HK n1 n3 ⊢
  clear hcs
  go_cut [] (fun wr => Nw wr cz h l ∧ Below w.heap.size w wr)
  case first =>
    have hX : Below V4.heap.size V4 V4 := Below.refl _ _
    obtain ⟨f00, f01, f02, f03⟩ := (HK.out.1.below hX).cells; have l0 : cs < V4.heap.size := (HK.out.1.below hX).lt; obtain ⟨g0, g1⟩ := (HK.out.2.below hX).cells; obtain ⟨g4, g5⟩ := (HK.out.2.below hX).free; have lz : cz < V4.heap.size := (HK.out.2.below hX).lt
    go_region_held3 (fun w' => w'.cell? ⟨cs, 0, none⟩ = some (.int .u32 a) ∧ w'.cell? ⟨cs, 1, none⟩ = some (.int .u32 b) ∧ w'.cell? ⟨cs, 2, none⟩ = some (.int .u32 c) ∧ w'.cell? ⟨cs, 3, none⟩ = some (.int .u32 d)) (go_keep) (first
      | (go_at_call 29; (first | (with_reducible refine (P1.out _).mono ?_) | (with_reducible refine (P2.out _).mono ?_)); rintro e x0 ⟨rfl, hb⟩; replace hX := below_then (show Below V4.heap.size V4 _ by first | exact hX | exact hX.drew) hb; clear hb; clear f00 f01 f02 f03 l0 g0 g1 g4 g5 lz; obtain ⟨f00, f01, f02, f03⟩ := (HK.out.1.below hX).cells; have l0 : cs < x0.heap.size := (HK.out.1.below hX).lt; obtain ⟨g0, g1⟩ := (HK.out.2.below hX).cells; obtain ⟨g4, g5⟩ := (HK.out.2.below hX).free; have lz : cz < x0.heap.size := (HK.out.2.below hX).lt))
    all_goals
      go_wp2_with fail
      go_meet
      exact ⟨Nw.put (HK.out.2.below hX), below_putNw (below_then HW.out hX) hc _ _⟩
  obtain ⟨HR, HB⟩ := hcut
  obtain ⟨r1, r2⟩ := HR.cells
  go_wp2_with fail
  try simp only [Exit.inBlock, Exit.then, Exit.noGoto]
  refine bodyPost_ret (by simp [results, Try.results23, go_sem, r1, r2]; try rfl) rfl ?_
  exact ⟨rfl, HB⟩
theorem xNumber (b : Bk) (hb : b.Ok) : TN 23 #[b.val] ((hiW (numH b) : Nat) : Int) ((loW (numH b) : Nat) : Int) := by
  obtain ⟨p, q, r, s⟩ := b
  have h1 : p < 4294967296 := hb.a
  have h2 : q < 4294967296 := hb.b
  have h3 : r < 4294967296 := hb.c
  have h4 : s < 4294967296 := hb.d
  have e1 : hiW (numH ⟨p, q, r, s⟩) = r + 4294967296 * s := by
    show (p + 4294967296 * q + 18446744073709551616 * r + 79228162514264337593543950336 * s) / 18446744073709551616 = _
    omega
  have e2 : loW (numH ⟨p, q, r, s⟩) = p + 4294967296 * q := by
    show (p + 4294967296 * q + 18446744073709551616 * r + 79228162514264337593543950336 * s) % 18446744073709551616 = _
    omega
  rw [e1, e2]
  exact xnumberMain _ _ _ _ _ _ (Lib.hid (xpair r s h3 h4)) (Lib.hid (xpair p q h1 h2))
end Go.Proofs.Ytdmoedjjbhkdmaa
