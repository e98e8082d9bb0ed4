/-
  What philox's row answers: rounds in their order, each over the box of its key.
-/
import Derived.Test.YtfockbhicmdehaaPhXc
namespace Go.Proofs.Ytfockbhicmdehaa
open Go.RowKit
set_option linter.unusedVariables false
set_option maxRecDepth 100000

/-- make of a row whose elements are structs of one cell. -/
theorem run_make_one {P : Program} (t e : TypeId) (z z1 : Value) (bytes : Nat) (ht : P.underlying t = some (.slice e)) (hinfo : (P.info? e).map (fun i => (i.zero, i.size, i.bytes)) = some (some z, 1, bytes)) (hz1 : z.cells = #[z1])
    (kl kc : IntKind) (n : Nat) (hbytes : bytes * n ≤ 281474976710656) (h63 : n ≤ 9223372036854775807) (w : World) :
    (Instr.makeSlice t (.int kl (n : Int)) (.int kc (n : Int))).run P w = .ok (.slice (some ⟨w.heap.size, 0, none⟩) n n) (w.alloc (.cells (madeCells #[z1] n) e)) := by
  obtain ⟨i, hi, hzz⟩ := Option.map_eq_some_iff.1 hinfo
  simp only [Prod.mk.injEq] at hzz
  obtain ⟨hz, hs, hb⟩ := hzz
  have hb' : (i.bytes : Int) * (n : Int) ≤ 281474976710656 := by
    rw [← Int.natCast_mul, hb]
    omega
  have hr := run_make (P := P) w t e i z ht hi hz kl kc n n (by omega) (Int.le_refl _) hb' (by omega)
  simp only [Int.toNat_natCast, hs, Nat.mul_one, hz1] at hr
  exact hr
/-- A row of n rounds at g; the first j are over boxes of their keys, which lie above it. -/
def RowU (g : Nat) (k : Ky) (n j : Nat) (w : World) : Prop := ∃ f : Nat → Value, w.rowIs g 48 n f ∧ ∀ i, i < j → ∃ o, f i = uf o ∧ g < o ∧ B2 26 w o (iterK k i).k (iterK k i).m
theorem RowU.start (w : World) (k : Ky) (n : Nat) : RowU w.heap.size k n 0 (w.alloc (.cells (madeCells #[.nilFunc] n) 48)) := ⟨_, World.rowIs_made w _ n _, fun i hi => by omega⟩
theorem RowU.lt {g n j : Nat} {k : Ky} {w : World} (h : RowU g k n j w) : g < w.heap.size := h.choose_spec.1.lt
theorem RowU.below {g n j : Nat} {k : Ky} {w w' : World} (h : RowU g k n j w) (hb : Below w.heap.size w w') : RowU g k n j w' := by
  obtain ⟨f, hf, ho⟩ := h
  refine ⟨f, hf.of_block (hb.block g hf.lt), fun i hi => ?_⟩
  obtain ⟨o, e, ho, hk⟩ := ho i hi
  exact ⟨o, e, ho, hk.below hb⟩
theorem RowU.set {g n j : Nat} {k : Ky} {w : World} (h : RowU g k n j w) (o : Nat) (ho : g < o) (hk : B2 26 w o (iterK k j).k (iterK k j).m) : RowU g k n (j + 1) (w.setCell ⟨g, j, none⟩ (uf o)) := by
  obtain ⟨f, hf, hi⟩ := h
  refine ⟨_, hf.set j (uf o), fun i hj => ?_⟩
  by_cases e : i = j
  · rw [e]
    exact ⟨o, if_pos rfl, ho, hk.far (a := ⟨g, j, none⟩) (Nat.ne_of_gt ho) _⟩
  · obtain ⟨o', e', ho', hk'⟩ := hi i (by omega)
    exact ⟨o', by rw [← e']; exact if_neg e, ho', hk'.far (a := ⟨g, j, none⟩) (Nat.ne_of_gt ho') _⟩
theorem RowU.far {g n j : Nat} {k : Ky} {w : World} (h : RowU g k n j w) (a : Addr) (ha : a.block < g) (u : Value) : RowU g k n j (w.setCell a u) := by
  obtain ⟨f, hf, ho⟩ := h
  refine ⟨f, hf.setOther (Nat.ne_of_gt ha) u, fun i hi => ?_⟩
  obtain ⟨o, e, ho, hk⟩ := ho i hi
  exact ⟨o, e, ho, hk.far (Nat.ne_of_gt (Nat.lt_trans ha ho)) u⟩
theorem RowU.cell {g n j : Nat} {k : Ky} {w : World} (h : RowU g k n j w) (i : Nat) (hi : i < n) : ∃ v, w.cell? ⟨g, i, none⟩ = some v ∧ w.frozen? ⟨g, i, none⟩ = false := by
  obtain ⟨f, hf, ho⟩ := h
  exact ⟨_, hf.cell hi, hf.frozen i⟩
theorem RowU.over {g n j : Nat} {k : Ky} {w : World} (h : RowU g k n j w) (i : Nat) (hi : i < n) (hj : i < j) : ∃ o, w.cell? ⟨g, i, none⟩ = some (uf o) ∧ B2 26 w o (iterK k i).k (iterK k i).m := by
  obtain ⟨f, hf, ho⟩ := h
  obtain ⟨o, e, _, hk⟩ := ho i hj
  exact ⟨o, by rw [← e]; exact hf.cell hi, hk⟩
/-- What row has done so far. -/
def RwSt (w0 : World) (cb g : Nat) (k : Ky) (n j : Nat) (l : Ky) (w : World) : Prop := B2 26 w cb l.k l.m ∧ RowU g k n j w ∧ Below w0.heap.size w0 w
theorem RwSt.next {w0 wr w : World} {cb g n j o : Nat} {k l l' : Ky} (h : RwSt w0 cb g k n j l wr) (hl : l = iterK k j) (hb : Below wr.heap.size wr w) (hc : w0.heap.size ≤ cb) (hg : cb < g) (ho : wr.heap.size ≤ o) (hk : B2 26 w o l.k l.m) :
    RwSt w0 cb g k n (j + 1) l' (((w.setCell ⟨g, j, none⟩ (uf o)).setCell ⟨cb, 0, none⟩ (.int .u32 (l'.k : Int))).setCell ⟨cb, 1, none⟩ (.int .u32 (l'.m : Int))) := by
  subst hl
  obtain ⟨h1, h2, h3⟩ := h
  have hgo : g < o := Nat.lt_of_lt_of_le h2.lt ho
  have h1' := h1.below hb
  have h2' := h2.below hb
  have h3' := below_then h3 hb
  have q1 : B2 26 (w.setCell ⟨g, j, none⟩ (uf o)) cb (iterK k j).k (iterK k j).m := h1'.far (a := ⟨g, j, none⟩) (Nat.ne_of_lt hg) _
  have q2 := h2'.set o hgo hk
  have q3 : Below w0.heap.size w0 (w.setCell ⟨g, j, none⟩ (uf o)) := h3'.setCell (show w0.heap.size ≤ g by omega) _
  exact ⟨B2.put q1, (q2.far ⟨cb, 0, none⟩ hg _).far ⟨cb, 1, none⟩ hg _, below_put2 q3 hc _ _⟩
/-- What row answers. -/
def RowP (k : Ky) (n : Nat) (w : World) (e : Ending) (w' : World) : Prop := ∃ g : Nat, e = .returned (.slice (some ⟨g, 0, none⟩) n n) ∧ RowU g k n n w' ∧ w.heap.size ≤ g ∧ Below w.heap.size w w'
theorem infoR : (Try.prog.info? 48).map (fun i => (i.zero, i.size, i.bytes)) = some (some (.agg #[.nilFunc]), 1, 8) := by kernel_rfl
set_option maxHeartbeats 8000000 in
theorem xRow (k : Ky) (hk : k.Ok) (n : Nat) (hn : n ≤ 100) (w : World) : Calls Try.prog 19 #[k.val, .int .i64 (n : Int)] w (RowP k n w) := by
  have hmk := run_make_one (P := Try.prog) 44 48 _ _ 8 Try.underlying44 infoR rfl .i64 .i64 n (by omega) (by omega)
  have U := B2.new 26 w k.k k.m
  have z1 : (w.alloc (.cells #[.int .u32 (k.k : Int), .int .u32 (k.m : Int)] 26)).heap.size = w.heap.size + 1 := Array.size_push _
  have L := below_allocs w (.cells #[.int .u32 (k.k : Int), .int .u32 (k.m : Int)] 26)
  have H1 := Lib.hid (And.intro U (And.intro z1 L))
  clear U z1 L
  go_enter Try.func19, Try.ntmps19
  go_upto_region 1 with fail
  generalize w.alloc _ = V1 at H1 ⊢
  go_upto_region 2 with fail
  clear hmk
  have UZ := RowU.start V1 k n
  rw [H1.out.2.1] at UZ ⊢
  have LB := below_allocs V1 (.cells (madeCells #[.nilFunc] n) 48)
  have HK : Hid (RwSt w w.heap.size (w.heap.size + 1) k n 0 k _) := Lib.hid ⟨H1.out.1.below LB, UZ, below_then H1.out.2.2 LB⟩
  clear UZ LB H1
  generalize V1.alloc _ = V4 at HK ⊢
  have hg : w.heap.size < w.heap.size + 1 := Nat.lt_succ_self _
  generalize w.heap.size + 1 = g at HK hg ⊢
  have hc : w.heap.size ≤ w.heap.size := Nat.le_refl _
  obtain ⟨cb, hcb⟩ : ∃ c, c = w.heap.size := ⟨_, rfl⟩
  have hc : w.heap.size ≤ cb := by omega
  rw [← hcb] at HK hg ⊢
  clear hcb
  go_wp2_with fail
  go_loopg [11] n (fun gh z wr => ∃ (j : Nat) (l : Ky), j + gh = n ∧ z = .int .i64 (j : Int) ∧ Hid (l = iterK k j) ∧ Hid (RwSt w cb g k n j l wr))
  case atStart => exact ⟨0, k, by omega, rfl, Lib.hid rfl, HK⟩
  case round =>
    obtain ⟨j, l, hgk, rfl, hs, F⟩ := hrel
    clear HK
    by_cases hlt : j < n
    · have pl : (j : Int) < (n : Int) := by omega
      have p0 : (0 : Int) ≤ (j : Int) := by omega
      have CB := Lib.hid (xBy l)
      have CN := Lib.hid (xNext l (by rw [hs.out]; exact iterK_ok hk j))
      have E : Hid (nextK l = iterK k (j + 1)) := Lib.hid (by rw [hs.out]; rfl)
      generalize nextK l = l' at CN E
      have w1 : IntKind.i64.wrap ((j : Int) + 1) = ((j + 1 : Nat) : Int) := by rw [IntKind.wrap_i64]; omega
      go_upto_region 5 with fail
      have hX : Below wr.heap.size wr wr := Below.refl _ _
      have n1 : cb ≠ g := Nat.ne_of_lt hg
      have n2 : g ≠ cb := n1.symm
      have hst := run_store_func
      obtain ⟨v1, v2⟩ := F.out.1.cells
      go_region_with (first
        | (go_at_call 20; (with_reducible refine (CB.out _).mono ?_); rintro e W1 ⟨o, rfl, hKo, ho, hb⟩; have hO : wr.heap.size ≤ o := Nat.le_trans hX.size ho; replace hX := below_then (show Below wr.heap.size wr _ by first | exact hX | exact hX.drew) hb; clear hb ho v1 v2; obtain ⟨v1, v2⟩ := (F.out.1.below hX).cells)
        | (go_at_call 10; (with_reducible refine (CN.out _).mono ?_); rintro e W2 ⟨rfl, hb⟩; replace hX := below_then (show Below wr.heap.size wr _ by first | exact hX | exact hX.drew) hb; replace hKo := hKo.below hb; clear hb v1 v2; obtain ⟨u1, u2⟩ := (F.out.1.below hX).cells; obtain ⟨g5, g6⟩ := (F.out.1.below hX).free; obtain ⟨ov, g7, g8⟩ := (F.out.2.1.below hX).cell j hlt))
      all_goals
        go_wp2_with fail
        go_roundg (gk - 1)
        case measure => omega
        case rel => exact ⟨j + 1, l', by omega, by first | rfl | go_num, E, Lib.hid (F.out.next hs.out hX hc hg hO hKo)⟩
    · obtain rfl : j = n := by omega
      have pl : ¬ ((j : Int) < (j : Int)) := by omega
      go_wp2
      go_ret
      exact ⟨g, rfl, F.out.2.1, by omega, F.out.2.2⟩
end Go.Proofs.Ytfockbhicmdehaa
