/-
  What the reference of layer 9 answers: Power.
-/
import Derived.Test.YthnmekieanndgaaAffT
namespace Go.Proofs.Ythnmekieanndgaa
open Go.RowKit G
set_option linter.unusedVariables false
set_option maxRecDepth 100000

/-- Four words are a map's. -/
def Ws (m : Mp) (p q r s : Int) : Prop := p = ((hiW m.A : Nat) : Int) ∧ q = ((loW m.A : Nat) : Int) ∧ r = ((hiW m.C : Nat) : Int) ∧ s = ((loW m.C : Nat) : Int)
theorem Ws.of (m : Mp) : Ws m ((hiW m.A : Nat) : Int) ((loW m.A : Nat) : Int) ((hiW m.C : Nat) : Int) ((loW m.C : Nat) : Int) := ⟨rfl, rfl, rfl, rfl⟩
section
variable {w v : World} {g x : Nat} {p' q' r' s' : Int}
theorem far_block4 (hne : g ≠ x) : ((((w.setCell ⟨x, 0, none⟩ (.int .u64 p')).setCell ⟨x, 1, none⟩ (.int .u64 q')).setCell ⟨x, 2, none⟩ (.int .u64 r')).setCell ⟨x, 3, none⟩ (.int .u64 s')).heap[g]? = w.heap[g]? :=
  (Below.heap_setCell _ _ _ g hne).trans ((Below.heap_setCell _ _ _ g hne).trans ((Below.heap_setCell _ _ _ g hne).trans (Below.heap_setCell _ _ _ g hne)))
theorem size_put4 : ((((w.setCell ⟨x, 0, none⟩ (.int .u64 p')).setCell ⟨x, 1, none⟩ (.int .u64 q')).setCell ⟨x, 2, none⟩ (.int .u64 r')).setCell ⟨x, 3, none⟩ (.int .u64 s')).heap.size = w.heap.size := by simp [World.setCell]
theorem cell_same (h : w.heap[g]? = v.heap[g]?) (k : Nat) : w.cell? ⟨g, k, none⟩ = v.cell? ⟨g, k, none⟩ := by
  unfold World.cell?
  simp only [h]
end
/-- An answer that is a map, its words named. -/
def AnsQ (m : Mp) (w : World) (e : Ending) (w' : World) : Prop := ∃ p0 p1 p2 p3 : Int, Ws m p0 p1 p2 p3 ∧ e = .returned (.agg #[.int .u64 p0, .int .u64 p1, .int .u64 p2, .int .u64 p3]) ∧ Below w.heap.size w w'
set_option maxHeartbeats 8000000 in
theorem powerMain (a0 a1 a2 a3 h l : Int) (L M : Nat) (xs : List Int) (q s : Nat → Mp) (w : World)
    (CL : Hid (∀ W : World, Calls Try.prog 30 #[.agg #[.int .u64 h, .int .u64 l]] W (fun e w' => ∃ g cap : Nat, e = .returned (.slice (some ⟨g, 0, none⟩) M cap) ∧ W.heap.size ≤ g ∧ g < w'.heap.size ∧ M ≤ cap ∧ (∀ k, k < M → w'.cell? ⟨g, k, none⟩ = some (.int .i64 (xs.getD k 0))) ∧ Below W.heap.size W w')))
    (CN : Hid (∀ W : World, Calls Try.prog 31 #[.agg #[.int .u64 h, .int .u64 l]] W (fun e w' => e = .returned (.int .i64 (L : Int)) ∧ Below W.heap.size W w')))
    (hL : L ≤ M) (hM : M ≤ 128)
    (T1 : Hid (∀ (j : Nat) (p0 p1 p2 p3 : Int), Ws (q (j + 1)) p0 p1 p2 p3 → ∃ o0 o1 o2 o3 : Int, Ws (s j) o0 o1 o2 o3 ∧ TM 32 #[.agg #[.int .u64 p0, .int .u64 p1, .int .u64 p2, .int .u64 p3], .agg #[.int .u64 p0, .int .u64 p1, .int .u64 p2, .int .u64 p3]] o0 o1 o2 o3))
    (T2 : Hid (∀ (j : Nat) (p0 p1 p2 p3 : Int), Ws (s j) p0 p1 p2 p3 → j < M → xs.getD j 0 = 1 → ∃ o0 o1 o2 o3 : Int, Ws (q j) o0 o1 o2 o3 ∧ TM 32 #[.agg #[.int .u64 p0, .int .u64 p1, .int .u64 p2, .int .u64 p3], .agg #[.int .u64 a0, .int .u64 a1, .int .u64 a2, .int .u64 a3]] o0 o1 o2 o3))
    (E : Hid (∀ j, j < M → xs.getD j 0 ≠ 1 → s j = q j)) (q0 : Hid (Ws (q L) 0 1 0 0)) :
    Calls Try.prog 21 #[.agg #[.int .u64 a0, .int .u64 a1, .int .u64 a2, .int .u64 a3], .agg #[.int .u64 h, .int .u64 l]] w (AnsQ (q 0) w) := by
  have U := R4.new w a0 a1 a2 a3
  have z1 : (w.alloc (.cells #[.int .u64 a0, .int .u64 a1, .int .u64 a2, .int .u64 a3] 49)).heap.size = w.heap.size + 1 := Array.size_push _
  have LW := below_alloc (Below.refl w.heap.size w) (.cells #[.int .u64 a0, .int .u64 a1, .int .u64 a2, .int .u64 a3] 49)
  have H1 := Lib.hid (And.intro U (And.intro z1 LW))
  clear U z1 LW
  go_enter Try.func21, Try.ntmps21
  go_upto_region 1 with fail
  generalize w.alloc _ = V1 at H1 ⊢
  have UX := R2.new V1 h l
  have z2 : (V1.alloc (.cells #[.int .u64 h, .int .u64 l] 31)).heap.size = w.heap.size + 1 + 1 := (Array.size_push _).trans (by rw [H1.out.2.1])
  rw [H1.out.2.1] at UX
  have LB := below_allocs V1 (.cells #[.int .u64 h, .int .u64 l] 31)
  have H2 := Lib.hid (And.intro (H1.out.1.below LB) (And.intro UX (And.intro z2 (below_then H1.out.2.2 LB))))
  clear UX z2 LB H1
  generalize V1.alloc _ = V2 at H2 ⊢
  have UZ := R4.new V2 0 0 0 0
  rw [H2.out.2.2.1] at UZ
  have LB := below_allocs V2 (.cells #[.int .u64 0, .int .u64 0, .int .u64 0, .int .u64 0] 49)
  have z3 : (V2.alloc (.cells #[.int .u64 0, .int .u64 0, .int .u64 0, .int .u64 0] 49)).heap.size = w.heap.size + 1 + 1 + 1 := (Array.size_push _).trans (by rw [H2.out.2.2.1])
  have HK := Lib.hid (And.intro (H2.out.1.below LB) (And.intro (H2.out.2.1.below LB) (And.intro UZ (And.intro (below_then H2.out.2.2.2 LB) z3))))
  clear UZ LB H2 z3
  generalize V2.alloc _ = V3 at HK ⊢
  go_upto_region 2 with fail
  have UO := R4.new V3 0 1 0 0
  rw [HK.out.2.2.2.2] at UO
  have LB := below_allocs V3 (.cells #[.int .u64 0, .int .u64 1, .int .u64 0, .int .u64 0] 49)
  rw [HK.out.2.2.2.2]
  have HJ := Lib.hid (And.intro (HK.out.1.below LB) (And.intro (HK.out.2.1.below LB) (And.intro (HK.out.2.2.1.below LB) (And.intro (below_then HK.out.2.2.2.1 LB) UO))))
  clear HK UO LB
  generalize V3.alloc _ = V4 at HJ ⊢
  have hc : w.heap.size ≤ w.heap.size + 1 + 1 := Nat.le_trans (Nat.le_succ _) (Nat.le_succ _)
  have hd : w.heap.size ≤ w.heap.size + 1 + 1 + 1 := Nat.le_trans hc (Nat.le_succ _)
  have ha : w.heap.size ≠ w.heap.size + 1 + 1 + 1 := by omega
  have hz : w.heap.size + 1 + 1 ≠ w.heap.size + 1 + 1 + 1 := by omega
  generalize w.heap.size + 1 + 1 + 1 = co at HJ hd ha hz ⊢
  generalize w.heap.size + 1 + 1 = cz at HJ hc hz ⊢
  generalize w.heap.size + 1 = cn at HJ ⊢
  obtain ⟨x1, x2⟩ := HJ.out.2.1.cells
  go_wp2_with fail
  clear x1 x2
  refine (CL.out _).mono ?_
  rintro e V5 ⟨g, cap, rfl, gb, gl, gc, cl, hb⟩
  have gne : g ≠ co := Nat.ne_of_gt (Nat.lt_of_lt_of_le HJ.out.2.2.2.2.lt gb)
  clear gb
  have HI := Lib.hid (And.intro (HJ.out.1.below hb) (And.intro (HJ.out.2.1.below hb) (And.intro (HJ.out.2.2.1.below hb) (And.intro (below_then HJ.out.2.2.2.1 hb) (And.intro (HJ.out.2.2.2.2.below hb) (And.intro gl cl))))))
  clear HJ hb gl cl CL
  obtain ⟨x1, x2⟩ := HI.out.2.1.cells
  go_wp2_with fail
  clear x1 x2
  refine (CN.out _).mono ?_
  rintro e V6 ⟨rfl, hb⟩
  have CE : Hid (∀ k, k < M → V6.cell? ⟨g, k, none⟩ = some (.int .i64 (xs.getD k 0))) := Lib.hid fun k hk => (hb.cell (p := ⟨g, k, none⟩) (World.block_lt_of_cell? _ _ (HI.out.2.2.2.2.2.2 k hk))).trans (HI.out.2.2.2.2.2.2 k hk)
  have HH := Lib.hid (And.intro (HI.out.1.below hb) (And.intro (HI.out.2.2.1.below hb) (And.intro (below_then HI.out.2.2.2.1 hb) (And.intro (HI.out.2.2.2.2.1.below hb) (Nat.lt_of_lt_of_le HI.out.2.2.2.2.2.1 hb.size)))))
  clear HI hb CN
  have w1 : IntKind.i64.wrap ((L : Int) - 1) = (L : Int) - 1 := by rw [IntKind.wrap_i64]; omega
  go_wp2_with fail
  have gl := HH.out.2.2.2.2
  have F0 : Hid (R4 V6 w.heap.size a0 a1 a2 a3 ∧ R4 V6 cz 0 0 0 0 ∧ Below w.heap.size w V6 ∧ V6.heap[g]? = V6.heap[g]? ∧ V6.heap.size ≤ V6.heap.size ∧ ∃ p0 p1 p2 p3 : Int, Ws (q L) p0 p1 p2 p3 ∧ R4 V6 co p0 p1 p2 p3) := Lib.hid ⟨HH.out.1, HH.out.2.1, HH.out.2.2.1, rfl, Nat.le_refl _, 0, 1, 0, 0, q0.out, HH.out.2.2.2.1⟩
  have Hc := Lib.hid (And.intro hc (And.intro hd (And.intro ha (And.intro hz (And.intro gne gl)))))
  clear HH hc hd ha hz gne gl q0
  go_loopg [7] L (fun gh z wr => ∃ v : Int, z = .int .i64 v ∧ v = (gh : Int) - 1 ∧ gh ≤ L ∧ Hid (R4 wr w.heap.size a0 a1 a2 a3 ∧ R4 wr cz 0 0 0 0 ∧ Below w.heap.size w wr ∧ wr.heap[g]? = V6.heap[g]? ∧ V6.heap.size ≤ wr.heap.size ∧ ∃ p0 p1 p2 p3 : Int, Ws (q gh) p0 p1 p2 p3 ∧ R4 wr co p0 p1 p2 p3))
  case atStart => exact ⟨_, rfl, rfl, Nat.le_refl _, F0⟩
  case round =>
    obtain ⟨v, rfl, hv, hle, F⟩ := hrel
    clear F0 w1
    rcases gk with _ | j
    · obtain rfl : v = -1 := by omega
      clear hv hle
      obtain ⟨FA, FZ, FB, FG, FS, p0, p1, p2, p3, hq, FO⟩ := F.out
      have HQ := Lib.hid hq
      have HR := Lib.hid (R4.put (p' := p0) (q' := p1) (r' := p2) (s' := p3) FZ)
      have HB : Hid (Below w.heap.size w ((((wr.setCell ⟨cz, 0, none⟩ (.int .u64 p0)).setCell ⟨cz, 1, none⟩ (.int .u64 p1)).setCell ⟨cz, 2, none⟩ (.int .u64 p2)).setCell ⟨cz, 3, none⟩ (.int .u64 p3))) := Lib.hid (below_putR4 FB Hc.out.1)
      obtain ⟨x1, x2, x3, x4⟩ := FO.cells
      obtain ⟨y1, y2, y3, y4⟩ := FZ.cells
      obtain ⟨f1, f2, f3, f4⟩ := FZ.free
      clear F FA FZ FB FG FS hq FO T1 T2 E CE
      go_wp2_with fail
      generalize World.setCell (World.setCell (World.setCell (World.setCell wr _ _) _ _) _ _) _ _ = V9 at HR HB ⊢
      obtain ⟨r1, r2, r3, r4⟩ := HR.out.cells
      try simp only [Exit.inBlock, Exit.then, Exit.noGoto]
      refine bodyPost_ret (by simp [results, Try.results21, go_sem, r1, r2, r3, r4]; try rfl) rfl ?_
      exact ⟨p0, p1, p2, p3, HQ.out, rfl, HB.out⟩
    · obtain rfl : v = (j : Int) := by omega
      clear hv
      obtain ⟨FA, FZ, FB, FG, FS, p0, p1, p2, p3, hq, FO⟩ := F.out
      obtain ⟨o0, o1, o2, o3, ho, TT⟩ := T1.out j p0 p1 p2 p3 hq
      have HT := Lib.hid TT
      have HO := Lib.hid ho
      have jM : j < M := by omega
      have K1 := Lib.hid (And.intro FA (And.intro FZ (And.intro FB (And.intro FG (And.intro FS FO)))))
      obtain ⟨x1, x2, x3, x4⟩ := FO.cells
      have k0 : (j : Int) ≥ 0 := by omega
      have kM : (j : Int) < (M : Int) := by omega
      have k1000 : j ≤ 1000 := by omega
      have w1 : IntKind.i64.wrap ((j : Int) - 1) = (j : Int) - 1 := by rw [IntKind.wrap_i64]; omega
      clear F FA FZ FB FG FS hq FO TT ho
      go_wp2_with fail
      refine (HT.out _).mono ?_
      rintro e W7 ⟨rfl, hb⟩
      clear x1 x2 x3 x4 HT
      have G7 : W7.heap[g]? = V6.heap[g]? := (hb.block g (Nat.lt_of_lt_of_le Hc.out.2.2.2.2.2 K1.out.2.2.2.2.1)).trans K1.out.2.2.2.1
      have K2 := Lib.hid (And.intro (K1.out.1.below hb) (And.intro (K1.out.2.1.below hb) (And.intro (below_then K1.out.2.2.1 hb) (And.intro G7 (And.intro (Nat.le_trans K1.out.2.2.2.2.1 hb.size) (K1.out.2.2.2.2.2.below hb))))))
      clear K1 G7 hb
      have P1 := Lib.hid (R4.put (p' := o0) (q' := o1) (r' := o2) (s' := o3) K2.out.2.2.2.2.2)
      have P2 := Lib.hid (R4.far4 (x := co) (p' := o0) (q' := o1) (r' := o2) (s' := o3) K2.out.1 Hc.out.2.2.1)
      have P3 := Lib.hid (R4.far4 (x := co) (p' := o0) (q' := o1) (r' := o2) (s' := o3) K2.out.2.1 Hc.out.2.2.2.1)
      have P4 : Hid (Below w.heap.size w ((((W7.setCell ⟨co, 0, none⟩ (.int .u64 o0)).setCell ⟨co, 1, none⟩ (.int .u64 o1)).setCell ⟨co, 2, none⟩ (.int .u64 o2)).setCell ⟨co, 3, none⟩ (.int .u64 o3))) := Lib.hid (below_putR4 K2.out.2.2.1 Hc.out.2.1)
      have P5 : Hid (((((W7.setCell ⟨co, 0, none⟩ (.int .u64 o0)).setCell ⟨co, 1, none⟩ (.int .u64 o1)).setCell ⟨co, 2, none⟩ (.int .u64 o2)).setCell ⟨co, 3, none⟩ (.int .u64 o3)).heap[g]? = V6.heap[g]?) := Lib.hid ((far_block4 Hc.out.2.2.2.2.1).trans K2.out.2.2.2.1)
      have P6 : Hid (V6.heap.size ≤ ((((W7.setCell ⟨co, 0, none⟩ (.int .u64 o0)).setCell ⟨co, 1, none⟩ (.int .u64 o1)).setCell ⟨co, 2, none⟩ (.int .u64 o2)).setCell ⟨co, 3, none⟩ (.int .u64 o3)).heap.size) := Lib.hid (by rw [size_put4]; exact K2.out.2.2.2.2.1)
      obtain ⟨x1, x2, x3, x4⟩ := K2.out.2.2.2.2.2.cells
      obtain ⟨f1, f2, f3, f4⟩ := K2.out.2.2.2.2.2.free
      clear K2
      go_upto_region 7 with fail
      clear x1 x2 x3 x4 f1 f2 f3 f4
      generalize World.setCell (World.setCell (World.setCell (World.setCell W7 _ _) _ _) _ _) _ _ = V7 at P1 P2 P3 P4 P5 P6 ⊢
      have cg : V7.cell? ⟨g, j, none⟩ = some (.int .i64 (xs.getD j 0)) := (cell_same P5.out j).trans (CE.out j jM)
      have EJ := Lib.hid (E.out j jM)
      have TJ := Lib.hid (fun p0 p1 p2 p3 hw => T2.out j p0 p1 p2 p3 hw jM)
      generalize xs.getD j 0 = y at cg EJ TJ
      by_cases hy : y = 1
      · have hyb : (y == 1) = true := by simpa using hy
        obtain ⟨u0, u1, u2, u3, hu, TT⟩ := TJ.out o0 o1 o2 o3 HO.out hy
        have HT := Lib.hid TT
        have HU := Lib.hid hu
        obtain ⟨x1, x2, x3, x4⟩ := P1.out.cells
        obtain ⟨y1, y2, y3, y4⟩ := P2.out.cells
        clear hy EJ TJ TT hu HO
        go_wp2_with fail
        refine (HT.out _).mono ?_
        rintro e W8 ⟨rfl, hb⟩
        clear x1 x2 x3 x4 y1 y2 y3 y4 HT cg hyb
        have G8 : W8.heap[g]? = V6.heap[g]? := (hb.block g (Nat.lt_of_lt_of_le Hc.out.2.2.2.2.2 P6.out)).trans P5.out
        have K2 := Lib.hid (And.intro (P2.out.below hb) (And.intro (P3.out.below hb) (And.intro (below_then P4.out hb) (And.intro G8 (And.intro (Nat.le_trans P6.out hb.size) (P1.out.below hb))))))
        clear P1 P2 P3 P4 P5 P6 G8 hb
        obtain ⟨x1, x2, x3, x4⟩ := K2.out.2.2.2.2.2.cells
        obtain ⟨f1, f2, f3, f4⟩ := K2.out.2.2.2.2.2.free
        go_wp2_with fail
        go_roundg j
        case measure => omega
        case rel => exact ⟨_, rfl, by go_num, by omega, Lib.hid ⟨R4.far4 K2.out.1 Hc.out.2.2.1, R4.far4 K2.out.2.1 Hc.out.2.2.2.1, below_putR4 K2.out.2.2.1 Hc.out.2.1, (far_block4 Hc.out.2.2.2.2.1).trans K2.out.2.2.2.1, by rw [size_put4]; exact K2.out.2.2.2.2.1, _, _, _, _, HU.out, R4.put K2.out.2.2.2.2.2⟩⟩
      · have hyb : (y == 1) = false := by simpa using hy
        have HU : Hid (Ws (q j) o0 o1 o2 o3) := Lib.hid (by rw [← EJ.out hy]; exact HO.out)
        clear hy EJ TJ HO
        go_wp2_with fail
        go_roundg j
        case measure => omega
        case rel => exact ⟨_, rfl, by go_num, by omega, Lib.hid ⟨P2.out, P3.out, P4.out, P5.out, P6.out, _, _, _, _, HU.out, P1.out⟩⟩
theorem len_ex {n : Nat} (h : n < Q) : ∃ L : Nat, Wd.lenN (n : Int) = (L : Int) ∧ L ≤ 128 ∧ n / 2 ^ L = 0 := by
  by_cases h0 : n = 0
  · subst h0
    exact ⟨0, Wd.len_zero, by decide, by decide⟩
  · obtain ⟨a, b, c, d⟩ := Wd.len_spec (n : Int) (rng_nat h) (by omega)
    refine ⟨(Wd.lenN (n : Int)).toNat, by omega, by omega, ?_⟩
    have : n < 2 ^ (Wd.lenN (n : Int)).toNat := by exact_mod_cast c
    exact Nat.div_eq_of_lt this
theorem bit_is {n : Nat} (h : n < Q) (j : Nat) (hj : j < 128) : (Wd.bits128 (n : Int)).getD j 0 = ((n / 2 ^ j % 2 : Nat) : Int) := by
  rw [Wd.getD_leB _ (Wd.bits128_bits _) (n : Int) (Wd.bits128_val _ (rng_nat h)) j (by rw [Wd.bits128_length]; exact hj)]
  rw [Int.natCast_emod, Int.natCast_ediv, Int.natCast_pow]
  rfl
theorem yPowerM (m : Mp) (hm : m.Ok) {n : Nat} (hn : n < Q) : TM 21 #[m.val, .agg #[.int .u64 ((hiW n : Nat) : Int), .int .u64 ((loW n : Nat) : Int)]] ((hiW (powM m n).A : Nat) : Int) ((loW (powM m n).A : Nat) : Int) ((hiW (powM m n).C : Nat) : Int) ((loW (powM m n).C : Nat) : Int) := fun w => by
  obtain ⟨L, hL, L1, L2⟩ := len_ex hn
  have PD := fun j => pow_down hm n j
  have R := powerMain _ _ _ _ _ _ L 128 (Wd.bits128 (n : Int)) (fun j => powM m (n / 2 ^ j)) (fun j => thenM (powM m (n / 2 ^ (j + 1))) (powM m (n / 2 ^ (j + 1)))) w
    (Lib.hid fun W => by
      have q := Wd.rListN (n : Int) _ rfl (rng_nat hn) W
      simp only [hi_nat, lo_nat] at q
      refine q.mono ?_
      rintro e w' ⟨g, cap, rfl, hg, hlt, hcap, own, hb⟩
      rw [Wd.bits128_length] at hcap ⊢
      refine ⟨g, cap, rfl, hg, hlt, hcap, fun k hk => ?_, hb⟩
      have := Wd.ints_of_owns own k (by rw [Wd.bits128_length]; exact hk)
      rwa [Nat.zero_add] at this)
    (Lib.hid fun W => by
      have q := Wd.rLenN (n : Int) (rng_nat hn) W
      rw [hL] at q
      unfold Wd.NI at q
      simp only [hi_nat, lo_nat] at q
      exact q)
    L1 (Nat.le_refl _)
    (Lib.hid fun j p0 p1 p2 p3 hp => ⟨_, _, _, _, Ws.of _, by
      obtain ⟨rfl, rfl, rfl, rfl⟩ := hp
      exact yThenM _ _ (powM_ok _ _) (powM_ok _ _)⟩)
    (Lib.hid fun j p0 p1 p2 p3 hp hj hb => ⟨_, _, _, _, Ws.of _, by
      obtain ⟨rfl, rfl, rfl, rfl⟩ := hp
      rw [bit_is hn j hj] at hb
      have := yThenM (thenM (powM m (n / 2 ^ (j + 1))) (powM m (n / 2 ^ (j + 1)))) m (thenM_ok _ _) hm
      have e := PD j
      rw [if_pos (show n / 2 ^ j % 2 = 1 by omega)] at e
      rw [← e] at this
      exact this⟩)
    (Lib.hid fun j hj hb => by
      rw [bit_is hn j hj] at hb
      have e := PD j
      rw [if_neg (show ¬ n / 2 ^ j % 2 = 1 by omega)] at e
      exact e.symm)
    (Lib.hid (by
      show Ws (powM m (n / 2 ^ L)) 0 1 0 0
      rw [L2, pow_zero]
      exact ⟨rfl, rfl, rfl, rfl⟩))
  refine R.mono ?_
  rintro e w' ⟨p0, p1, p2, p3, ⟨rfl, rfl, rfl, rfl⟩, rfl, hb⟩
  simp only [Nat.pow_zero, Nat.div_one]
  exact ⟨trivial, hb⟩
end Go.Proofs.Ythnmekieanndgaa
