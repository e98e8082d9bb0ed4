/-
  What powerBy and Power of package affine answer: a goto that goes about, from the lowest bit on.
-/
import Derived.Test.YthnmekieanndgaaAffU
import Derived.Test.YthnmekieanndgaaAffXc
import Derived.ScopeJumps
import Derived.WalkMore
import Derived.Deep.LoopGhost
import Derived.Deep.RegionWith
namespace Go.Proofs.Ythnmekieanndgaa
open Go.RowKit G
set_option linter.unusedVariables false
set_option maxRecDepth 100000

/-- As 'wp_scope_jumps', the way from the label on walked but once. -/
theorem wp_scope_jumps1 {P : Program} {a : Act} {w : World} {Q : Exit → Act → World → Prop} {c body : Code} (l : Nat) (J : Act → World → Prop) (μ : Act → World → Nat) (hf : findLabel c l = some (Code.skip.seq body))
    (pass : ∀ a w, J a w → body.wp P (Exit.jump l (fun a' w' => J a' w' ∧ μ a' w' < μ a w) Q) a w) (first : (∀ a w, J a w → body.wp P (Exit.jump l J Q) a w) → c.wp P (Exit.jump l J Q) a w) : (Code.scope c).wp P Q a w :=
  wp_scope_jumps l J μ hf (first fun a w h => Code.wp_mono (fun e a' w' k => by
    cases e with
    | goto l' => exact ⟨k.1, k.2.1⟩
    | _ => exact k) (pass a w h)) fun a w h => wp_seq (wp_skip (pass a w h))
theorem U2.far4 {w : World} {b x : Nat} {h l p' q' r' s' : Int} (k : U2 w b h l) (hne : b ≠ x) : U2 ((((w.setCell ⟨x, 0, none⟩ (.int .u64 p')).setCell ⟨x, 1, none⟩ (.int .u64 q')).setCell ⟨x, 2, none⟩ (.int .u64 r')).setCell ⟨x, 3, none⟩ (.int .u64 s')) b h l := (far_block4 hne).trans k
theorem B4.far2 {w : World} {b x : Nat} {p q r s : Int} (h : B4 w b p q r s) (hne : b ≠ x) (u v : Value) : B4 ((w.setCell ⟨x, 0, none⟩ u).setCell ⟨x, 1, none⟩ v) b p q r s := (h.far hne _).far hne _
def intIn : Value → Int | .int _ q => q | _ => 0
def cellN (w : World) (c k : Nat) : Int := match w.cell? ⟨c, k, none⟩ with | some v => intIn v | none => 0
/-- What each round lowers: the number that lies in the box. -/
def jM (cn : Nat) (a : Act) (w : World) : Nat := (cellN w cn 0 * 18446744073709551616 + cellN w cn 1).toNat
theorem jM_is {w : World} {cn n : Nat} {h l : Int} (a : Act) (k : U2 w cn h l) (i : Wn h l n) : jM cn a w = n := by
  unfold jM cellN
  rw [k.cells.1, k.cells.2]
  show (h * 18446744073709551616 + l).toNat = n
  rw [i.eq]
  exact Int.toNat_natCast n
/-- What lies apart. -/
structure Apart (s cm cn cz b : Nat) : Prop where
  lm : s ≤ cm
  ln : s ≤ cn
  lz : s ≤ cz
  lb : s ≤ b
  mn : cm ≠ cn
  mb : cm ≠ b
  nb : cn ≠ b
  zm : cz ≠ cm
  zn : cz ≠ cn
  zb : cz ≠ b
/-- What holds at the label. -/
structure AtL (w w' : World) (cm cn cz b : Nat) (m0 m1 m2 m3 h l p0 p1 p2 p3 : Int) : Prop where
  m : B4 w' cm m0 m1 m2 m3
  n : U2 w' cn h l
  z : B4 w' cz 0 0 0 0
  p : B4 w' b p0 p1 p2 p3
  below : Below w.heap.size w w'
section
variable {w w' v : World} {cm cn cz b : Nat} {m0 m1 m2 m3 h l p0 p1 p2 p3 : Int}
theorem AtL.next (k : AtL w w' cm cn cz b m0 m1 m2 m3 h l p0 p1 p2 p3) (hb : Below w'.heap.size w' v) : AtL w v cm cn cz b m0 m1 m2 m3 h l p0 p1 p2 p3 :=
  ⟨k.m.below hb, k.n.below hb, k.z.below hb, k.p.below hb, below_then k.below hb⟩
theorem AtL.putp (k : AtL w w' cm cn cz b m0 m1 m2 m3 h l p0 p1 p2 p3) (a : Apart w.heap.size cm cn cz b) (q0 q1 q2 q3 : Int) :
    AtL w ((((w'.setCell ⟨b, 0, none⟩ (.int .u64 q0)).setCell ⟨b, 1, none⟩ (.int .u64 q1)).setCell ⟨b, 2, none⟩ (.int .u64 q2)).setCell ⟨b, 3, none⟩ (.int .u64 q3)) cm cn cz b m0 m1 m2 m3 h l q0 q1 q2 q3 :=
  ⟨k.m.far4 a.mb, k.n.far4 a.nb, k.z.far4 a.zb, B4.put k.p, below_put4 k.below a.lb⟩
theorem AtL.putm (k : AtL w w' cm cn cz b m0 m1 m2 m3 h l p0 p1 p2 p3) (a : Apart w.heap.size cm cn cz b) (q0 q1 q2 q3 : Int) :
    AtL w ((((w'.setCell ⟨cm, 0, none⟩ (.int .u64 q0)).setCell ⟨cm, 1, none⟩ (.int .u64 q1)).setCell ⟨cm, 2, none⟩ (.int .u64 q2)).setCell ⟨cm, 3, none⟩ (.int .u64 q3)) cm cn cz b q0 q1 q2 q3 h l p0 p1 p2 p3 :=
  ⟨B4.put k.m, k.n.far4 a.mn.symm, k.z.far4 a.zm, k.p.far4 a.mb.symm, below_put4 k.below a.lm⟩
theorem AtL.putn (k : AtL w w' cm cn cz b m0 m1 m2 m3 h l p0 p1 p2 p3) (a : Apart w.heap.size cm cn cz b) (h' l' : Int) :
    AtL w ((w'.setCell ⟨cn, 0, none⟩ (.int .u64 h')).setCell ⟨cn, 1, none⟩ (.int .u64 l')) cm cn cz b m0 m1 m2 m3 h' l' p0 p1 p2 p3 :=
  ⟨k.m.far2 a.mn _ _, U2.put k.n, k.z.far2 a.zn _ _, k.p.far2 a.nb.symm _ _, below_putU2 k.below a.ln _ _⟩
end
/-- What is left of the power. -/
structure PSt (R : Mp) (n : Nat) (p m : Mp) : Prop where
  okp : p.Ok
  okm : m.Ok
  is : thenM p (powM m n) = R
/-- What holds at each jump. -/
def JL (w : World) (cm cn cz : Nat) (fv gm gn : Value) (R : Mp) (a' : Act) (w' : World) : Prop := ∃ (n b : Nat) (p m : Mp) (h l m0 m1 m2 m3 p0 p1 p2 p3 : Int) (u3 u8 u9 u10 u11 u12 u13 u14 u15 u16 u17 u18 u19 u20 u21 u22 u23 u24 u25 u26 u27 u28 u29 u30 : Value), a' = { tmps := #[fv, gm, gn, u3, .pointer (some ⟨cm, 0, none⟩), .pointer (some ⟨cn, 0, none⟩), .pointer (some ⟨cz, 0, none⟩), .pointer (some ⟨b, 0, none⟩), u8, u9, u10, u11, u12, u13, u14, u15, u16, u17, u18, u19, u20, u21, u22, u23, u24, u25, u26, u27, u28, u29, u30], defers := [] } ∧ PSt R n p m ∧ Ws p p0 p1 p2 p3 ∧ Ws m m0 m1 m2 m3 ∧ Wn h l n ∧ Apart w.heap.size cm cn cz b ∧ AtL w w' cm cn cz b m0 m1 m2 m3 h l p0 p1 p2 p3
/-- A number that is 0, or isn't; a map that is One, or isn't. -/
def Nz (h l : Int) : Prop := ((h == 0) = false ∧ (h = 0) = False) ∨ h = 0 ∧ (l == 0) = false ∧ (l = 0) = False
def No1 (a b c d : Int) : Prop := ((a == 0) = false ∧ (a = 0) = False) ∨ a = 0 ∧ ((b == 1) = false ∧ (b = 1) = False) ∨ a = 0 ∧ b = 1 ∧ ((c == 0) = false ∧ (c = 0) = False) ∨ a = 0 ∧ b = 1 ∧ c = 0 ∧ ((d == 0) = false ∧ (d = 0) = False)
inductive PWay (R : Mp) (n : Nat) (p m : Mp) (h l m0 m1 m2 m3 p0 p1 p2 p3 : Int) : Prop where
  | zero (e1 : h = 0) (e2 : l = 0) (e : Hid (p = R))
  | one (e1 : Hid (Nz h l)) (e2 : m0 = 0) (e3 : m1 = 1) (e4 : m2 = 0) (e5 : m3 = 0) (e : Hid (p = R))
  | even (e1 : Hid (Nz h l)) (e2 : Hid (No1 m0 m1 m2 m3)) (B : Hid (∀ W, Calls Try.prog 46 #[.agg #[.int .u64 h, .int .u64 l], .int .i64 0] W (AnsI 0 W)))
      (m' : Mp) (k0 k1 k2 k3 : Int) (T : Hid (TM 39 #[.agg #[.int .u64 m0, .int .u64 m1, .int .u64 m2, .int .u64 m3], .agg #[.int .u64 m0, .int .u64 m1, .int .u64 m2, .int .u64 m3]] k0 k1 k2 k3))
      (n' : Nat) (h' l' : Int) (G : Hid (TN 47 #[.agg #[.int .u64 h, .int .u64 l], .int .i64 1] h' l')) (st : Hid (PSt R n' p m' ∧ Ws m' k0 k1 k2 k3 ∧ Wn h' l' n' ∧ n' < n))
  | odd (e1 : Hid (Nz h l)) (e2 : Hid (No1 m0 m1 m2 m3)) (B : Hid (∀ W, Calls Try.prog 46 #[.agg #[.int .u64 h, .int .u64 l], .int .i64 0] W (AnsI 1 W)))
      (p' : Mp) (q0 q1 q2 q3 : Int) (T0 : Hid (TM 39 #[.agg #[.int .u64 p0, .int .u64 p1, .int .u64 p2, .int .u64 p3], .agg #[.int .u64 m0, .int .u64 m1, .int .u64 m2, .int .u64 m3]] q0 q1 q2 q3))
      (m' : Mp) (k0 k1 k2 k3 : Int) (T : Hid (TM 39 #[.agg #[.int .u64 m0, .int .u64 m1, .int .u64 m2, .int .u64 m3], .agg #[.int .u64 m0, .int .u64 m1, .int .u64 m2, .int .u64 m3]] k0 k1 k2 k3))
      (n' : Nat) (h' l' : Int) (G : Hid (TN 47 #[.agg #[.int .u64 h, .int .u64 l], .int .i64 1] h' l')) (st : Hid (PSt R n' p' m' ∧ Ws m' k0 k1 k2 k3 ∧ Wn h' l' n' ∧ n' < n ∧ Ws p' q0 q1 q2 q3))
set_option maxHeartbeats 16000000 in
theorem pbMain (a0 a1 a2 a3 h0 l0 : Int) (R : Mp) (n0 : Nat) (m00 : Mp) (w : World)
    (CO : Hid (TM 45 #[] 0 1 0 0))
    (S : Hid (∀ (n : Nat) (p m : Mp) (h l m0 m1 m2 m3 p0 p1 p2 p3 : Int), PSt R n p m → Ws p p0 p1 p2 p3 → Ws m m0 m1 m2 m3 → Wn h l n → PWay R n p m h l m0 m1 m2 m3 p0 p1 p2 p3))
    (I : Hid (PSt R n0 Mp.one m00 ∧ Ws Mp.one 0 1 0 0 ∧ Ws m00 a0 a1 a2 a3 ∧ Wn h0 l0 n0)) :
    Calls Try.prog 38 #[(.func (.func 39) #[] #[]), .agg #[.int .u64 a0, .int .u64 a1, .int .u64 a2, .int .u64 a3], .agg #[.int .u64 h0, .int .u64 l0]] w (AnsQ R w) := by
  have U := B4.new w a0 a1 a2 a3
  have z1 : (w.alloc (.cells #[.int .u64 a0, .int .u64 a1, .int .u64 a2, .int .u64 a3] 55)).heap.size = w.heap.size + 1 := Array.size_push _
  have LW := below_allocs w (.cells #[.int .u64 a0, .int .u64 a1, .int .u64 a2, .int .u64 a3] 55)
  have H1 := Lib.hid (And.intro U (And.intro z1 LW))
  clear U z1 LW
  go_enter Try.func38, Try.ntmps38
  go_wp2_with fail
  generalize w.alloc _ = V1 at H1 ⊢
  have UX := U2.new V1 h0 l0
  have z2 : (V1.alloc (.cells #[.int .u64 h0, .int .u64 l0] 24)).heap.size = w.heap.size + 1 + 1 := (Array.size_push _).trans (by rw [H1.out.2.1])
  rw [H1.out.2.1] at UX
  have LB := below_allocs V1 (.cells #[.int .u64 h0, .int .u64 l0] 24)
  have H2 := Lib.hid (And.intro (H1.out.1.below LB) (And.intro UX (And.intro z2 (below_then H1.out.2.2 LB))))
  clear UX z2 LB H1
  generalize V1.alloc _ = V2 at H2 ⊢
  have UZ := B4.new V2 0 0 0 0
  rw [H2.out.2.2.1] at UZ
  have LB := below_allocs V2 (.cells #[.int .u64 0, .int .u64 0, .int .u64 0, .int .u64 0] 55)
  have HK := Lib.hid (And.intro (H2.out.1.below LB) (And.intro (H2.out.2.1.below LB) (And.intro UZ (below_then H2.out.2.2.2 LB))))
  clear UZ LB H2
  generalize V2.alloc _ = V4 at HK ⊢
  have hm : w.heap.size ≤ w.heap.size := Nat.le_refl _
  have hn : w.heap.size ≤ w.heap.size + 1 := Nat.le_succ _
  have hz : w.heap.size ≤ w.heap.size + 1 + 1 := Nat.le_trans hn (Nat.le_succ _)
  have e1 : w.heap.size ≠ w.heap.size + 1 := by omega
  have e2 : w.heap.size + 1 + 1 ≠ w.heap.size := by omega
  have e3 : w.heap.size + 1 + 1 ≠ w.heap.size + 1 := by omega
  have HA := Lib.hid (And.intro hm (And.intro hn (And.intro hz (And.intro e1 (And.intro e2 e3)))))
  clear hm hn hz e1 e2 e3
  generalize w.heap.size + 1 + 1 = cz at HK HA ⊢
  generalize w.heap.size + 1 = cn at HK HA ⊢
  obtain ⟨cm, hcm⟩ : ∃ cm, cm = w.heap.size := ⟨_, rfl⟩
  have HA2 : Hid (w.heap.size ≤ cm ∧ w.heap.size ≤ cn ∧ w.heap.size ≤ cz ∧ cm ≠ cn ∧ cz ≠ cm ∧ cz ≠ cn) := Lib.hid (by rw [hcm]; exact HA.out)
  have HB0 := Lib.hid HK.out.2.2.2
  have HK : Hid (B4 V4 cm a0 a1 a2 a3 ∧ U2 V4 cn h0 l0 ∧ B4 V4 cz 0 0 0 0) := Lib.hid (by rw [hcm]; exact ⟨HK.out.1, HK.out.2.1, HK.out.2.2.1⟩)
  rw [← hcm]
  clear hcm HA
  refine wp_scope_jumps1 0 (JL w cm cn cz (.func (.func 39) #[] #[]) (.agg #[.int .u64 a0, .int .u64 a1, .int .u64 a2, .int .u64 a3]) (.agg #[.int .u64 h0, .int .u64 l0]) R) (jM cn) rfl ?_ ?_
  · clear HK HA2 I HB0
    rintro a w' ⟨n, b, p, m, h, l, m0, m1, m2, m3, p0, p1, p2, p3, u3, u8, u9, u10, u11, u12, u13, u14, u15, u16, u17, u18, u19, u20, u21, u22, u23, u24, u25, u26, u27, u28, u29, u30, rfl, hs, hp, hm, hw, hA, K⟩
    have WAY := S.out n p m h l m0 m1 m2 m3 p0 p1 p2 p3 hs hp hm hw
    have HP := Lib.hid hp
    have AP := Lib.hid hA
    have HM := Lib.hid (jM_is { tmps := #[(.func (.func 39) #[] #[]), (.agg #[.int .u64 a0, .int .u64 a1, .int .u64 a2, .int .u64 a3]), (.agg #[.int .u64 h0, .int .u64 l0]), u3, .pointer (some ⟨cm, 0, none⟩), .pointer (some ⟨cn, 0, none⟩), .pointer (some ⟨cz, 0, none⟩), .pointer (some ⟨b, 0, none⟩), u8, u9, u10, u11, u12, u13, u14, u15, u16, u17, u18, u19, u20, u21, u22, u23, u24, u25, u26, u27, u28, u29, u30], defers := [] } K.n hw)
    obtain ⟨W2, h2⟩ : ∃ x : World, x = w' := ⟨_, rfl⟩
    subst h2
    clear hs hp hm hw hA
    go_upto_region 2 with fail
    rcases WAY with ⟨rfl, rfl, HE⟩ | ⟨nz, rfl, rfl, rfl, rfl, HE⟩ | ⟨nz, no, B, m', k0, k1, k2, k3, T, n', h', l', G, st⟩ | ⟨nz, no, B, p', q0, q1, q2, q3, T0, m', k0, k1, k2, k3, T, n', h', l', G, st⟩
    · go_cut [16] (CutG W2 true)
      case first =>
        refine wp_region_class (fun w' => Below W2.heap.size W2 w') (by kernel_rfl) (by kernel_rfl) (Below.refl _ _).drew ?_
        iterate 4
          (refine WQ.yes ?_ (by rfl) (fun w' hC => ?_) ?_
           rotate_left
           · (obtain ⟨x1, x2, x3, x4⟩ := (K.m.below hC).cells
              obtain ⟨u1, u2⟩ := (K.n.below hC).cells
              go_simp
              first
                | done
                | with_reducible rfl
                | exact ⟨rfl, rfl⟩
                | (go_at_call 45; (with_reducible exact quietA4 (CO.out _) hC)))
           (try simp only [Act.put, List.setIfInBounds_toArray, List.set_cons_zero, List.set_cons_succ]))
        iterate 3
          (refine WQ.no (by rfl) ?_
           (try simp only [Act.put, List.setIfInBounds_toArray, List.set_cons_zero, List.set_cons_succ]))
        iterate 1
          (refine WQ.yes ?_ (by rfl) (fun w' hC => ?_) ?_
           rotate_left
           · (obtain ⟨x1, x2, x3, x4⟩ := (K.m.below hC).cells
              obtain ⟨u1, u2⟩ := (K.n.below hC).cells
              go_simp
              first
                | done
                | with_reducible rfl
                | exact ⟨rfl, rfl⟩
                | (go_at_call 45; (with_reducible exact quietA4 (CO.out _) hC)))
           (try simp only [Act.put, List.setIfInBounds_toArray, List.set_cons_zero, List.set_cons_succ]))
        refine WQ.nil ?_
        intro wz hX
        go_wp2
        go_meet
        exact CutG.of hX
      obtain ⟨rfl, hX⟩ := hcut
      replace K := K.next hX
      clear hX
      have HR := Lib.hid (B4.put (p' := p0) (q' := p1) (r' := p2) (s' := p3) K.z)
      have HB := Lib.hid (below_put4 (x := cz) (p' := p0) (q' := p1) (r' := p2) (s' := p3) K.below AP.out.lz)
      obtain ⟨x1, x2, x3, x4⟩ := K.p.cells
      obtain ⟨y1, y2, y3, y4⟩ := B4.cells K.z
      obtain ⟨f1, f2, f3, f4⟩ := B4.free K.z
      clear K AP CO S
      go_wp2_with fail
      generalize World.setCell (World.setCell (World.setCell (World.setCell wc _ _) _ _) _ _) _ _ = V9 at HR HB ⊢
      obtain ⟨r1, r2, r3, r4⟩ := HR.out.cells
      simp only [Exit.jump]
      refine bodyPost_ret (by simp [results, Try.results38, go_sem, r1, r2, r3, r4]; try rfl) rfl ?_
      exact ⟨p0, p1, p2, p3, by rw [← HE.out]; exact HP.out, rfl, HB.out⟩
    · go_cut [16] (CutG W2 true)
      case first =>
        rcases nz.out with ⟨e1, e2⟩ | ⟨rfl, e1, e2⟩
        all_goals
          refine wp_region_class (fun w' => Below W2.heap.size W2 w') (by kernel_rfl) (by kernel_rfl) (Below.refl _ _).drew ?_
          iterate 8
            (refine WQ.yes ?_ (by rfl) (fun w' hC => ?_) ?_
             rotate_left
             · (obtain ⟨x1, x2, x3, x4⟩ := (K.m.below hC).cells
                obtain ⟨u1, u2⟩ := (K.n.below hC).cells
                go_simp
                first
                  | done
                  | with_reducible rfl
                  | exact ⟨rfl, rfl⟩
                  | (go_at_call 45; (with_reducible exact quietA4 (CO.out _) hC)))
             (try simp only [Act.put, List.setIfInBounds_toArray, List.set_cons_zero, List.set_cons_succ]))
          refine WQ.nil ?_
          intro wz hX
          go_wp2
          go_meet
          exact CutG.of hX
      obtain ⟨rfl, hX⟩ := hcut
      replace K := K.next hX
      clear hX
      have HR := Lib.hid (B4.put (p' := p0) (q' := p1) (r' := p2) (s' := p3) K.z)
      have HB := Lib.hid (below_put4 (x := cz) (p' := p0) (q' := p1) (r' := p2) (s' := p3) K.below AP.out.lz)
      obtain ⟨x1, x2, x3, x4⟩ := K.p.cells
      obtain ⟨y1, y2, y3, y4⟩ := B4.cells K.z
      obtain ⟨f1, f2, f3, f4⟩ := B4.free K.z
      clear K AP CO S
      go_wp2_with fail
      generalize World.setCell (World.setCell (World.setCell (World.setCell wc _ _) _ _) _ _) _ _ = V9 at HR HB ⊢
      obtain ⟨r1, r2, r3, r4⟩ := HR.out.cells
      simp only [Exit.jump]
      refine bodyPost_ret (by simp [results, Try.results38, go_sem, r1, r2, r3, r4]; try rfl) rfl ?_
      exact ⟨p0, p1, p2, p3, by rw [← HE.out]; exact HP.out, rfl, HB.out⟩
    · go_cut [16] (CutG W2 false)
      case first =>
        rcases nz.out with ⟨e1, e2⟩ | ⟨rfl, e1, e2⟩
        all_goals
          rcases no.out with ⟨e3, e4⟩ | ⟨rfl, e3, e4⟩ | ⟨rfl, rfl, e3, e4⟩ | ⟨rfl, rfl, rfl, e3, e4⟩
          all_goals
            refine wp_region_class (fun w' => Below W2.heap.size W2 w') (by kernel_rfl) (by kernel_rfl) (Below.refl _ _).drew ?_
            iterate 8
              (refine WQ.yes ?_ (by rfl) (fun w' hC => ?_) ?_
               rotate_left
               · (obtain ⟨x1, x2, x3, x4⟩ := (K.m.below hC).cells
                  obtain ⟨u1, u2⟩ := (K.n.below hC).cells
                  go_simp
                  first
                    | done
                    | with_reducible rfl
                    | exact ⟨rfl, rfl⟩
                    | (go_at_call 45; (with_reducible exact quietA4 (CO.out _) hC)))
               (try simp only [Act.put, List.setIfInBounds_toArray, List.set_cons_zero, List.set_cons_succ]))
            refine WQ.nil ?_
            intro wz hX
            go_wp2
            go_meet
            exact CutG.of hX
      obtain ⟨rfl, hX⟩ := hcut
      replace K := K.next hX
      clear hX
      obtain ⟨x1, x2⟩ := K.n.cells
      go_wp2_with fail
      refine (B.out _).mono ?_
      rintro e W3 ⟨rfl, hb⟩
      clear x1 x2 B
      have K3 := Lib.hid (K.next hb)
      clear K hb
      obtain ⟨x1, x2, x3, x4⟩ := K3.out.m.cells
      go_wp2_with fail
      refine (T.out _).mono ?_
      rintro e W5 ⟨rfl, hb⟩
      clear x1 x2 x3 x4 T
      have K5 := Lib.hid (K3.out.next hb)
      clear K3 hb
      obtain ⟨x1, x2, x3, x4⟩ := K5.out.m.cells
      obtain ⟨f1, f2, f3, f4⟩ := K5.out.m.free
      have K6 := Lib.hid (K5.out.putm AP.out k0 k1 k2 k3)
      clear K5
      go_upto_region 7 with fail
      clear x1 x2 x3 x4 f1 f2 f3 f4
      generalize World.setCell (World.setCell (World.setCell (World.setCell W5 _ _) _ _) _ _) _ _ = V6 at K6 ⊢
      obtain ⟨x1, x2⟩ := K6.out.n.cells
      go_wp2_with fail
      refine (G.out _).mono ?_
      rintro e W7 ⟨rfl, hb⟩
      clear x1 x2 G
      have K7 := Lib.hid (K6.out.next hb)
      clear K6 hb
      obtain ⟨x1, x2⟩ := K7.out.n.cells
      obtain ⟨f1, f2⟩ := K7.out.n.free
      have K8 := Lib.hid (K7.out.putn AP.out h' l')
      clear K7
      go_wp2_with fail
      try go_step3
      refine ⟨rfl, ⟨n', b, _, m', h', l', k0, k1, k2, k3, _, _, _, _, _, _, _, _, _, _, _, _, _, _, _, _, _, _, _, _, _, _, _, _, _, _, _, _, rfl, st.out.1, HP.out, st.out.2.1, st.out.2.2.1, AP.out, K8.out⟩, ?_⟩
      rw [jM_is _ K8.out.n st.out.2.2.1, HM.out]
      exact st.out.2.2.2
    · go_cut [16] (CutG W2 false)
      case first =>
        rcases nz.out with ⟨e1, e2⟩ | ⟨rfl, e1, e2⟩
        all_goals
          rcases no.out with ⟨e3, e4⟩ | ⟨rfl, e3, e4⟩ | ⟨rfl, rfl, e3, e4⟩ | ⟨rfl, rfl, rfl, e3, e4⟩
          all_goals
            refine wp_region_class (fun w' => Below W2.heap.size W2 w') (by kernel_rfl) (by kernel_rfl) (Below.refl _ _).drew ?_
            iterate 8
              (refine WQ.yes ?_ (by rfl) (fun w' hC => ?_) ?_
               rotate_left
               · (obtain ⟨x1, x2, x3, x4⟩ := (K.m.below hC).cells
                  obtain ⟨u1, u2⟩ := (K.n.below hC).cells
                  go_simp
                  first
                    | done
                    | with_reducible rfl
                    | exact ⟨rfl, rfl⟩
                    | (go_at_call 45; (with_reducible exact quietA4 (CO.out _) hC)))
               (try simp only [Act.put, List.setIfInBounds_toArray, List.set_cons_zero, List.set_cons_succ]))
            refine WQ.nil ?_
            intro wz hX
            go_wp2
            go_meet
            exact CutG.of hX
      obtain ⟨rfl, hX⟩ := hcut
      replace K := K.next hX
      clear hX
      obtain ⟨x1, x2⟩ := K.n.cells
      go_wp2_with fail
      refine (B.out _).mono ?_
      rintro e W3 ⟨rfl, hb⟩
      clear x1 x2 B
      have K3 := Lib.hid (K.next hb)
      clear K hb
      obtain ⟨x1, x2, x3, x4⟩ := K3.out.p.cells
      obtain ⟨y1, y2, y3, y4⟩ := K3.out.m.cells
      go_wp2_with fail
      refine (T0.out _).mono ?_
      rintro e W4 ⟨rfl, hb⟩
      clear x1 x2 x3 x4 y1 y2 y3 y4 T0
      have K4 := Lib.hid (K3.out.next hb)
      clear K3 hb
      obtain ⟨x1, x2, x3, x4⟩ := K4.out.p.cells
      obtain ⟨f1, f2, f3, f4⟩ := K4.out.p.free
      have K4b := Lib.hid (K4.out.putp AP.out q0 q1 q2 q3)
      clear K4
      go_upto_region 6 with fail
      clear x1 x2 x3 x4 f1 f2 f3 f4
      generalize World.setCell (World.setCell (World.setCell (World.setCell W4 _ _) _ _) _ _) _ _ = V4 at K4b ⊢
      obtain ⟨x1, x2, x3, x4⟩ := K4b.out.m.cells
      go_wp2_with fail
      refine (T.out _).mono ?_
      rintro e W5 ⟨rfl, hb⟩
      clear x1 x2 x3 x4 T
      have K5 := Lib.hid (K4b.out.next hb)
      clear K4b hb
      obtain ⟨x1, x2, x3, x4⟩ := K5.out.m.cells
      obtain ⟨f1, f2, f3, f4⟩ := K5.out.m.free
      have K6 := Lib.hid (K5.out.putm AP.out k0 k1 k2 k3)
      clear K5
      go_upto_region 7 with fail
      clear x1 x2 x3 x4 f1 f2 f3 f4
      generalize World.setCell (World.setCell (World.setCell (World.setCell W5 _ _) _ _) _ _) _ _ = V6 at K6 ⊢
      obtain ⟨x1, x2⟩ := K6.out.n.cells
      go_wp2_with fail
      refine (G.out _).mono ?_
      rintro e W7 ⟨rfl, hb⟩
      clear x1 x2 G
      have K7 := Lib.hid (K6.out.next hb)
      clear K6 hb
      obtain ⟨x1, x2⟩ := K7.out.n.cells
      obtain ⟨f1, f2⟩ := K7.out.n.free
      have K8 := Lib.hid (K7.out.putn AP.out h' l')
      clear K7
      go_wp2_with fail
      try go_step3
      refine ⟨rfl, ⟨n', b, _, m', h', l', k0, k1, k2, k3, _, _, _, _, _, _, _, _, _, _, _, _, _, _, _, _, _, _, _, _, _, _, _, _, _, _, _, _, rfl, st.out.1, st.out.2.2.2.2, st.out.2.1, st.out.2.2.1, AP.out, K8.out⟩, ?_⟩
      rw [jM_is _ K8.out.n st.out.2.2.1, HM.out]
      exact st.out.2.2.2.1
  · intro body
    clear S
    have BODY := Lib.hid body
    clear body
    go_wp2_with fail
    refine (CO.out _).mono ?_
    rintro e V5 ⟨rfl, hb⟩
    have NB := B4.new V5 0 1 0 0
    have hX := below_then hb (below_allocs V5 (.cells #[.int .u64 0, .int .u64 1, .int .u64 0, .int .u64 0] 55))
    have nb : ∀ c : Nat, c < V4.heap.size → c ≠ V5.heap.size := fun c hc => Nat.ne_of_lt (Nat.lt_of_lt_of_le hc hb.size)
    have HF := Lib.hid (And.intro (HK.out.1.below hX) (And.intro (HK.out.2.1.below hX) (And.intro (B4.below HK.out.2.2 hX) (And.intro NB (below_then HB0.out hX)))))
    have HA := Lib.hid (Apart.mk HA2.out.1 HA2.out.2.1 HA2.out.2.2.1 (Nat.le_trans HB0.out.size hb.size) HA2.out.2.2.2.1 (nb _ HK.out.1.lt) (nb _ HK.out.2.1.lt) HA2.out.2.2.2.2.1 HA2.out.2.2.2.2.2 (nb _ (B4.lt HK.out.2.2)))
    clear NB hX nb HK HA2 CO hb HB0
    go_wp2_with fail
    go_step3
    simp only [Exit.then]
    apply_assumption
    exact BODY.out _ _ ⟨n0, V5.heap.size, Mp.one, m00, h0, l0, a0, a1, a2, a3, 0, 1, 0, 0, _, _, _, _, _, _, _, _, _, _, _, _, _, _, _, _, _, _, _, _, _, _, _, _, rfl, I.out.1, I.out.2.1, I.out.2.2.1, I.out.2.2.2, HA.out, ⟨HF.out.1, HF.out.2.1, HF.out.2.2.1, HF.out.2.2.2.1, HF.out.2.2.2.2⟩⟩
theorem nz_of {h l : Int} (e : ¬ (h = 0 ∧ l = 0)) : Nz h l := by
  by_cases a : h = 0
  · exact Or.inr ⟨a, by simp; exact fun b => e ⟨a, b⟩, eq_false fun b => e ⟨a, b⟩⟩
  · exact Or.inl ⟨by simpa using a, eq_false a⟩
theorem no1_of {a b c d : Int} (e : ¬ (a = 0 ∧ b = 1 ∧ c = 0 ∧ d = 0)) : No1 a b c d := by
  by_cases h1 : a = 0
  · by_cases h2 : b = 1
    · by_cases h3 : c = 0
      · have h4 : ¬ d = 0 := fun x => e ⟨h1, h2, h3, x⟩
        exact Or.inr (Or.inr (Or.inr ⟨h1, h2, h3, by simpa using h4, eq_false h4⟩))
      · exact Or.inr (Or.inr (Or.inl ⟨h1, h2, by simpa using h3, eq_false h3⟩))
    · exact Or.inr (Or.inl ⟨h1, by simpa using h2, eq_false h2⟩)
  · exact Or.inl ⟨by simpa using h1, eq_false h1⟩
theorem wn_zero {h l : Int} {n : Nat} (i : Wn h l n) (e : h = 0 ∧ l = 0) : n = 0 := by
  have := i.eq
  omega
theorem wn_nz {h l : Int} {n : Nat} (i : Wn h l n) (e : ¬ (h = 0 ∧ l = 0)) : n / 2 < n := by
  have := i.eq
  have := i.h0
  have := i.l0
  omega
theorem ws_one {m : Mp} {a b c d : Int} (k : Ws m a b c d) (e : a = 0 ∧ b = 1 ∧ c = 0 ∧ d = 0) : m = Mp.one := by
  obtain ⟨e1, e2, e3, e4⟩ := e
  obtain ⟨k1, k2, k3, k4⟩ := k
  unfold hiW at k1 k3
  unfold loW at k2 k4
  refine Mp.same ?_ ?_
  · show m.A = 1
    omega
  · show m.C = 0
    omega
theorem tm_then {p m : Mp} {p0 p1 p2 p3 m0 m1 m2 m3 : Int} (hp : p.Ok) (hm : m.Ok) (wp : Ws p p0 p1 p2 p3) (wm : Ws m m0 m1 m2 m3) : TM 39 #[.agg #[.int .u64 p0, .int .u64 p1, .int .u64 p2, .int .u64 p3], .agg #[.int .u64 m0, .int .u64 m1, .int .u64 m2, .int .u64 m3]]
    ((hiW (thenM p m).A : Nat) : Int) ((loW (thenM p m).A : Nat) : Int) ((hiW (thenM p m).C : Nat) : Int) ((loW (thenM p m).C : Nat) : Int) := fun V => by
  obtain ⟨rfl, rfl, rfl, rfl⟩ := wp
  obtain ⟨rfl, rfl, rfl, rfl⟩ := wm
  exact xThenM p m V hp hm
theorem pway {R : Mp} {n : Nat} {p m : Mp} {h l m0 m1 m2 m3 p0 p1 p2 p3 : Int} (s : PSt R n p m) (wp : Ws p p0 p1 p2 p3) (wm : Ws m m0 m1 m2 m3) (i : Wn h l n) : PWay R n p m h l m0 m1 m2 m3 p0 p1 p2 p3 := by
  have is := s.is
  by_cases z : h = 0 ∧ l = 0
  · refine .zero z.1 z.2 (Lib.hid ?_)
    rw [wn_zero i z, pow_zero, then_one s.okp] at is
    exact is
  · by_cases o : m0 = 0 ∧ m1 = 1 ∧ m2 = 0 ∧ m3 = 0
    · refine .one (Lib.hid (nz_of z)) o.1 o.2.1 o.2.2.1 o.2.2.2 (Lib.hid ?_)
      rw [ws_one wm o, pow_one_any, then_one s.okp] at is
      exact is
    · have lt := wn_nz i z
      have wh : n / 2 < 340282366920938463463374607431768211456 := Nat.lt_of_le_of_lt (Nat.div_le_self _ _) i.lt
      rw [pow_half s.okm n] at is
      by_cases b : n % 2 = 1
      · rw [if_pos b, ← then_assoc] at is
        exact .odd (Lib.hid (nz_of z)) (Lib.hid (no1_of o)) (Lib.hid fun V => cBit0 i 1 (by omega) V) (thenM p m) _ _ _ _ (Lib.hid (tm_then s.okp s.okm wp wm)) (thenM m m) _ _ _ _ (Lib.hid (tm_then s.okm s.okm wm wm)) (n / 2) _ _ (Lib.hid fun V => cRight1 i V) (Lib.hid ⟨⟨thenM_ok _ _, thenM_ok _ _, is⟩, Ws.of _, wn_of wh, lt, Ws.of _⟩)
      · rw [if_neg b, one_then (powM_ok _ _)] at is
        exact .even (Lib.hid (nz_of z)) (Lib.hid (no1_of o)) (Lib.hid fun V => cBit0 i 0 (by omega) V) (thenM m m) _ _ _ _ (Lib.hid (tm_then s.okm s.okm wm wm)) (n / 2) _ _ (Lib.hid fun V => cRight1 i V) (Lib.hid ⟨⟨s.okp, thenM_ok _ _, is⟩, Ws.of _, wn_of wh, lt⟩)
theorem xPowerBy (m : Mp) (h l : Int) (n : Nat) (W : World) (hm : m.Ok) (i : Wn h l n) : Calls Try.prog 38 #[(.func (.func 39) #[] #[]), m.val, .agg #[.int .u64 h, .int .u64 l]] W (AnsM (powM m n) W) := by
  refine (pbMain _ _ _ _ h l (powM m n) n m W (Lib.hid xOne) (Lib.hid fun n p m h l m0 m1 m2 m3 p0 p1 p2 p3 a b c d => pway a b c d) (Lib.hid ⟨⟨Mp.Ok.one, hm, one_then (powM_ok _ _)⟩, ⟨rfl, rfl, rfl, rfl⟩, Ws.of m, i⟩)).mono ?_
  rintro e w' ⟨p0, p1, p2, p3, ⟨rfl, rfl, rfl, rfl⟩, rfl, hb⟩
  exact ⟨rfl, hb⟩
set_option maxHeartbeats 4000000 in
theorem powMain (a0 a1 a2 a3 h l p0 p1 p2 p3 : Int) (w : World)
    (C : Hid (TM 38 #[(.func (.func 39) #[] #[]), .agg #[.int .u64 a0, .int .u64 a1, .int .u64 a2, .int .u64 a3], .agg #[.int .u64 h, .int .u64 l]] p0 p1 p2 p3)) :
    Calls Try.prog 29 #[.agg #[.int .u64 a0, .int .u64 a1, .int .u64 a2, .int .u64 a3], .agg #[.int .u64 h, .int .u64 l]] w (fun e w' => e = .returned (.agg #[.int .u64 p0, .int .u64 p1, .int .u64 p2, .int .u64 p3]) ∧ Below w.heap.size w w') := by
  have U := B4.new w a0 a1 a2 a3
  have z1 : (w.alloc (.cells #[.int .u64 a0, .int .u64 a1, .int .u64 a2, .int .u64 a3] 55)).heap.size = w.heap.size + 1 := Array.size_push _
  have LW := below_allocs w (.cells #[.int .u64 a0, .int .u64 a1, .int .u64 a2, .int .u64 a3] 55)
  have H1 := Lib.hid (And.intro U (And.intro z1 LW))
  clear U z1 LW
  go_enter Try.func29, Try.ntmps29
  go_upto_region 1 with fail
  generalize w.alloc _ = V1 at H1 ⊢
  have UX := U2.new V1 h l
  have z2 : (V1.alloc (.cells #[.int .u64 h, .int .u64 l] 24)).heap.size = w.heap.size + 1 + 1 := (Array.size_push _).trans (by rw [H1.out.2.1])
  rw [H1.out.2.1] at UX
  have LB := below_allocs V1 (.cells #[.int .u64 h, .int .u64 l] 24)
  have H2 := Lib.hid (And.intro (H1.out.1.below LB) (And.intro UX (And.intro z2 (below_then H1.out.2.2 LB))))
  clear UX z2 LB H1
  generalize V1.alloc _ = V2 at H2 ⊢
  have UZ := B4.new V2 0 0 0 0
  rw [H2.out.2.2.1] at UZ
  have LB := below_allocs V2 (.cells #[.int .u64 0, .int .u64 0, .int .u64 0, .int .u64 0] 55)
  have HK := Lib.hid (And.intro (H2.out.1.below LB) (And.intro (H2.out.2.1.below LB) (And.intro UZ (below_then H2.out.2.2.2 LB))))
  clear UZ LB H2
  generalize V2.alloc _ = V4 at HK ⊢
  have hz : w.heap.size ≤ w.heap.size + 1 + 1 := Nat.le_trans (Nat.le_succ _) (Nat.le_succ _)
  generalize w.heap.size + 1 + 1 = cz at HK hz ⊢
  generalize w.heap.size + 1 = cn at HK ⊢
  obtain ⟨x1, x2, x3, x4⟩ := HK.out.1.cells
  obtain ⟨y1, y2⟩ := HK.out.2.1.cells
  go_wp2_with fail
  clear x1 x2 x3 x4 y1 y2
  refine (C.out _).mono ?_
  rintro e V5 ⟨rfl, hb⟩
  have Z := B4.below HK.out.2.2.1 hb
  have HR := Lib.hid (B4.put (p' := p0) (q' := p1) (r' := p2) (s' := p3) Z)
  have HB := Lib.hid (below_put4 (x := cz) (p' := p0) (q' := p1) (r' := p2) (s' := p3) (below_then HK.out.2.2.2 hb) hz)
  obtain ⟨y1, y2, y3, y4⟩ := B4.cells Z
  obtain ⟨f1, f2, f3, f4⟩ := B4.free Z
  clear HK Z hb C
  go_wp2_with fail
  generalize World.setCell (World.setCell (World.setCell (World.setCell V5 _ _) _ _) _ _) _ _ = V9 at HR HB ⊢
  obtain ⟨r1, r2, r3, r4⟩ := HR.out.cells
  try simp only [Exit.inBlock, Exit.then, Exit.noGoto]
  refine bodyPost_ret (by simp [results, Try.results29, go_sem, r1, r2, r3, r4]; try rfl) rfl ?_
  exact ⟨rfl, HB.out⟩
theorem xPowM (m : Mp) (h l : Int) (n : Nat) (W : World) (hm : m.Ok) (i : Wn h l n) : Calls Try.prog 29 #[m.val, .agg #[.int .u64 h, .int .u64 l]] W (AnsM (powM m n) W) :=
  powMain _ _ _ _ h l _ _ _ _ W (Lib.hid fun V => xPowerBy m h l n V hm i)
end Go.Proofs.Ythnmekieanndgaa
