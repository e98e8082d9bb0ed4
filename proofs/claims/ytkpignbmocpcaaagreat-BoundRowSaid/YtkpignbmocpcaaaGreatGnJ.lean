/-
  What the calls pass and Next of package cursor do for the kind Mix.
-/
import Derived.Test.YtkpignbmocpcaaaGreatGnI
import Derived.Laws.IdiomCopy
import Derived.Deep.RegionWith
namespace Go.Proofs.YtkpignbmocpcaaaGreat
open Go.RowKit
set_option linter.unusedVariables false
set_option maxRecDepth 100000

/-- Cells with a list laid over them from a place on. -/
def putL : Array Value → Nat → List Value → Array Value
  | cs, _, [] => cs
  | cs, o, v :: r => putL (cs.setIfInBounds o v) (o + 1) r
theorem Blk.setCells {t : TypeId} {b : Nat} : ∀ (vs : List Value) (o : Nat) {w : World} {cs : Array Value}, Blk t w b cs → Blk t (w.setCells b o vs) b (putL cs o vs)
  | [], _, _, _, h => h
  | v :: r, o, _, _, h => Blk.setCells r (o + 1) (h.set o v)
theorem Only.setCells {c : Nat} {w : World} : ∀ (vs : List Value) (o : Nat) {w' : World}, Only c w w' → Only c w (w'.setCells c o vs)
  | [], _, _, h => h
  | v :: r, o, _, h => Only.setCells r (o + 1) (h.set o v)
theorem size_setCells (c : Nat) : ∀ (vs : List Value) (o : Nat) (w : World), (w.setCells c o vs).heap.size = w.heap.size
  | [], _, _ => rfl
  | v :: r, o, w => by
    show ((w.setCell ⟨c, o, none⟩ v).setCells c (o + 1) r).heap.size = _
    rw [size_setCells c r (o + 1)]
    simp [World.setCell]
theorem put_cu (n p s s' : Int) (v : Value) : putL (cuC n p s v) 3 (stC s').toList = cuC n p s' v := by
  unfold cuC stC
  simp [putL]
/-- Another state into a cursor. -/
theorem list_store_cu {ops : Array Oper} {rest : List Oper} {o : Oper} {a : Act} {w : World} {Q : Exit → Act → World → Prop} {c : Nat} {n p s s' : Int} {v : Value} (hgd : o.guard = none) (x y : Operand) (ho : o.op = .store 106 x y)
    (hx : a.eval x = .pointer (some ⟨c, 3, none⟩)) (hy : a.eval y = .agg (stC s')) (h : Blk 114 w c (cuC n p s v))
    (k : ∀ w', Blk 114 w' c (cuC n p s' v) → Only c w w' → w'.heap.size = w.heap.size → wpList Tryz.prog ops Q rest (a.put o.dst undef) w') : wpList Tryz.prog ops Q (o :: rest) a w := by
  refine wpList_store_mid hgd _ x y ho c 3 (stC s') hx hy (fun j hj => ⟨?_, h.free _⟩) (by kernel_rfl) (by simp [stC, Value.oneCell']) (k _ ?_ ?_ ?_)
  · have hj' : j < (stC s).toList.length := by simpa [stC] using hj
    have e := cu_state n p s v j _ (List.getElem?_eq_getElem hj')
    rw [h.cell _ _ e]; rfl
  · rw [← put_cu n p s s' v]
    exact Blk.setCells _ _ h
  · exact Only.setCells _ _ (Only.of_below (Below.refl _ _))
  · exact size_setCells _ _ _ _
theorem cuFrees {w : World} {c : Nat} {n p s : Int} {v : Value} (h : Blk 114 w c (cuC n p s v)) : w.frozen? ⟨c, 1, none⟩ = false ∧ w.frozen? ⟨c, 2, none⟩ = false ∧ w.frozen? ⟨c, 18, none⟩ = false := ⟨h.free 1, h.free 2, h.free 18⟩
/-- What is left of a block that was made ahead: L words from the place o on. -/
def bufV (g o L : Nat) : Value := if L = 0 then .slice none 0 0 else .slice (some ⟨g, o, none⟩) L L
/-- A number and a state beside a cursor. -/
structure Pas (w : World) (c : Nat) (n p s s' : Int) (v : Value) (W : World) : Prop where
  u : UB 31 W w.heap.size 0 1
  z : Blk 106 W (w.heap.size + 1) (stC s')
  k : Blk 114 W c (cuC n p s v)
  o : Only c w W
  l : c < w.heap.size
theorem Pas.new {w : World} {c : Nat} {n p s : Int} {v : Value} (s' : Int) (h : Blk 114 w c (cuC n p s v)) : Pas w c n p s s' v ((w.alloc (.cells #[.int .u64 0, .int .u64 1] 31)).alloc (.cells (stC s') 106)) := by
  have U := UB.new w 0 1 31
  have B0 := below_allocs w (.cells #[.int .u64 0, .int .u64 1] 31)
  generalize hW : w.alloc (.cells #[.int .u64 0, .int .u64 1] 31) = W0 at U B0 ⊢
  have e0 : W0.heap.size = w.heap.size + 1 := by rw [← hW]; exact Array.size_push _
  have Z := Blk.new W0 (stC s') 106
  have B1 := below_allocs W0 (.cells (stC s') 106)
  rw [e0] at Z
  exact ⟨U.below B1, Z, (h.below B0).below B1, Only.of_below (below_then B0 B1), h.lt⟩
theorem Pas.below {w W W' : World} {c : Nat} {n p s s' : Int} {v : Value} (h : Pas w c n p s s' v W) (hb : Below W.heap.size W W') : Pas w c n p s s' v W' := ⟨h.u.below hb, h.z.below hb, h.k.below hb, h.o.trans (Only.of_below hb), h.l⟩
theorem Pas.drew {w W : World} {c : Nat} {n p s s' : Int} {v : Value} (h : Pas w c n p s s' v W) : Pas w c n p s s' v W.drew := h.below (below_drew W)
theorem place_cu (n p p' s : Int) (v : Value) : ((cuC n p s v).setIfInBounds 1 (.int .u64 0)).setIfInBounds 2 (.int .u64 p') = cuC n p' s v := by
  unfold cuC
  simp
theorem Pas.put {w W : World} {c : Nat} {n p s s' : Int} {v : Value} (h : Pas w c n p s s' v W) (p' : Int) : Pas w c n p' s s' v ((W.setCell ⟨c, 1, none⟩ (.int .u64 0)).setCell ⟨c, 2, none⟩ (.int .u64 p')) := by
  have hl := h.l
  have h1 := (UB.far h.u (a := ⟨c, 1, none⟩) (by show _ ≠ c; omega) (.int .u64 0)).far (a := ⟨c, 2, none⟩) (by show _ ≠ c; omega) (.int .u64 p')
  have h2 := (h.z.far (a := ⟨c, 1, none⟩) (by show _ ≠ c; omega) (.int .u64 0)).far (a := ⟨c, 2, none⟩) (by show _ ≠ c; omega) (.int .u64 p')
  have h3 := (h.k.set 1 (.int .u64 0)).set 2 (.int .u64 p')
  rw [place_cu] at h3
  exact ⟨h1, h2, h3, (h.o.set 1 _).set 2 _, h.l⟩
theorem cAdd1 {p : Nat} (hp : p < 9223372036854775808) (w : World) : Calls Tryz.prog 9 #[.agg #[.int .u64 0, .int .u64 (p : Int)], .agg #[.int .u64 0, .int .u64 1]] w (fun e w' => e = .returned (.tuple #[.agg #[.int .u64 0, .int .u64 ((p + 1 : Nat) : Int)], .bool false]) ∧ Below w.heap.size w w') := by
  refine (cAdd (M := p) (N := 1) ⟨by decide, by decide, by omega, by omega, by omega⟩ ⟨by decide, by decide, by decide, by decide, by decide⟩ w).mono ?_
  rintro e w' ⟨rfl, hb⟩
  have e0 : (p + 1) % Q = p + 1 := by
    show (p + 1) % 340282366920938463463374607431768211456 = _
    omega
  refine ⟨?_, hb⟩
  rw [e0, decide_eq_false (by show ¬ (340282366920938463463374607431768211456 ≤ p + 1); omega)]
  have e1 : hiW (p + 1) = 0 := by unfold hiW; omega
  have e2 : loW (p + 1) = p + 1 := by unfold loW; omega
  rw [e1, e2]; rfl
theorem cOfL {L : Nat} (h : L < 18446744073709551616) (w : World) : Calls Tryz.prog 10 #[.int .u64 (L : Int)] w (fun e w' => e = .returned (.agg #[.int .u64 0, .int .u64 (L : Int)]) ∧ Below w.heap.size w w') := by
  have k := cOf L L rfl h w
  unfold AnsW at k
  rwa [show hiW L = 0 from Nat.div_eq_of_lt h, show loW L = L from Nat.mod_eq_of_lt h] at k
theorem cmp1 {L : Nat} (h : L < 18446744073709551616) (w : World) : Calls Tryz.prog 12 #[.agg #[.int .u64 0, .int .u64 1], .agg #[.int .u64 0, .int .u64 (L : Int)]] w (fun e w' => e = .returned (.int .i64 (cmpN 1 L)) ∧ Below w.heap.size w w') :=
  cmpW (M := 1) (by decide) h w
set_option maxHeartbeats 4000000 in
theorem cuPass {w : World} {c g o p s' L : Nat} {n s : Int} (hp : p < 9223372036854775808) (hL : 1 ≤ L) (hL8 : L ≤ 8) (h : Blk 114 w c (cuC n p s (.slice (some ⟨g, o, none⟩) L L))) :
    Calls Tryz.prog 52 #[.pointer (some ⟨c, 0, none⟩), .agg #[.int .u64 0, .int .u64 1], .agg (stC (s' : Int))] w (fun e w' => e = .returned (.tuple #[]) ∧ Blk 114 w' c (cuC n ((p + 1 : Nat) : Int) s' (bufV g (o + 1) (L - 1))) ∧ Only c w w') := by
  have K := Pas.new (s' : Int) h
  have CA := Lib.hid (cAdd1 hp)
  generalize ((p + 1 : Nat) : Int) = p' at CA ⊢
  go_enter Tryz.func52, Tryz.ntmps52
  go_upto_region 1 with fail
  generalize (w.alloc (.cells #[.int .u64 0, .int .u64 1] _)).alloc _ = W1 at K ⊢
  have K0 := Lib.hid K.drew
  obtain ⟨x1, x2⟩ := K.u.cells
  obtain ⟨k1, k2, k3, k4⟩ := cuCells K.k
  clear K h
  go_cut [6] (fun u wr => Pas w c n p' s s' (.slice (some ⟨g, o, none⟩) L L) wr)
  case first =>
    go_region_with (first
      | (go_at_call 9; (with_reducible refine (CA.out _).mono ?_); rintro e x1' ⟨rfl, hb⟩; have K2 := Lib.hid (K0.out.below hb); obtain ⟨y1, y2, y3, y4⟩ := cuCells K2.out.k; obtain ⟨f1, f2, f3⟩ := cuFrees K2.out.k; clear hb K0))
    all_goals
      go_wp2_with fail
      go_meet
      exact K2.out.put p'
  clear x1 x2 k1 k2 k3 k4 K0 CA
  have K3 := Lib.hid hcut
  clear hcut
  go_wp2_with (first | (refine list_load rfl _ rfl rfl K3.out.z ?_) | (refine list_store_cu rfl _ _ rfl rfl rfl K3.out.k ?_; intro w5 N0 NO NS) | fail)
  have U5 : UB 31 w5 w.heap.size 0 1 := (NO.block _ K3.out.u.lt (by have := K3.out.l; omega)).trans K3.out.u
  have HK := Lib.hid (And.intro U5 (And.intro N0 (And.intro (K3.out.o.trans NO) K3.out.l)))
  clear K3 U5 N0 NO NS
  have hw : IntKind.u64.wrap (L : Int) = (L : Int) := by rw [IntKind.wrap_u64]; omega
  have CO := Lib.hid (cOfL (L := L) (by omega))
  have C1 := Lib.hid (cmp1 (L := L) (by omega))
  have hr : (0 : Int) ≤ cmpN 1 L ↔ L = 1 := by unfold cmpN; constructor <;> intro h <;> (repeat' split at h) <;> (try split) <;> (try split) <;> omega
  generalize cmpN 1 L = r at C1 hr
  dsimp only [Act.put]
  go_cut [31] (fun u wr => u = .bool (decide (L = 1)) ∧ Below w5.heap.size w5 wr)
  case first =>
    refine wp_region_class (fun w' => Below w5.heap.size w5 w') (by kernel_rfl) (by kernel_rfl) (Below.refl _ _).drew ?_
    iterate 10
      (refine WQ.yes ?_ (by rfl) (fun w' hC => ?_) ?_
       rotate_left
       · (obtain ⟨x1, x2⟩ := (HK.out.1.below hC).cells
          obtain ⟨k1, k2, k3, k4⟩ := cuCells (HK.out.2.1.below hC)
          go_simp
          first | done | with_reducible rfl | exact ⟨rfl, rfl⟩ | (go_at_call 10; (with_reducible exact quietA (CO.out _) hC)) | (go_at_call 12; (with_reducible exact quietN (C1.out _) hC)))
       (try simp only [Act.put, List.setIfInBounds_toArray, List.set_cons_zero, List.set_cons_succ]))
    refine WQ.nil ?_
    intro wz hX
    go_wp2_with fail
    go_meet
    exact ⟨rfl, hX⟩
  obtain ⟨rfl, hB⟩ := hcut
  have H2 := Lib.hid (And.intro (HK.out.1.below hB) (And.intro (HK.out.2.1.below hB) (HK.out.2.2.1.trans (Only.of_below hB))))
  clear HK hB hr hw CO C1
  obtain ⟨x1, x2⟩ := H2.out.1.cells
  obtain ⟨k1, k2, k3, k4⟩ := cuCells H2.out.2.1
  obtain ⟨f1, f2, f3⟩ := cuFrees H2.out.2.1
  by_cases hl : L = 1
  · have R : Blk 114 (wc.setCell ⟨c, 18, none⟩ (.slice none 0 0)) c (cuC n p' s' (.slice none 0 0)) := H2.out.2.1.set 18 _
    have O := H2.out.2.2.set 18 (.slice none 0 0)
    clear H2
    go_wp2_with fail
    go_returns
    exact ⟨rfl, by rw [show bufV g (o + 1) (L - 1) = .slice none 0 0 from if_pos (by omega)]; exact R, O⟩
  · have R : Blk 114 (wc.setCell ⟨c, 18, none⟩ (.slice (some ⟨g, o + 1, none⟩) (L - 1) (L - 1))) c (cuC n p' s' (.slice (some ⟨g, o + 1, none⟩) (L - 1) (L - 1))) := H2.out.2.1.set 18 _
    have O := H2.out.2.2.set 18 (.slice (some ⟨g, o + 1, none⟩) (L - 1) (L - 1))
    clear H2
    have l1 : ¬ (L : Int) < 1 := by omega
    go_wp2_with fail
    go_region
    go_wp2_with fail
    go_end0
    exact ⟨rfl, by rw [show bufV g (o + 1) (L - 1) = .slice (some ⟨g, o + 1, none⟩) (L - 1) (L - 1) from if_neg (by omega)]; exact R, O.drew⟩
end Go.Proofs.YtkpignbmocpcaaaGreat
