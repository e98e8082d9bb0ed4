/-
  What the call Goes of the reference of layer 5 answers.
-/
import Derived.Test.YtfpbfibnkknhdaaDoorMsyR
import Derived.Laws.OwnMore
namespace Go.Proofs.YtfpbfibnkknhdaaDoor
open Go.RowKit G
set_option linter.unusedVariables false

/-- A list of bools that grows: a slice of the call's own. -/
structure GrowB (w : World) (v : Value) (l : List Bool) (wr : World) : Prop where
  own : wr.ownsRow w.heap.size 4 1 v l.length (l.map Value.bool)
  below : Below w.heap.size w wr
theorem GrowB.start (w : World) : GrowB w (.slice (some ⟨w.heap.size, 0, none⟩) 0 0) [] (w.alloc (.cells #[] 4)) :=
  ⟨World.ownsRow_made w #[] 0 (Nat.le_refl _) (by decide) rfl, below_alloc (Below.refl _ _) _⟩
theorem GrowB.far {w wr w' : World} {v : Value} {l : List Bool} (h : GrowB w v l wr) (hb : Below wr.heap.size wr w') : GrowB w v l w' := ⟨owns_below h.own hb, below_then h.below hb⟩
theorem GrowB.step {w wr w' : World} {v v' : Value} {l k : List Bool} (h : GrowB w v l wr) (hown : w'.ownsRow w.heap.size 4 1 v' (l.length + k.length) (l.map Value.bool ++ k.map Value.bool)) (hg : wr.grownBy w' v.ownBlock) : GrowB w v' (l ++ k) w' :=
  ⟨by rw [List.length_append, List.map_append]; exact hown, h.below.grown hg h.below.size (fun j hj => (h.own.lt j hj).1)⟩
theorem GrowB.brs {w wr : World} {v : Value} {l : List Bool} (h : GrowB w v l wr) : ∃ A cap, v = .slice A l.length cap ∧ Brs wr A cap l := by
  have own := h.own
  obtain ⟨hl, h2⟩ := id own
  rcases h2 with ⟨rfl, hn⟩ | ⟨g, cap, cur, rfl, hg, hh, hc, hm, rest⟩
  · have e : l = [] := List.eq_nil_of_length_eq_zero hn
    subst e
    exact ⟨none, 0, rfl, Brs.nil _ _ _ (by omega)⟩
  · refine ⟨some ⟨g, 0, none⟩, cap, rfl, hc, hm, fun i hi => ⟨g, 0, rfl, ?_⟩⟩
    have := own.cells (g := g) rfl i (.bool (l.getD i false)) (by simp [List.getElem?_eq_getElem hi])
    rw [Addr.add_lit] at this
    exact this
theorem one_bools (l : List Bool) : ∀ u ∈ l.map Value.bool, u.oneCell' = true := by
  intro u hu
  obtain ⟨n, _, rfl⟩ := List.mem_map.1 hu
  rfl
theorem newsB {w : World} {a : Addr} {cap : Nat} {l : List Bool} (h : Brs w (some a) cap l) : ∀ (j : Nat) (u : Value), (l.map Value.bool)[j]? = some u → w.cell? (a.add j) = some u := by
  intro j u hu
  rw [List.getElem?_map] at hu
  by_cases hj : j < l.length
  · obtain ⟨b, o, ea, hc⟩ := h.cell j hj
    obtain rfl : a = ⟨b, o, none⟩ := by simpa using ea
    rw [Addr.add_lit, hc]
    rw [List.getElem?_eq_getElem hj] at hu
    simp only [Option.map_some, Option.some.injEq] at hu
    rw [← hu, List.getD_eq_getElem?_getD, List.getElem?_eq_getElem hj]; rfl
  · rw [List.getElem?_eq_none (by omega)] at hu; cases hu
theorem Brs.alloc {w : World} {A : Option Addr} {cap : Nat} {l : List Bool} (h : Brs w A cap l) (o : Obj) : Brs (w.alloc o) A cap l := h.below (below_alloc (Below.refl _ _) o)
/-- The last part of a polynomial names a bit that isn't there yet. -/
theorem od_next {l : List Bool} {N L p : Nat} (hL : len N = L + 1) (hp : p + L = l.length) : od (rw_ l) N p = odN (rw_ l) N p L := by
  unfold od
  rw [hL, odN]
  have : rw_ l (p + L) = false := by unfold rw_; rw [List.getD_eq_getElem?_getD, List.getElem?_eq_none (by omega)]; rfl
  rw [this]; simp
/-- An answer that is a row of bits. -/
def AnsL (g : List Bool) (n : Nat) (w : World) (e : Ending) (w' : World) : Prop :=
  ∃ (A : Option Addr) (cap : Nat), e = .returned (.slice A n cap) ∧ Brs w' A cap g ∧ Below w.heap.size w w'
set_option maxRecDepth 100000 in
set_option maxHeartbeats 4000000 in
theorem rGoesWalk (A Al : Option Addr) (ca cl L M N many : Nat) (xs : List Nat) (l : List Bool) (hL : Hid (xs.length = L)) (hN : Hid (leB xs = N)) (hn : Hid (len N = L)) (hl : Hid (l.length = M)) (h0 : 2 ≤ L) (h1 : L ≤ M + 1) (b2 : M ≤ 1000000) (bm : many ≤ 2048) (w : World) (P : Hid (Lst w A ca xs)) (R : Hid (Brs w Al cl l)) :
    Calls Tryd.prog 11 #[.slice A L ca, .slice Al M cl, .int .i64 (many : Int)] w (AnsL (gs N l many) (M + many) w) := by
  obtain ⟨i0, hi, hz0, hz1, hz2⟩ := info_parts infoB
  have HI := Lib.hid hi
  have HZ0 := Lib.hid hz0
  have HZ1 := Lib.hid hz1
  have HZ2 := Lib.hid hz2
  clear hi hz0 hz1 hz2
  obtain ⟨bl, ol, rfl, -⟩ := R.out.cell 0 (by rw [hl.out]; omega)
  have lm : (l.map Value.bool).length = M * 1 := by rw [List.length_map, hl.out]; omega
  have LM := Lib.hid lm
  clear lm
  go_enter Tryd.func11, Tryd.ntmps11
  go_wp2_with (at_builtin; refine wpList_append_own _ rfl _ _ 24 rfl w.heap.size 4 i0 (.bool false) 1 1 Tryd.underlying24 HI.out HZ0.out HZ1.out HZ2.out rfl (by decide) _ _ _ rfl (GrowB.start w).own ⟨bl, ol, none⟩ M cl (l.map Value.bool) rfl LM.out (newsB (R.out.alloc _)) (one_bools _) (by unfold maxLen; simp; omega) (by simp; omega) (by simp) ?_; intro v w1 hown hgrow _; have GR := Lib.hid ((GrowB.start w).step (k := l) (by rw [hl.out]; exact hown) hgrow); clear hown hgrow)
  rw [List.nil_append] at GR
  clear LM
  have SZ1 := GR.out.below.size
  go_loopg [7, 8] many (fun g v i wr => ∃ k : Nat, k + g = many ∧ i = .int .i64 k ∧ Hid (GrowB w v (gs N l k) wr))
  case atStart => exact ⟨0, by omega, rfl, GR⟩
  case round =>
    clear GR SZ1
    obtain ⟨i, hi, rfl, G⟩ := hrel
    obtain ⟨go, rfl⟩ : ∃ go, go = gk := ⟨_, rfl⟩
    have gl := gs_len N l i
    rw [hl.out] at gl
    obtain ⟨A', cap, rfl, BR⟩ := G.out.brs
    by_cases hlt : i < many
    · have il : (i : Int) < (many : Int) := by omega
      have sz := G.out.below.size
      obtain ⟨wo, rfl⟩ : ∃ wo, wo = wr := ⟨_, rfl⟩
      obtain ⟨K, hK⟩ : ∃ K, L = K + 1 := ⟨L - 1, by omega⟩
      obtain ⟨q, hq⟩ : ∃ q, q = (gs N l i).length := ⟨_, rfl⟩
      have HK := Lib.hid hK
      have gown := G.out.own
      rw [← hq] at gown
      obtain ⟨p, hp⟩ : ∃ p, p = q + 1 - L := ⟨_, rfl⟩
      have e1 : (q : Int) - (L : Int) + 1 = (p : Int) := by omega
      have HS := Lib.hid (show gs N l (i + 1) = gs N l i ++ [odN (rw_ (gs N l i)) N p K] from by
        rw [gs, hl.out, hn.out, show M + i + 1 - L = p from by omega, od_next (L := K) (by rw [hn.out]; exact hK) (by omega)])
      have HG := Lib.hid (show GrowB w (.slice A' q cap) (gs N l i) _ from by rw [hq]; exact G.out)
      have BR' := Lib.hid BR
      have HQ := Lib.hid (show q = (gs N l i).length ∧ q = M + i ∧ p + K = q from by omega)
      have GO := Lib.hid gown
      rw [← hq]
      clear G BR gown hq gl hp hK
      have q9 : q ≤ 1002048 := by have := HQ.out; omega
      go_wp2_with fail
      go_loopg [9, 10] K (fun g v kk wr' => ∃ k n : Nat, k + g = K ∧ n ≤ k ∧ kk = .int .i64 k ∧ v = .int .i64 n ∧ Hid (decide (n % 2 = 1) = odN (rw_ (gs N l i)) N p k) ∧ wr' = wo)
      case atStart => exact ⟨0, 0, by omega, by omega, rfl, rfl, Lib.hid rfl, rfl⟩
      case round =>
        obtain ⟨k, n, hk, nk, rfl, rfl, HD, rfl⟩ := hrel
        by_cases hlt2 : k < K
        · have kl : (k : Int) + 1 < (L : Int) := by have := HK.out; omega
          have kl' : (k : Int) < (L : Int) := by have := HK.out; omega
          have k0 : (0 : Int) ≤ (k : Int) := by omega
          obtain ⟨b, o, rfl, q0⟩ := P.out.cell k (by rw [hL.out]; have := HK.out; omega)
          have q1 := (HG.out.below.cell (p := ⟨b, o + k, none⟩) (World.block_lt_of_cell? w _ q0)).trans q0
          obtain ⟨t, ht⟩ : ∃ t, t = p + k := ⟨_, rfl⟩
          have t1 : (p : Int) + (k : Int) = (t : Int) := by omega
          have t2 : (t : Int) < (q : Int) := by have := HQ.out; omega
          have t3 : (0 : Int) ≤ (t : Int) := by omega
          obtain ⟨b', o', rfl, q2⟩ := BR'.out.cell t (by have := HQ.out; omega)
          have hb : N.testBit k = decide (xs.getD k 0 = 1) := by rw [← hN.out]; exact bit_leB xs k P.out.bit
          have xb := P.out.bit.get k
          have HE := Lib.hid (show odN (rw_ (gs N l i)) N p (k + 1) = (odN (rw_ (gs N l i)) N p k ^^ (decide (xs.getD k 0 = 1) && (gs N l i).getD t false)) from by rw [odN, hb, ← ht]; rfl)
          clear ht hb q0
          generalize xs.getD k 0 = x at q1 xb HE
          generalize (gs N l i).getD t false = u at q2 HE
          by_cases hx : x = 1
          · subst hx
            cases u
            · go_wp2_with fail
              go_roundg (K - (k + 1))
              case measure => omega
              case rel => exact ⟨k + 1, n, by omega, by omega, by go_num, rfl, Lib.hid (by rw [HE.out, HD.out]; simp), rfl⟩
            · go_wp2_with fail
              go_roundg (K - (k + 1))
              case measure => omega
              case rel => exact ⟨k + 1, n + 1, by omega, by omega, by go_num, by go_num, Lib.hid (by
                rw [HE.out, ← HD.out]
                rcases Nat.mod_two_eq_zero_or_one n with e | e
                · rw [show (n + 1) % 2 = 1 from by omega, e]; rfl
                · rw [show (n + 1) % 2 = 0 from by omega, e]; rfl), rfl⟩
          · obtain rfl : x = 0 := by omega
            go_wp2_with fail
            go_roundg (K - (k + 1))
            case measure => omega
            case rel => exact ⟨k + 1, n, by omega, by omega, by go_num, rfl, Lib.hid (by rw [HE.out, HD.out]; simp), rfl⟩
        · obtain rfl : k = K := by omega
          have kl : ¬ ((k : Int) + 1 < (L : Int)) := by have := HK.out; omega
          have kb : k ≤ 1000001 := by have := HK.out; omega
          have HOD := Lib.hid HD.out
          rcases Nat.mod_two_eq_zero_or_one n with e | e
          · have e1 : (n : Int) % 2 = 0 := by omega
            have HV := Lib.hid (show odN (rw_ (gs N l i)) N p k = false from by rw [← HOD.out, e]; rfl)
            clear e
            go_wp2_with (at_builtin; (refine wpList_append_own _ rfl _ _ 24 rfl w.heap.size 4 i0 (.bool false) 1 1 Tryd.underlying24 HI.out HZ0.out HZ1.out HZ2.out rfl (by decide) _ _ _ rfl (GO.out.alloc _) _ 1 1 [.bool false] rfl rfl (new1 _ _ _) (by simp [Value.oneCell']) (by unfold maxLen; omega) (by omega) (by simp; omega) ?_); intro v' w2 hown hgrow _; have HO := Lib.hid hown; have HGR := Lib.hid hgrow; clear hown hgrow)
            have G2 := Lib.hid ((HG.out.far (below_alloc (Below.refl _ _) (.cells #[.bool false] 4))).step (k := [false]) (by rw [← HQ.out.1]; exact HO.out) HGR.out)
            rw [← HV.out, ← HS.out] at G2
            go_roundg (go - 1)
            case measure => omega
            case rel => exact ⟨i + 1, by omega, by go_num, G2⟩
          · have e1 : (n : Int) % 2 = 1 := by omega
            have HV := Lib.hid (show odN (rw_ (gs N l i)) N p k = true from by rw [← HOD.out, e]; rfl)
            clear e
            go_wp2_with (at_builtin; (refine wpList_append_own _ rfl _ _ 24 rfl w.heap.size 4 i0 (.bool false) 1 1 Tryd.underlying24 HI.out HZ0.out HZ1.out HZ2.out rfl (by decide) _ _ _ rfl (GO.out.alloc _) _ 1 1 [.bool true] rfl rfl (new1 _ _ _) (by simp [Value.oneCell']) (by unfold maxLen; omega) (by omega) (by simp; omega) ?_); intro v' w2 hown hgrow _; have HO := Lib.hid hown; have HGR := Lib.hid hgrow; clear hown hgrow)
            have G2 := Lib.hid ((HG.out.far (below_alloc (Below.refl _ _) (.cells #[.bool true] 4))).step (k := [true]) (by rw [← HQ.out.1]; exact HO.out) HGR.out)
            rw [← HV.out, ← HS.out] at G2
            go_roundg (go - 1)
            case measure => omega
            case rel => exact ⟨i + 1, by omega, by go_num, G2⟩
    · obtain rfl : i = many := by omega
      have il : ¬ ((i : Int) < (i : Int)) := by omega
      have BR' := Lib.hid BR
      rw [gl]
      clear BR gl
      go_wp2_with fail
      go_ret
      exact ⟨_, _, rfl, BR'.out, G.out.below⟩
theorem rGoes {A Al : Option Addr} {ca cl L M : Nat} {l : List Bool} {w : World} (N many n : Nat) (P : Lst w A ca (bitsOf N)) (R : Brs w Al cl l) (hL : (bitsOf N).length = L) (hl : l.length = M) (h0 : 2 ≤ len N) (h1 : len N ≤ M + 1) (b2 : M ≤ 1000000) (bm : many ≤ 2048) (hn : M + many = n) :
    Calls Tryd.prog 11 #[.slice A L ca, .slice Al M cl, .int .i64 (many : Int)] w (AnsL (gs N l many) n w) := by
  subst hn
  have e := bitsOf_len N
  exact rGoesWalk A Al ca cl L M N many _ l (Lib.hid hL) (Lib.hid (leB_bitsOf N)) (Lib.hid (by omega)) (Lib.hid hl) (by omega) (by omega) b2 bm w (Lib.hid P) (Lib.hid R)
end Go.Proofs.YtfpbfibnkknhdaaDoor
