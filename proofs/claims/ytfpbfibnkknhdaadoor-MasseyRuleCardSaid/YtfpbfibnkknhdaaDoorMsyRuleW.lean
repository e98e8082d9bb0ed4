/-
  The walks of MasseyRule. Made by wip/gen/msylaws.py.
-/
import Derived.Test.YtfpbfibnkknhdaaDoorMsyK
namespace Go.Proofs.YtfpbfibnkknhdaaDoor
open Go.RowKit G
set_option linter.unusedVariables false

theorem rl_ext {s t : Nat → Bool} {m p : Nat} (h : ∀ i, i < m → s i = t i) (k : Rl s m p) : Rl t m p :=
  ⟨k.1, fun i hi => by rw [← k.2 i hi]; exact (od_ext (fun j hj => h _ (by omega))).symm⟩
theorem rw_take (l : List Bool) (k i : Nat) (h : i < k) : rw_ l i = rw_ (l.take k) i := by
  unfold rw_
  rw [List.getD_eq_getElem?_getD, List.getD_eq_getElem?_getD, List.getElem?_take, if_pos h]
theorem br_take (l : List Bool) (k : Nat) (h : k ≤ l.length) : len (br (l.take k)) ≤ len (br l) := by
  have a := (br_least l l.length rfl).1
  have b := (br_least (l.take k) k (by rw [List.length_take]; omega)).2
  exact b _ (rl_ext (fun i hi => rw_take l k i hi) (a.less h))
set_option maxRecDepth 100000 in
set_option maxHeartbeats 4000000 in
theorem ruleLarge (Al : Option Addr) (cl M c : Nat) (l : List Bool) (w : World) (TT : Tab w) (h0 : 300 < M) :
    Calls Tryd.prog 4 #[.slice Al M cl, .int .u16 (c : Int)] w (Bl true w) := by
  go_enter Tryd.func4, Tryd.ntmps4
  go_wp2_with fail
  refine (awake5 _ TT).mono ?_
  rintro e w1 ⟨rfl, hb⟩
  go_wp2_with fail
  go_ret
  exact ⟨rfl, hb⟩
set_option maxRecDepth 100000 in
set_option maxHeartbeats 4000000 in
theorem ruleYes (ad : Addr) (cl M c k : Nat) (l : List Bool) (w : World) (Rl_ : Brs w (some ad) cl l) (Rk : Brs w (some ad) cl (l.take k)) (TT : Tab w) (hl : Hid (l.length = M)) (sm : M ≤ 300) (km : Hid (M ≤ 4611686018427387904)) (kl : Hid (M ≤ 2048)) (lk : Hid ((l.take k).length = k)) (kk : k ≤ M) (kc : Hid (k ≤ 2048)) (bc : c ≤ 65535) (ek : (c : Int) % ((M : Int) + 1) = (k : Int)) (k0 : (0 : Int) ≤ (k : Int)) (k1 : (k : Int) ≤ (M : Int)) (m0 : (0 : Int) < (M : Int) + 1) (hcl : M ≤ cl) (k2 : (k : Int) ≤ (cl : Int)) (d f : Nat) (eD : Hid ((len (br l) : Int) - 1 = (d : Int))) (eF : Hid ((len (br (l.take k)) : Int) - 1 = (f : Int))) (d0 : (0 : Int) ≤ (d : Int)) (dM : (d : Int) ≤ (M : Int)) (df : (f : Int) ≤ (d : Int)) (N : Nat) (eN : Hid (br l = N)) (e2 : Hid (2 * len N ≤ M + 2)) (e3 : 2 * (d : Int) ≤ (M : Int)) (kN : Hid ((wordsOf N).length ≤ 50000)) (yr : Hid (Rb true (rw_ l) M N)) (eQ : Hid ((len N : Int) - 1 = (d : Int))) :
    Calls Tryd.prog 4 #[.slice (some ad) M cl, .int .u16 (c : Int)] w (Bl true w) := by
  go_enter Tryd.func4, Tryd.ntmps4
  have hB : Below w.heap.size w w := Below.refl _ _
  go_wp2_with fail
  refine (awake5 _ TT).mono ?_
  rintro e w1 ⟨rfl, hb⟩
  replace Rl_ := Rl_.below hb
  replace Rk := Rk.below hb
  replace TT := TT.below hb
  replace hB := below_then hB hb
  clear hb
  go_wp2_with fail
  refine (gLength (d : Int) Rl_ TT hl.out kl.out eD.out).mono ?_
  rintro e w2 ⟨rfl, hb⟩
  replace Rl_ := Rl_.below hb
  replace Rk := Rk.below hb
  replace TT := TT.below hb
  replace hB := below_then hB hb
  clear hb
  go_wp2_with fail
  refine (gLeastYes N Rl_ TT hl.out kl.out eN.out e2.out).mono ?_
  rintro e w3 ⟨A3, c3, rfl, Pq, hb⟩
  replace Rl_ := Rl_.below hb
  replace Rk := Rk.below hb
  replace TT := TT.below hb
  replace hB := below_then hB hb
  clear hb
  go_wp2_with fail
  refine (gRule N true Pq Rl_ TT rfl (leN_wordsOf N) hl.out kN.out km.out yr.out).mono ?_
  rintro e w4 ⟨rfl, hb⟩
  replace Rl_ := Rl_.below hb
  replace Rk := Rk.below hb
  replace TT := TT.below hb
  replace Pq := Pq.below hb
  replace hB := below_then hB hb
  clear hb
  go_wp2_with fail
  refine (gDeg (d : Int) Pq rfl (by rw [leN_wordsOf]; exact eQ.out) kN.out).mono ?_
  rintro e w5 ⟨rfl, rfl⟩
  clear Pq
  go_wp2_with fail
  refine (gLength (f : Int) Rk TT lk.out kc.out eF.out).mono ?_
  rintro e w6 ⟨rfl, hb⟩
  replace Rl_ := Rl_.below hb
  replace Rk := Rk.below hb
  replace TT := TT.below hb
  replace hB := below_then hB hb
  clear hb
  go_wp2_with fail
  go_ret
  exact ⟨rfl, hB⟩
set_option maxRecDepth 100000 in
set_option maxHeartbeats 4000000 in
theorem ruleNo (ad : Addr) (cl M c k : Nat) (l : List Bool) (w : World) (Rl_ : Brs w (some ad) cl l) (Rk : Brs w (some ad) cl (l.take k)) (TT : Tab w) (hl : Hid (l.length = M)) (sm : M ≤ 300) (km : Hid (M ≤ 4611686018427387904)) (kl : Hid (M ≤ 2048)) (lk : Hid ((l.take k).length = k)) (kk : k ≤ M) (kc : Hid (k ≤ 2048)) (bc : c ≤ 65535) (ek : (c : Int) % ((M : Int) + 1) = (k : Int)) (k0 : (0 : Int) ≤ (k : Int)) (k1 : (k : Int) ≤ (M : Int)) (m0 : (0 : Int) < (M : Int) + 1) (hcl : M ≤ cl) (k2 : (k : Int) ≤ (cl : Int)) (d f : Nat) (eD : Hid ((len (br l) : Int) - 1 = (d : Int))) (eF : Hid ((len (br (l.take k)) : Int) - 1 = (f : Int))) (d0 : (0 : Int) ≤ (d : Int)) (dM : (d : Int) ≤ (M : Int)) (df : (f : Int) ≤ (d : Int)) (e2 : Hid (M + 2 < 2 * len (br l))) (e3 : ¬ (2 * (d : Int) ≤ (M : Int))) :
    Calls Tryd.prog 4 #[.slice (some ad) M cl, .int .u16 (c : Int)] w (Bl true w) := by
  go_enter Tryd.func4, Tryd.ntmps4
  have hB : Below w.heap.size w w := Below.refl _ _
  go_wp2_with fail
  refine (awake5 _ TT).mono ?_
  rintro e w1 ⟨rfl, hb⟩
  replace Rl_ := Rl_.below hb
  replace Rk := Rk.below hb
  replace TT := TT.below hb
  replace hB := below_then hB hb
  clear hb
  go_wp2_with fail
  refine (gLength (d : Int) Rl_ TT hl.out kl.out eD.out).mono ?_
  rintro e w2 ⟨rfl, hb⟩
  replace Rl_ := Rl_.below hb
  replace Rk := Rk.below hb
  replace TT := TT.below hb
  replace hB := below_then hB hb
  clear hb
  go_wp2_with fail
  refine (gLeastNo Rl_ TT hl.out kl.out e2.out).mono ?_
  rintro e w3 ⟨rfl, hb⟩
  replace Rl_ := Rl_.below hb
  replace Rk := Rk.below hb
  replace TT := TT.below hb
  replace hB := below_then hB hb
  clear hb
  go_wp2_with fail
  refine (gLength (f : Int) Rk TT lk.out kc.out eF.out).mono ?_
  rintro e w4 ⟨rfl, hb⟩
  replace Rl_ := Rl_.below hb
  replace Rk := Rk.below hb
  replace TT := TT.below hb
  replace hB := below_then hB hb
  clear hb
  go_wp2_with fail
  go_ret
  exact ⟨rfl, hB⟩
set_option maxRecDepth 100000 in
set_option maxHeartbeats 4000000 in
theorem ruleNilYes (cl c k : Nat) (l : List Bool) (w : World) (Rl_ : Brs w none cl l) (TT : Tab w) (hl : Hid (l.length = 0)) (kl : Hid (0 ≤ 2048)) (bc : c ≤ 65535)  (e0 : Hid ((len (br l) : Int) - 1 = 0)) (eN : Hid (br l = 1)) (yr : Hid (Rb true (rw_ l) 0 1)) :
    Calls Tryd.prog 4 #[.slice none 0 cl, .int .u16 (c : Int)] w (Bl true w) := by
  go_enter Tryd.func4, Tryd.ntmps4
  have hB : Below w.heap.size w w := Below.refl _ _
  go_wp2_with fail
  refine (awake5 _ TT).mono ?_
  rintro e w1 ⟨rfl, hb⟩
  replace Rl_ := Rl_.below hb
  replace TT := TT.below hb
  replace hB := below_then hB hb
  clear hb
  go_wp2_with fail
  refine (gLength 0 Rl_ TT hl.out (by decide) e0.out).mono ?_
  rintro e w2 ⟨rfl, hb⟩
  replace Rl_ := Rl_.below hb
  replace TT := TT.below hb
  replace hB := below_then hB hb
  clear hb
  go_wp2_with fail
  refine (gLeastYes 1 Rl_ TT hl.out (by decide) eN.out (by decide)).mono ?_
  rintro e w3 ⟨A3, c3, rfl, Pq, hb⟩
  replace Rl_ := Rl_.below hb
  replace TT := TT.below hb
  replace hB := below_then hB hb
  clear hb
  go_wp2_with fail
  refine (gRule 1 true Pq Rl_ TT rfl (leN_wordsOf 1) hl.out w1_ (by decide) yr.out).mono ?_
  rintro e w4 ⟨rfl, hb⟩
  replace Rl_ := Rl_.below hb
  replace TT := TT.below hb
  replace Pq := Pq.below hb
  replace hB := below_then hB hb
  clear hb
  go_wp2_with fail
  refine (gDeg 0 Pq rfl (by rw [leN_wordsOf]; decide) w1_).mono ?_
  rintro e w5 ⟨rfl, rfl⟩
  clear Pq
  go_wp2_with fail
  refine (gLength 0 (Brs.nil _ none cl (Brs.cap2 Rl_)) TT rfl (by decide) (by rw [brD]; decide)).mono ?_
  rintro e w6 ⟨rfl, hb⟩
  replace Rl_ := Rl_.below hb
  replace TT := TT.below hb
  replace hB := below_then hB hb
  clear hb
  go_wp2_with fail
  go_ret
  exact ⟨rfl, hB⟩
theorem ruleRowWalk (Al : Option Addr) (cl M c : Nat) (l : List Bool) (w : World) (R : Brs w Al cl l) (TT : Tab w) (hl : l.length = M) (bc : c ≤ 65535) :
    Calls Tryd.prog 4 #[.slice Al M cl, .int .u16 (c : Int)] w (Bl true w) := by
  by_cases h : 300 < M
  · exact ruleLarge Al cl M c l w TT h
  · have s3 : M ≤ 300 := by omega
    obtain ⟨b1, b2⟩ := br_least l M hl
    have e2 := br_len l
    rw [hl] at e2
    have hc := R.cap1
    have hc2 := R.cap2
    cases Al with
    | none =>
      have e0 : l = [] := by
        cases l with
        | nil => rfl
        | cons x r => obtain ⟨b, o, e, _⟩ := R.cell 0 (by simp); cases e
      subst e0
      obtain rfl : M = 0 := hl.symm
      rw [brD] at b1
      exact ruleNilYes cl c 0 [] w R TT (Lib.hid rfl) (Lib.hid (by decide)) bc (Lib.hid (by rw [brD]; decide)) (Lib.hid brD) (Lib.hid ⟨fun _ => b1, fun _ => rfl⟩)
    | some ad =>
      obtain ⟨k, hk⟩ : ∃ k, k = c % (M + 1) := ⟨_, rfl⟩
      have kk : k ≤ M := by have := Nat.mod_lt c (show 0 < M + 1 by omega); omega
      have ek : (c : Int) % ((M : Int) + 1) = (k : Int) := by rw [hk, Int.natCast_emod]; rfl
      have lk : (l.take k).length = k := by rw [List.length_take]; omega
      have bt := br_take l k (by omega)
      have e5 := br_len (l.take k)
      by_cases hy : 2 * len (br l) ≤ M + 2
      · exact ruleYes ad cl M c k l w R (R.take k) TT (Lib.hid hl) s3 (Lib.hid (by omega)) (Lib.hid (by omega)) (Lib.hid lk) kk (Lib.hid (by omega)) bc ek (by omega) (by omega) (by omega) (by omega) (by omega) (len (br l) - 1) (len (br (l.take k)) - 1) (Lib.hid (by omega)) (Lib.hid (by omega)) (by omega) (by omega) (by omega) (br l) (Lib.hid rfl) (Lib.hid hy) (by omega) (Lib.hid (br_words hl (by omega))) (Lib.hid ⟨fun _ => b1, fun _ => rfl⟩) (Lib.hid (by omega))
      · exact ruleNo ad cl M c k l w R (R.take k) TT (Lib.hid hl) s3 (Lib.hid (by omega)) (Lib.hid (by omega)) (Lib.hid lk) kk (Lib.hid (by omega)) bc ek (by omega) (by omega) (by omega) (by omega) (by omega) (len (br l) - 1) (len (br (l.take k)) - 1) (Lib.hid (by omega)) (Lib.hid (by omega)) (by omega) (by omega) (by omega) (Lib.hid (by omega)) (by omega)
end Go.Proofs.YtfpbfibnkknhdaaDoor
