/-
  The walks of MasseyNone. Made by wip/gen/msylaws.py.
-/
import Derived.Test.YtfpbfibnkknhdaaDoorMsyK
namespace Go.Proofs.YtfpbfibnkknhdaaDoor
open Go.RowKit G
set_option linter.unusedVariables false

set_option maxRecDepth 100000 in
set_option maxHeartbeats 4000000 in
theorem noneLarge (A B Al : Option Addr) (ca cb cl La Lb M : Nat) (xs ys : List Nat) (l : List Bool) (w : World) (TT : Tab w) (h : 2 < La ∨ 2 < Lb ∨ 300 < M) :
    Calls Tryd.prog 6 #[.slice A La ca, .slice B Lb cb, .slice Al M cl] w (Bl true w) := by
  by_cases h0 : 2 < La
  · go_enter Tryd.func6, Tryd.ntmps6
    go_wp2_with fail
    refine (awake5 _ TT).mono ?_
    rintro e w1 ⟨rfl, hb⟩
    go_wp2_with fail
    go_ret
    exact ⟨rfl, hb⟩
  · skip
    by_cases h1 : 2 < Lb
    · go_enter Tryd.func6, Tryd.ntmps6
      go_wp2_with fail
      refine (awake5 _ TT).mono ?_
      rintro e w1 ⟨rfl, hb⟩
      go_wp2_with fail
      go_ret
      exact ⟨rfl, hb⟩
    · skip
      have h2 : 300 < M := by omega
      clear h
      go_enter Tryd.func6, Tryd.ntmps6
      go_wp2_with fail
      refine (awake5 _ TT).mono ?_
      rintro e w1 ⟨rfl, hb⟩
      go_wp2_with fail
      go_ret
      exact ⟨rfl, hb⟩
set_option maxRecDepth 100000 in
set_option maxHeartbeats 4000000 in
theorem noneNot (A B Al : Option Addr) (ca cb cl La Lb M : Nat) (xs ys : List Nat) (l : List Bool) (w : World) (Pa : Pol w A ca xs) (Pb : Pol w B cb ys) (Rl_ : Brs w Al cl l) (TT : Tab w) (ha : Hid (xs.length = La)) (hb' : Hid (ys.length = Lb)) (hl : Hid (l.length = M)) (sa : La ≤ 2) (sb : Lb ≤ 2) (sm : M ≤ 300) (ka : Hid (La ≤ 50000)) (kb : Hid (Lb ≤ 50000)) (km : Hid (M ≤ 4611686018427387904)) (kl : Hid (M ≤ 2048)) (nr : Hid (Rb false (rw_ l) M (leN xs))) :
    Calls Tryd.prog 6 #[.slice A La ca, .slice B Lb cb, .slice Al M cl] w (Bl true w) := by
  go_enter Tryd.func6, Tryd.ntmps6
  have hB : Below w.heap.size w w := Below.refl _ _
  go_wp2_with fail
  refine (awake5 _ TT).mono ?_
  rintro e w1 ⟨rfl, hb⟩
  replace Pa := Pa.below hb
  replace Pb := Pb.below hb
  replace Rl_ := Rl_.below hb
  replace TT := TT.below hb
  replace hB := below_then hB hb
  clear hb
  go_wp2_with fail
  refine (gRule _ false Pa Rl_ TT ha.out rfl hl.out ka.out km.out nr.out).mono ?_
  rintro e w2 ⟨rfl, hb⟩
  replace Pa := Pa.below hb
  replace Pb := Pb.below hb
  replace Rl_ := Rl_.below hb
  replace TT := TT.below hb
  replace hB := below_then hB hb
  clear hb
  go_wp2_with fail
  go_ret
  exact ⟨rfl, hB⟩
set_option maxRecDepth 100000 in
set_option maxHeartbeats 4000000 in
theorem noneZero (A B Al : Option Addr) (ca cb cl La Lb M : Nat) (xs ys : List Nat) (l : List Bool) (w : World) (Pa : Pol w A ca xs) (Pb : Pol w B cb ys) (Rl_ : Brs w Al cl l) (TT : Tab w) (ha : Hid (xs.length = La)) (hb' : Hid (ys.length = Lb)) (hl : Hid (l.length = M)) (sa : La ≤ 2) (sb : Lb ≤ 2) (sm : M ≤ 300) (ka : Hid (La ≤ 50000)) (kb : Hid (Lb ≤ 50000)) (km : Hid (M ≤ 4611686018427387904)) (kl : Hid (M ≤ 2048)) (d n : Nat) (dn : (n : Int) ≤ (d : Int)) (eD : Hid ((len (leN xs) : Int) - 1 = (d : Int))) (eN : Hid ((len (br l) : Int) - 1 = (n : Int))) (nr : Hid (Rb true (rw_ l) M (leN xs))) (eZ : Hid (leN ys = 0)) :
    Calls Tryd.prog 6 #[.slice A La ca, .slice B Lb cb, .slice Al M cl] w (Bl true w) := by
  go_enter Tryd.func6, Tryd.ntmps6
  have hB : Below w.heap.size w w := Below.refl _ _
  go_wp2_with fail
  refine (awake5 _ TT).mono ?_
  rintro e w1 ⟨rfl, hb⟩
  replace Pa := Pa.below hb
  replace Pb := Pb.below hb
  replace Rl_ := Rl_.below hb
  replace TT := TT.below hb
  replace hB := below_then hB hb
  clear hb
  go_wp2_with fail
  refine (gRule _ true Pa Rl_ TT ha.out rfl hl.out ka.out km.out nr.out).mono ?_
  rintro e w2 ⟨rfl, hb⟩
  replace Pa := Pa.below hb
  replace Pb := Pb.below hb
  replace Rl_ := Rl_.below hb
  replace TT := TT.below hb
  replace hB := below_then hB hb
  clear hb
  go_wp2_with fail
  refine (gDeg (d : Int) Pa ha.out eD.out ka.out).mono ?_
  rintro e w3 ⟨rfl, rfl⟩
  go_wp2_with fail
  refine (gLength (n : Int) Rl_ TT hl.out kl.out eN.out).mono ?_
  rintro e w4 ⟨rfl, hb⟩
  replace Pa := Pa.below hb
  replace Pb := Pb.below hb
  replace Rl_ := Rl_.below hb
  replace TT := TT.below hb
  replace hB := below_then hB hb
  clear hb
  go_wp2_with fail
  refine (gDeg (-1) Pb hb'.out (by rw [eZ.out]; rfl) kb.out).mono ?_
  rintro e w5 ⟨rfl, rfl⟩
  go_wp2_with fail
  go_ret
  exact ⟨rfl, hB⟩
set_option maxRecDepth 100000 in
set_option maxHeartbeats 4000000 in
theorem noneMul (A B Al : Option Addr) (ca cb cl La Lb M : Nat) (xs ys : List Nat) (l : List Bool) (w : World) (Pa : Pol w A ca xs) (Pb : Pol w B cb ys) (Rl_ : Brs w Al cl l) (TT : Tab w) (ha : Hid (xs.length = La)) (hb' : Hid (ys.length = Lb)) (hl : Hid (l.length = M)) (sa : La ≤ 2) (sb : Lb ≤ 2) (sm : M ≤ 300) (ka : Hid (La ≤ 50000)) (kb : Hid (Lb ≤ 50000)) (km : Hid (M ≤ 4611686018427387904)) (kl : Hid (M ≤ 2048)) (d n : Nat) (dn : (n : Int) ≤ (d : Int)) (eD : Hid ((len (leN xs) : Int) - 1 = (d : Int))) (eN : Hid ((len (br l) : Int) - 1 = (n : Int))) (z Y : Nat) (nr : Hid (Rb true (rw_ l) M (leN xs))) (eZ : Hid ((len (leN ys) : Int) - 1 = (z : Int))) (z0 : ¬ ((z : Int) < 0)) (eY : Hid (clm (leN xs) (leN ys) = Y)) (kY : Hid ((wordsOf Y).length ≤ 50000)) (yr : Hid (Rb true (rw_ l) M Y)) :
    Calls Tryd.prog 6 #[.slice A La ca, .slice B Lb cb, .slice Al M cl] w (Bl true w) := by
  go_enter Tryd.func6, Tryd.ntmps6
  have hB : Below w.heap.size w w := Below.refl _ _
  go_wp2_with fail
  refine (awake5 _ TT).mono ?_
  rintro e w1 ⟨rfl, hb⟩
  replace Pa := Pa.below hb
  replace Pb := Pb.below hb
  replace Rl_ := Rl_.below hb
  replace TT := TT.below hb
  replace hB := below_then hB hb
  clear hb
  go_wp2_with fail
  refine (gRule _ true Pa Rl_ TT ha.out rfl hl.out ka.out km.out nr.out).mono ?_
  rintro e w2 ⟨rfl, hb⟩
  replace Pa := Pa.below hb
  replace Pb := Pb.below hb
  replace Rl_ := Rl_.below hb
  replace TT := TT.below hb
  replace hB := below_then hB hb
  clear hb
  go_wp2_with fail
  refine (gDeg (d : Int) Pa ha.out eD.out ka.out).mono ?_
  rintro e w3 ⟨rfl, rfl⟩
  go_wp2_with fail
  refine (gLength (n : Int) Rl_ TT hl.out kl.out eN.out).mono ?_
  rintro e w4 ⟨rfl, hb⟩
  replace Pa := Pa.below hb
  replace Pb := Pb.below hb
  replace Rl_ := Rl_.below hb
  replace TT := TT.below hb
  replace hB := below_then hB hb
  clear hb
  go_wp2_with fail
  refine (gDeg (z : Int) Pb hb'.out eZ.out kb.out).mono ?_
  rintro e w5 ⟨rfl, rfl⟩
  go_wp2_with fail
  refine (gMul Y Pa Pb ha.out hb'.out eY.out ka.out kb.out).mono ?_
  rintro e w6 ⟨A6, c6, rfl, P1, hb⟩
  replace Pa := Pa.below hb
  replace Pb := Pb.below hb
  replace Rl_ := Rl_.below hb
  replace TT := TT.below hb
  replace hB := below_then hB hb
  clear hb
  go_wp2_with fail
  refine (gRule Y true P1 Rl_ TT rfl (leN_wordsOf Y) hl.out kY.out km.out yr.out).mono ?_
  rintro e w7 ⟨rfl, hb⟩
  replace Pa := Pa.below hb
  replace Pb := Pb.below hb
  replace Rl_ := Rl_.below hb
  replace TT := TT.below hb
  replace P1 := P1.below hb
  replace hB := below_then hB hb
  clear hb
  go_wp2_with fail
  go_ret
  exact ⟨rfl, hB⟩
theorem noneWalk (A B Al : Option Addr) (ca cb cl La Lb M : Nat) (xs ys : List Nat) (l : List Bool) (w : World) (Pa : Pol w A ca xs) (Pb : Pol w B cb ys) (R : Brs w Al cl l) (TT : Tab w) (ha : xs.length = La) (hb : ys.length = Lb) (hl : l.length = M) :
    Calls Tryd.prog 6 #[.slice A La ca, .slice B Lb cb, .slice Al M cl] w (Bl true w) := by
  by_cases h : 2 < La ∨ 2 < Lb ∨ 300 < M
  · exact noneLarge A B Al ca cb cl La Lb M xs ys l w TT h
  · have s1 : La ≤ 2 := by omega
    have s2 : Lb ≤ 2 := by omega
    have s3 : M ≤ 300 := by omega
    by_cases hr : Rl (rw_ l) M (leN xs)
    · have nr : true = true ↔ Rl (rw_ l) M (leN xs) := ⟨fun _ => hr, fun _ => rfl⟩
      obtain ⟨b1, b2⟩ := br_least l M hl
      have e1 := len_pos hr.1
      have e2 := len_pos b1.1
      have e3 := b2 _ hr
      by_cases hz : leN ys = 0
      · exact noneZero A B Al ca cb cl La Lb M xs ys l w Pa Pb R TT (Lib.hid ha) (Lib.hid hb) (Lib.hid hl) s1 s2 s3 (Lib.hid (by omega)) (Lib.hid (by omega)) (Lib.hid (by omega)) (Lib.hid (by omega)) (len (leN xs) - 1) (len (br l) - 1) (by omega) (Lib.hid (by omega)) (Lib.hid (by omega)) (Lib.hid nr) (Lib.hid hz)
      · have e4 := len_pos hz
        have l1 := len_polB Pa ha rfl
        have l2 := len_polB Pb hb rfl
        have l3 := (len_clm hr.1 hz).2
        have hm := hr.mul (leN ys) hz
        exact noneMul A B Al ca cb cl La Lb M xs ys l w Pa Pb R TT (Lib.hid ha) (Lib.hid hb) (Lib.hid hl) s1 s2 s3 (Lib.hid (by omega)) (Lib.hid (by omega)) (Lib.hid (by omega)) (Lib.hid (by omega)) (len (leN xs) - 1) (len (br l) - 1) (by omega) (Lib.hid (by omega)) (Lib.hid (by omega)) (len (leN ys) - 1) _ (Lib.hid nr) (Lib.hid (by omega)) (by omega) (Lib.hid rfl) (Lib.hid (Nat.le_trans (wlm (k := 10) (by omega)) (by decide))) (Lib.hid ⟨fun _ => hm, fun _ => rfl⟩)
    · exact noneNot A B Al ca cb cl La Lb M xs ys l w Pa Pb R TT (Lib.hid ha) (Lib.hid hb) (Lib.hid hl) s1 s2 s3 (Lib.hid (by omega)) (Lib.hid (by omega)) (Lib.hid (by omega)) (Lib.hid (by omega)) (Lib.hid ⟨fun e => (by cases e), fun k => (hr k).elim⟩)
end Go.Proofs.YtfpbfibnkknhdaaDoor
