/-
  The walks of MasseyGoes. Made by wip/gen/msylaws.py.
-/
import Derived.Test.YtfpbfibnkknhdaaDoorMsyGa
namespace Go.Proofs.YtfpbfibnkknhdaaDoor
open Go.RowKit G
set_option linter.unusedVariables false

set_option maxRecDepth 100000 in
set_option maxHeartbeats 4000000 in
theorem goesBig (A Al : Option Addr) (ca cl La M c : Nat) (xs : List Nat) (w : World) (TT : Tab w) (P : Pol w A ca xs) (ha : Hid (xs.length = La)) (h0 : 2 < La) :
    Calls Tryd.prog 5 #[.slice A La ca, .slice Al M cl, .int .u8 (c : Int)] w (Bl true w) := by
  go_enter Tryd.func5, Tryd.ntmps5
  go_wp2_with fail
  refine (awake5 _ TT).mono ?_
  rintro e w1 ⟨rfl, hb⟩
  go_wp2_with fail
  refine (gDegAny (P.below hb) ha.out).mono ?_
  rintro e w2 ⟨⟨v, rfl⟩, rfl⟩
  go_wp2_with fail
  go_ret
  exact ⟨rfl, hb⟩
set_option maxRecDepth 100000 in
set_option maxHeartbeats 4000000 in
theorem goesOut0 (A Al : Option Addr) (ca cl La M c : Nat) (xs : List Nat) (d : Int) (w : World) (TT : Tab w) (P : Pol w A ca xs) (ha : Hid (xs.length = La)) (sa : La ≤ 2) (ka : Hid (La ≤ 50000)) (eD : Hid ((len (leN xs) : Int) - 1 = d)) (b1 : c ≤ 255) (h1 : d < 1) :
    Calls Tryd.prog 5 #[.slice A La ca, .slice Al M cl, .int .u8 (c : Int)] w (Bl true w) := by
  go_enter Tryd.func5, Tryd.ntmps5
  go_wp2_with fail
  refine (awake5 _ TT).mono ?_
  rintro e w1 ⟨rfl, hb⟩
  go_wp2_with fail
  refine (gDeg d (P.below hb) ha.out eD.out ka.out).mono ?_
  rintro e w2 ⟨rfl, rfl⟩
  go_wp2_with fail
  go_ret
  exact ⟨rfl, hb⟩
set_option maxRecDepth 100000 in
set_option maxHeartbeats 4000000 in
theorem goesOut1 (A Al : Option Addr) (ca cl La M c : Nat) (xs : List Nat) (d : Int) (w : World) (TT : Tab w) (P : Pol w A ca xs) (ha : Hid (xs.length = La)) (sa : La ≤ 2) (ka : Hid (La ≤ 50000)) (eD : Hid ((len (leN xs) : Int) - 1 = d)) (b1 : c ≤ 255) (h1 : ¬ (d < 1)) (h2 : (M : Int) < d) :
    Calls Tryd.prog 5 #[.slice A La ca, .slice Al M cl, .int .u8 (c : Int)] w (Bl true w) := by
  go_enter Tryd.func5, Tryd.ntmps5
  go_wp2_with fail
  refine (awake5 _ TT).mono ?_
  rintro e w1 ⟨rfl, hb⟩
  go_wp2_with fail
  refine (gDeg d (P.below hb) ha.out eD.out ka.out).mono ?_
  rintro e w2 ⟨rfl, rfl⟩
  go_wp2_with fail
  go_ret
  exact ⟨rfl, hb⟩
set_option maxRecDepth 100000 in
set_option maxHeartbeats 4000000 in
theorem goesOut2 (A Al : Option Addr) (ca cl La M c : Nat) (xs : List Nat) (d : Int) (w : World) (TT : Tab w) (P : Pol w A ca xs) (ha : Hid (xs.length = La)) (sa : La ≤ 2) (ka : Hid (La ≤ 50000)) (eD : Hid ((len (leN xs) : Int) - 1 = d)) (b1 : c ≤ 255) (h1 : ¬ (d < 1)) (h2 : ¬ ((M : Int) < d)) (h3 : 100 < c) :
    Calls Tryd.prog 5 #[.slice A La ca, .slice Al M cl, .int .u8 (c : Int)] w (Bl true w) := by
  go_enter Tryd.func5, Tryd.ntmps5
  go_wp2_with fail
  refine (awake5 _ TT).mono ?_
  rintro e w1 ⟨rfl, hb⟩
  go_wp2_with fail
  refine (gDeg d (P.below hb) ha.out eD.out ka.out).mono ?_
  rintro e w2 ⟨rfl, rfl⟩
  go_wp2_with fail
  go_ret
  exact ⟨rfl, hb⟩
set_option maxRecDepth 100000 in
set_option maxHeartbeats 4000000 in
theorem goesOne (ad : Addr) (A : Option Addr) (ca cl La M c d m n N Q e : Nat) (xs : List Nat) (l : List Bool) (w : World) (Pa : Pol w A ca xs) (Rd : Brs w (some ad) cl (l.take d)) (TT : Tab w) (ha : Hid (xs.length = La)) (sa : La ≤ 2) (ka : Hid (La ≤ 50000)) (eN : Hid (leN xs = N)) (eD : Hid ((len (leN xs) : Int) - 1 = (d : Int))) (h1 : ¬ ((d : Int) < 1)) (hM : ¬ ((M : Int) < (d : Int))) (h100 : ¬ (100 < c)) (b1 : c ≤ 255) (d200 : d ≤ 200) (lD : Hid ((l.take d).length = d)) (dcl : (d : Int) ≤ (cl : Int)) (h2 : Hid (2 ≤ len N)) (h3 : Hid (len N ≤ d + 1)) (kD : Hid (d ≤ 100000)) (em : (d : Int) + (c : Int) = (m : Int)) (bm : m ≤ 2048) (hn : Hid (n = d + m)) (en : 2 * (d : Int) + (c : Int) = (n : Int)) (n0 : 0 < n) (n9 : n ≤ 1000) (lG : Hid ((gs N (l.take d) m).length = n)) (kn : Hid (n ≤ 4611686018427387904)) (kn2 : Hid (n ≤ 2048)) (yN : Hid (Rb true (rw_ (gs N (l.take d) m)) n N)) (eQ : Hid (br (gs N (l.take d) m) = Q)) (e2 : Hid (2 * len Q ≤ n + 2)) (eM : Hid (rt N Q = 0)) (kQ : Hid ((wordsOf Q).length ≤ 50000)) (q0 : Hid (Q ≠ 0)) (eE : Hid ((len Q : Int) - 1 = (e : Int))) (e1 : (e : Int) < 1) :
    Calls Tryd.prog 5 #[.slice A La ca, .slice (some ad) M cl, .int .u8 (c : Int)] w (Bl true w) := by
  go_enter Tryd.func5, Tryd.ntmps5
  have hB : Below w.heap.size w w := Below.refl _ _
  go_wp2_with fail
  refine (awake5 _ TT).mono ?_
  rintro e w1 ⟨rfl, hb⟩
  replace Pa := Pa.below hb
  replace Rd := Rd.below hb
  replace TT := TT.below hb
  replace hB := below_then hB hb
  clear hb
  go_wp2_with fail
  refine (gDeg (d : Int) Pa ha.out eD.out ka.out).mono ?_
  rintro e w2 ⟨rfl, rfl⟩
  go_wp2_with fail
  refine (gGoes N m n Pa Rd TT ha.out eN.out lD.out ka.out kD.out h2.out h3.out bm hn.out).mono ?_
  rintro e w3 ⟨A3, c3, rfl, Bg, hb⟩
  replace Pa := Pa.below hb
  replace Rd := Rd.below hb
  replace TT := TT.below hb
  replace hB := below_then hB hb
  clear hb
  clear Rd
  obtain ⟨gb, go_, rfl, -⟩ := Bg.cell 0 (by rw [lG.out]; omega)
  have hcap := Bg.cap1
  rw [lG.out] at hcap
  have hcap2 := Bg.cap2
  go_wp2_with fail
  refine (gRule N true Pa Bg TT ha.out eN.out lG.out ka.out kn.out yN.out).mono ?_
  rintro e w4 ⟨rfl, hb⟩
  replace Pa := Pa.below hb
  replace TT := TT.below hb
  replace Bg := Bg.below hb
  replace hB := below_then hB hb
  clear hb
  go_wp2_with fail
  refine (gLeastYes Q Bg TT lG.out kn2.out eQ.out e2.out).mono ?_
  rintro e w5 ⟨A5, c5, rfl, Pq, hb⟩
  replace Pa := Pa.below hb
  replace TT := TT.below hb
  replace Bg := Bg.below hb
  replace hB := below_then hB hb
  clear hb
  go_wp2_with fail
  refine (gMod 0 Pa Pq ha.out rfl (by rw [eN.out, leN_wordsOf]; exact eM.out) ka.out kQ.out (by rw [leN_wordsOf]; exact q0.out)).mono ?_
  rintro e w6 ⟨A6, c6, rfl, Pz, hb⟩
  replace Pa := Pa.below hb
  replace TT := TT.below hb
  replace Bg := Bg.below hb
  replace Pq := Pq.below hb
  replace hB := below_then hB hb
  clear hb
  clear Pz
  have z0 : (wordsOf 0).length = 0 := by rw [wordsOf_zero]; rfl
  rw [z0]
  go_wp2_with fail
  refine (gDeg (e : Int) Pq rfl (by rw [leN_wordsOf]; exact eE.out) kQ.out).mono ?_
  rintro e w7 ⟨rfl, rfl⟩
  go_wp2_with fail
  go_ret
  exact ⟨rfl, hB⟩
set_option maxRecDepth 100000 in
set_option maxHeartbeats 4000000 in
theorem goesMany (ad : Addr) (A : Option Addr) (ca cl La M c d m n N Q e : Nat) (xs : List Nat) (l : List Bool) (w : World) (Pa : Pol w A ca xs) (Rd : Brs w (some ad) cl (l.take d)) (TT : Tab w) (ha : Hid (xs.length = La)) (sa : La ≤ 2) (ka : Hid (La ≤ 50000)) (eN : Hid (leN xs = N)) (eD : Hid ((len (leN xs) : Int) - 1 = (d : Int))) (h1 : ¬ ((d : Int) < 1)) (hM : ¬ ((M : Int) < (d : Int))) (h100 : ¬ (100 < c)) (b1 : c ≤ 255) (d200 : d ≤ 200) (lD : Hid ((l.take d).length = d)) (dcl : (d : Int) ≤ (cl : Int)) (h2 : Hid (2 ≤ len N)) (h3 : Hid (len N ≤ d + 1)) (kD : Hid (d ≤ 100000)) (em : (d : Int) + (c : Int) = (m : Int)) (bm : m ≤ 2048) (hn : Hid (n = d + m)) (en : 2 * (d : Int) + (c : Int) = (n : Int)) (n0 : 0 < n) (n9 : n ≤ 1000) (lG : Hid ((gs N (l.take d) m).length = n)) (kn : Hid (n ≤ 4611686018427387904)) (kn2 : Hid (n ≤ 2048)) (yN : Hid (Rb true (rw_ (gs N (l.take d) m)) n N)) (eQ : Hid (br (gs N (l.take d) m) = Q)) (e2 : Hid (2 * len Q ≤ n + 2)) (eM : Hid (rt N Q = 0)) (kQ : Hid ((wordsOf Q).length ≤ 50000)) (q0 : Hid (Q ≠ 0)) (eE : Hid ((len Q : Int) - 1 = (e : Int))) (e1 : ¬ ((e : Int) < 1)) (en2 : (e : Int) ≤ (n : Int)) (m2 : Nat) (em2 : (n : Int) - (e : Int) = (m2 : Int)) (bm2 : m2 ≤ 2048) (lE : Hid (((gs N (l.take d) m).take e).length = e)) (kE : Hid (e ≤ 100000)) (q2 : Hid (2 ≤ len Q)) (q3 : Hid (len Q ≤ e + 1)) (hn2 : Hid (n = e + m2)) (lB : Hid ((gs Q ((gs N (l.take d) m).take e) m2).length = n)) (sB : Hid (sameB (gs Q ((gs N (l.take d) m).take e) m2) (gs N (l.take d) m) = true)) (kn3 : Hid (n ≤ 1000000)) :
    Calls Tryd.prog 5 #[.slice A La ca, .slice (some ad) M cl, .int .u8 (c : Int)] w (Bl true w) := by
  go_enter Tryd.func5, Tryd.ntmps5
  have hB : Below w.heap.size w w := Below.refl _ _
  go_wp2_with fail
  refine (awake5 _ TT).mono ?_
  rintro e w1 ⟨rfl, hb⟩
  replace Pa := Pa.below hb
  replace Rd := Rd.below hb
  replace TT := TT.below hb
  replace hB := below_then hB hb
  clear hb
  go_wp2_with fail
  refine (gDeg (d : Int) Pa ha.out eD.out ka.out).mono ?_
  rintro e w2 ⟨rfl, rfl⟩
  go_wp2_with fail
  refine (gGoes N m n Pa Rd TT ha.out eN.out lD.out ka.out kD.out h2.out h3.out bm hn.out).mono ?_
  rintro e w3 ⟨A3, c3, rfl, Bg, hb⟩
  replace Pa := Pa.below hb
  replace Rd := Rd.below hb
  replace TT := TT.below hb
  replace hB := below_then hB hb
  clear hb
  clear Rd
  obtain ⟨gb, go_, rfl, -⟩ := Bg.cell 0 (by rw [lG.out]; omega)
  have hcap := Bg.cap1
  rw [lG.out] at hcap
  have hcap2 := Bg.cap2
  go_wp2_with fail
  refine (gRule N true Pa Bg TT ha.out eN.out lG.out ka.out kn.out yN.out).mono ?_
  rintro e w4 ⟨rfl, hb⟩
  replace Pa := Pa.below hb
  replace TT := TT.below hb
  replace Bg := Bg.below hb
  replace hB := below_then hB hb
  clear hb
  go_wp2_with fail
  refine (gLeastYes Q Bg TT lG.out kn2.out eQ.out e2.out).mono ?_
  rintro e w5 ⟨A5, c5, rfl, Pq, hb⟩
  replace Pa := Pa.below hb
  replace TT := TT.below hb
  replace Bg := Bg.below hb
  replace hB := below_then hB hb
  clear hb
  go_wp2_with fail
  refine (gMod 0 Pa Pq ha.out rfl (by rw [eN.out, leN_wordsOf]; exact eM.out) ka.out kQ.out (by rw [leN_wordsOf]; exact q0.out)).mono ?_
  rintro e w6 ⟨A6, c6, rfl, Pz, hb⟩
  replace Pa := Pa.below hb
  replace TT := TT.below hb
  replace Bg := Bg.below hb
  replace Pq := Pq.below hb
  replace hB := below_then hB hb
  clear hb
  clear Pz
  have z0 : (wordsOf 0).length = 0 := by rw [wordsOf_zero]; rfl
  rw [z0]
  go_wp2_with fail
  refine (gDeg (e : Int) Pq rfl (by rw [leN_wordsOf]; exact eE.out) kQ.out).mono ?_
  rintro e w7 ⟨rfl, rfl⟩
  go_wp2_with fail
  have hX : Below w6.heap.size w6 w6 := Below.refl _ _
  have ecap : (e : Int) ≤ (c3 : Int) := by omega
  have e00 : (0 : Int) ≤ (e : Int) := by omega
  have wm2 : IntKind.i64.wrap (m2 : Int) = (m2 : Int) := by rw [IntKind.wrap_i64]; omega
  have D := Lib.hid (fun (wx : World) (hx : Below w6.heap.size w6 wx) => gDeg (e : Int) (Pq.below hx) rfl (by rw [leN_wordsOf]; exact eE.out) kQ.out)
  have O := Lib.hid (fun (wx : World) (hx : Below w6.heap.size w6 wx) => gGoes Q m2 n (Pq.below hx) ((Bg.take e).below hx) (TT.below hx) rfl (leN_wordsOf Q) lE.out kQ.out kE.out q2.out q3.out bm2 hn2.out)
  go_region_held3 (fun _ => True) (trivial) (first
    | (go_at_call 20; ((with_reducible refine (D.out _ hX.drew).mono ?_); rintro e' w' ⟨rfl, rfl⟩))
    | (go_at_call 9; ((with_reducible refine (O.out _ hX.drew).mono ?_); rintro e' x ⟨A9, c9, rfl, Bm, hb⟩; replace hX := below_then hX.drew hb; clear hb)))
  all_goals
    replace Bg := Bg.below hX
    replace TT := TT.below hX
    replace hB := below_then hB hX
    go_wp2_with fail
    refine (gSameB true Bm Bg lB.out lG.out sB.out kn3.out).mono ?_
    rintro e w8 ⟨rfl, hb⟩
    replace Bg := Bg.below hb
    replace TT := TT.below hb
    replace hB := below_then hB hb
    clear hb
    go_wp2_with fail
    go_ret
    exact ⟨rfl, hB⟩
theorem goesRowWalk (A Al : Option Addr) (ca cl La M c : Nat) (xs : List Nat) (l : List Bool) (w : World) (P : Pol w A ca xs) (R : Brs w Al cl l) (TT : Tab w) (ha : xs.length = La) (hl : l.length = M) (b1 : c ≤ 255) :
    Calls Tryd.prog 5 #[.slice A La ca, .slice Al M cl, .int .u8 (c : Int)] w (Bl true w) := by
  by_cases h0 : 2 < La
  · exact goesBig A Al ca cl La M c xs w TT P (Lib.hid ha) h0
  · have s1 : La ≤ 2 := by omega
    have lp := len_polB P ha rfl
    obtain ⟨N, hN⟩ : ∃ N, leN xs = N := ⟨_, rfl⟩
    rw [hN] at lp
    by_cases h1 : len N ≤ 1
    · exact goesOut0 A Al ca cl La M c xs ((len N : Int) - 1) w TT P (Lib.hid ha) s1 (Lib.hid (by omega)) (Lib.hid (by rw [hN])) b1 (by omega)
    · obtain ⟨d, hd⟩ : ∃ d, len N = d + 1 := ⟨len N - 1, by omega⟩
      have eD : (len (leN xs) : Int) - 1 = (d : Int) := by rw [hN, hd]; omega
      by_cases h2 : M < d
      · exact goesOut1 A Al ca cl La M c xs (d : Int) w TT P (Lib.hid ha) s1 (Lib.hid (by omega)) (Lib.hid eD) b1 (by omega) (by omega)
      · by_cases h3 : 100 < c
        · exact goesOut2 A Al ca cl La M c xs (d : Int) w TT P (Lib.hid ha) s1 (Lib.hid (by omega)) (Lib.hid eD) b1 (by omega) (by omega) h3
        · obtain ⟨ab, ao, rfl, -⟩ := R.cell 0 (by omega)
          have hc := R.cap1
          have lD : (l.take d).length = d := by rw [List.length_take]; omega
          obtain ⟨m, hm⟩ : ∃ m, m = d + c := ⟨_, rfl⟩
          obtain ⟨n, hn⟩ : ∃ n, n = d + m := ⟨_, rfl⟩
          have lG : (gs N (l.take d) m).length = n := by rw [gs_len, lD, hn]
          have N0 : N ≠ 0 := fun e => by rw [e, len_zero] at hd; omega
          have rN : Rl (rw_ (gs N (l.take d) m)) n N := ⟨N0, fun i hi => gs_rule N (l.take d) (by omega) (by omega) m i (by omega) (by omega)⟩
          obtain ⟨rQ, mQ⟩ := br_least (gs N (l.take d) m) n lG
          obtain ⟨Q, hQ⟩ : ∃ Q, br (gs N (l.take d) m) = Q := ⟨_, rfl⟩
          rw [hQ] at rQ mQ
          have lq := mQ N rN
          have lq0 := len_pos rQ.1
          have e2 : 2 * len Q ≤ n + 2 := by omega
          have eM : rt N Q = 0 := rule_parts (s := rw_ (gs N (l.take d) m)) (m := n) (L := len Q) ⟨⟨Q, rQ, rfl⟩, mQ⟩ rN rQ rfl (by omega) (by omega)
          have kQ : (wordsOf Q).length ≤ 50000 := Nat.le_trans (wlm (k := 10) (by omega)) (by decide)
          obtain ⟨e, he⟩ : ∃ e, len Q = e + 1 := ⟨len Q - 1, by omega⟩
          by_cases h4 : e < 1
          · exact goesOne ⟨ab, ao, none⟩ A ca cl La M c d m n N Q e xs l w P (R.take d) TT (Lib.hid ha) s1 (Lib.hid (by omega)) (Lib.hid hN) (Lib.hid eD) (by omega) (by omega) h3 b1 (by omega) (Lib.hid lD) (by omega) (Lib.hid (by omega)) (Lib.hid (by omega)) (Lib.hid (by omega)) (by omega) (by omega) (Lib.hid hn) (by omega) (by omega) (by omega) (Lib.hid lG) (Lib.hid (by omega)) (Lib.hid (by omega)) (Lib.hid (rb_yes rN)) (Lib.hid hQ) (Lib.hid e2) (Lib.hid eM) (Lib.hid kQ) (Lib.hid rQ.1) (Lib.hid (by omega)) (by omega)
          · have gb := gs_back Q (gs N (l.take d) m) n e lG rQ (by omega) he (by omega)
            have lE : ((gs N (l.take d) m).take e).length = e := by rw [List.length_take]; omega
            exact goesMany ⟨ab, ao, none⟩ A ca cl La M c d m n N Q e xs l w P (R.take d) TT (Lib.hid ha) s1 (Lib.hid (by omega)) (Lib.hid hN) (Lib.hid eD) (by omega) (by omega) h3 b1 (by omega) (Lib.hid lD) (by omega) (Lib.hid (by omega)) (Lib.hid (by omega)) (Lib.hid (by omega)) (by omega) (by omega) (Lib.hid hn) (by omega) (by omega) (by omega) (Lib.hid lG) (Lib.hid (by omega)) (Lib.hid (by omega)) (Lib.hid (rb_yes rN)) (Lib.hid hQ) (Lib.hid e2) (Lib.hid eM) (Lib.hid kQ) (Lib.hid rQ.1) (Lib.hid (by omega)) (by omega) (by omega) (n - e) (by omega) (by omega) (Lib.hid lE) (Lib.hid (by omega)) (Lib.hid (by omega)) (Lib.hid (by omega)) (Lib.hid (by omega)) (Lib.hid (by rw [gs_len, lE]; omega)) (Lib.hid (by rw [gb]; unfold sameB; simp)) (Lib.hid (by omega))
end Go.Proofs.YtfpbfibnkknhdaaDoor
