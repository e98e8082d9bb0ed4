/-
  What Cover of the reference of layer 15 answers.
-/
import Derived.Test.YtolicfackceomaaSpTo
import Derived.Deep.DeepCutAuto
namespace Go.Proofs.Ytolicfackceomaa
open Go.RowKit
set_option linter.unusedVariables false
set_option maxRecDepth 100000

/-- Where Cover's two numbers lie. -/
structure CvL (w : World) (sb : Nat) (x y : Int) (wr : World) : Prop where
  res : UB 32 wr w.heap.size 0 0
  sum : UB 32 wr sb x y
  below : Below w.heap.size w wr
theorem CvL.far {w wr w' : World} {sb : Nat} {x y : Int} (h : CvL w sb x y wr) (hb : Below wr.heap.size wr w') : CvL w sb x y w' := ⟨h.res.below hb, h.sum.below hb, below_then h.below hb⟩
theorem CvL.put {w wr : World} {sb : Nat} {x y x' y' : Int} (h : CvL w sb x y wr) (hne : w.heap.size ≠ sb) (hle : w.heap.size ≤ sb) : CvL w sb x' y' ((wr.setCell ⟨sb, 0, none⟩ (.int .u64 x')).setCell ⟨sb, 1, none⟩ (.int .u64 y')) :=
  ⟨h.res.far2 hne _ _, h.sum.put, below_put2 h.below hle _ _⟩
theorem CvL.drew {w wr : World} {sb : Nat} {x y : Int} (h : CvL w sb x y wr) : CvL w sb x y wr.drew := ⟨h.res, h.sum, h.below.drew⟩
/-- A list whose block is another one than that in which two words are put. -/
theorem SL.put {wr : World} {sb : Nat} {x y : Int} {A : Option Addr} {cap : Nat} {l : List Sp} (h : SL wr A cap l) (hs : ∀ a, A = some a → a.block ≠ sb) : SL ((wr.setCell ⟨sb, 0, none⟩ (.int .u64 x)).setCell ⟨sb, 1, none⟩ (.int .u64 y)) A cap l := by
  refine ⟨h.ok, h.cap1, h.cap2, fun i hi => ?_⟩
  obtain ⟨b, o, hA, hl, hc⟩ := h.cell i hi
  have hne := hs _ hA
  refine ⟨b, o, hA, by simpa using hl, fun c v hv => ?_⟩
  rw [World.cell?_setCell_far _ _ _ _ (Ne.symm hne), World.cell?_setCell_far _ _ _ _ (Ne.symm hne)]
  exact hc c v hv
/-- A list of one span, just laid. -/
theorem sl_one {p q r t : Int} {s : Sp} (hs : Ws p q r t s) (w : World) (ty : TypeId) : SL (w.alloc (.cells #[.int .u64 p, .int .u64 q, .int .u64 r, .int .u64 t] ty)) (some ⟨w.heap.size, 0, none⟩) 1 [s] := by
  refine ⟨fun x hx => by rw [List.mem_singleton.1 hx]; exact hs.ok, Nat.le_refl _, by decide, fun i hi => ⟨w.heap.size, 0, rfl, by simp, fun c v hv => ?_⟩⟩
  obtain rfl : i = 0 := by simpa using hi
  have := new4 w s ty p q r t hs.enc c v (by rw [encs, encs, List.append_nil]; exact hv)
  rw [Addr.add_lit] at this
  simpa using this
theorem sum_succ (l : List Sp) (k : Nat) (h : k < l.length) : sumS (l.take (k + 1)) = sumS (l.take k) + lenS (l.getD k default) := by
  rw [take_succ_getD l k h]
  generalize l.take k = a
  induction a with
  | nil => simp [sumS]
  | cons u a ih => simp only [List.cons_append, sumS, ih]; omega
theorem cov_nil (N : Nat) : covN [] N = 0 := Mt.cnt_none N (fun i _ => rfl)
theorem cov_le (l : List Sp) (N : Nat) : covN l N ≤ N := Mt.cnt_le _ N
set_option maxHeartbeats 32000000 in
theorem rCover (A : Option Addr) (cap : Nat) (l : List Sp) (w : World) (h : SL w A cap l) (hn : l.length ≤ 300) (N : Nat) (hN : ∀ s ∈ l, s.t ≤ N) (hF : ∀ s ∈ l, s.f ≤ N) (hQ : N < Q) :
    Calls Try.prog 28 #[.slice A l.length cap] w (fun e w' => e = .returned (.agg #[.int .u64 ((hiW (covN l N) : Nat) : Int), .int .u64 ((loW (covN l N) : Nat) : Int)]) ∧ Below w.heap.size w w') := by
  have H := Lib.hid h
  have HN := Lib.hid hN
  have HF := Lib.hid hF
  have hcap1 := h.cap1
  have hcap2 := h.cap2
  have B0 := below_allocs w (.cells #[.int .u64 0, .int .u64 0] 32)
  have B1 := below_allocs (w.alloc (.cells #[.int .u64 0, .int .u64 0] 32)) (.cells #[.int .u64 0, .int .u64 0] 32)
  have K : Hid (CvL w (w.alloc (.cells #[.int .u64 0, .int .u64 0] 32)).heap.size 0 0 ((w.alloc (.cells #[.int .u64 0, .int .u64 0] 32)).alloc (.cells #[.int .u64 0, .int .u64 0] 32))) := Lib.hid ⟨(UB.new w 0 0 32).below B1, UB.new _ 0 0 32, below_then B0 B1⟩
  simp only [World.size_alloc] at K
  clear h hN hF B0 B1
  go_enter Try.func28, Try.ntmps28
  go_upto_region 2 with fail
  generalize World.alloc (World.alloc w _) _ = W1 at K ⊢
  obtain ⟨sb, hsb⟩ : ∃ sb, w.heap.size + 1 = sb := ⟨_, rfl⟩
  rw [hsb] at K ⊢
  have hne : w.heap.size ≠ sb := by omega
  have hle : w.heap.size ≤ sb := by omega
  go_wp2_with fail
  go_loopg [4] l.length (fun g iv wr => ∃ i : Nat, i + g = l.length ∧ iv = .int .i64 i ∧ Hid (CvL w sb ((hiW (covN (l.take i) N) : Nat) : Int) ((loW (covN (l.take i) N) : Nat) : Int) wr))
  case atStart => exact ⟨0, by omega, rfl, by rw [List.take_zero, cov_nil]; exact K⟩
  case round =>
    clear K
    obtain ⟨i, hi, rfl, K⟩ := hrel
    by_cases hlt : i < l.length
    · have hlt' : (i : Int) < l.length := by omega
      obtain ⟨b, o, p, q, r, t, rfl, hl, HS, c0, c1, c2, c3⟩ := (H.out.below K.out.below).at4 hlt
      have mem : l.getD i default ∈ l := by rw [List.getD_eq_getElem?_getD, List.getElem?_eq_getElem hlt]; exact List.getElem_mem hlt
      have EC : Hid (covN (l.take (i + 1)) N = covN (l.take i) N + sumS (lf (l.getD i default) (l.take i))) := Lib.hid (by
        rw [take_succ_getD l i hlt]
        exact cov_lf _ _ N (HN.out _ mem) (fun x hx => HF.out x (List.mem_of_mem_take hx)))
      clear mem
      generalize l.getD i default = s at HS EC
      have lenE := cov_le (l.take (i + 1)) N
      obtain ⟨C2, hC2⟩ : ∃ C2, covN (l.take (i + 1)) N = C2 := ⟨_, rfl⟩
      have HC2 := Lib.hid hC2
      rw [hC2] at EC lenE
      clear hC2
      generalize covN (l.take i) N = C1 at EC K
      have RC := Lib.hid (srRight HS.out)
      have L0 := Lib.hid (And.intro (sl_one HS.out wr 34) (below_allocs wr (.cells #[.int .u64 p, .int .u64 q, .int .u64 r, .int .u64 t] 34)))
      by_cases hr : s.f ≤ s.t
      · rw [decide_eq_true hr] at RC
        have LF : Hid (lf s [] = [s]) := Lib.hid (if_pos hr)
        go_wp2_with fail
        refine (RC.out _).mono ?_
        rintro er V1 ⟨rfl, hb⟩
        have LS := Lib.hid (L0.out.1.below hb)
        have sbl := K.out.sum.lt
        have FAR : Hid (∀ a, some (⟨wr.heap.size, 0, none⟩ : Addr) = some a → a.block ≠ sb) := Lib.hid (fun a e => by cases e; show wr.heap.size ≠ sb; omega)
        have KL := Lib.hid ((K.out.far L0.out.2).far hb)
        clear hb L0 K c0 c1 c2 c3 hl sbl RC hr
        go_wp2_with fail
        go_loopg [5, 6] i (fun g v kv wr => ∃ (k : Nat) (A' : Option Addr) (k' : Nat), k + g = i ∧ kv = .int .i64 k ∧ v = .slice A' (lf s (l.take k)).length k' ∧ Hid (SL wr A' k' (lf s (l.take k))) ∧ Hid (∀ a, A' = some a → a.block ≠ sb) ∧ Hid (CvL w sb ((hiW C1 : Nat) : Int) ((loW C1 : Nat) : Int) wr))
        case atStart => exact ⟨0, _, _, by omega, rfl, by rw [List.take_zero, LF.out]; rfl, by rw [List.take_zero, LF.out]; exact LS, FAR, KL⟩
        case round =>
          clear LS FAR KL LF
          obtain ⟨k, A', k', hk, rfl, rfl, LS, FAR, K⟩ := hrel
          have plen := (lf_row s (l.take k)).2
          rw [List.length_take] at plen
          by_cases hki : k < i
          · have hki' : (k : Int) < (i : Int) := by omega
            have hkl' : (k : Int) < l.length := by omega
            obtain ⟨b', o', p', q', r', t', e', hl2, HS', d0, d1, d2, d3⟩ := (H.out.below K.out.below).at4 (i := k) (by omega)
            obtain ⟨rfl, rfl⟩ : b = b' ∧ o = o' := by simpa using e'
            have WC := Lib.hid (rWithout A' k' (lf s (l.take k)) HS'.out wr LS.out (by omega))
            rw [show wo (l.getD k default) (lf s (l.take k)) = lf s (l.take (k + 1)) from by rw [take_succ_getD l k (by omega), lf_snoc]] at WC
            clear LS FAR HS' e'
            go_wp2_with fail
            refine WC.out.mono ?_
            rintro er V2 ⟨A2, k2, rfl, hs2, hb2, hf2⟩
            have LS2 := Lib.hid hs2
            have sbl := K.out.sum.lt
            have FAR2 : Hid (∀ a, A2 = some a → a.block ≠ sb) := Lib.hid (fun a e => by have := hf2 a e; omega)
            have K2 := Lib.hid (K.out.far hb2)
            clear hs2 hb2 hf2 WC K d0 d1 d2 d3 hl2 sbl
            go_wp2_with fail
            go_roundg (gk - 1)
            case measure => omega
            case rel => exact ⟨k + 1, A2, k2, by omega, by go_num, rfl, LS2, FAR2, K2⟩
          · obtain rfl : k = i := by omega
            have PL := Lib.hid (fun j => sumS_take_le (lf s (l.take k)) j)
            have OKP := Lib.hid LS.out.ok
            have pc1 := LS.out.cap1
            have pc2 := LS.out.cap2
            generalize lf s (l.take k) = P at LS EC PL OKP plen pc1 ⊢
            go_wp2_with fail
            go_loopg [7] P.length (fun g jv wr => ∃ j : Nat, j + g = P.length ∧ jv = .int .i64 j ∧ Hid (SL wr A' k' P) ∧ Hid (CvL w sb ((hiW (C1 + sumS (P.take j)) : Nat) : Int) ((loW (C1 + sumS (P.take j)) : Nat) : Int) wr))
            case atStart => exact ⟨0, by omega, rfl, LS, by rw [List.take_zero]; exact K⟩
            case round =>
              clear LS K
              obtain ⟨j, hj, rfl, LS, K⟩ := hrel
              by_cases hjl : j < P.length
              · have hjl' : (j : Int) < P.length := by omega
                have hj0 : (0 : Int) ≤ (j : Int) := Int.natCast_nonneg _
                obtain ⟨b1, o1, p1, q1, r1, t1, rfl, hl1, HP, x0, x1, x2, x3⟩ := LS.out.at4 hjl
                have E1 := sum_succ P j hjl
                have lim := PL.out (j + 1)
                rw [E1] at lim
                generalize P.getD j default = u at HP E1 lim
                generalize sumS (P.take j) = S1 at E1 lim K
                have LC := Lib.hid (srLen HP.out)
                have AC := Lib.hid (fun W => rrAdd (wn_of (N := C1 + S1) (show C1 + S1 < Q by have := EC.out; omega)) (wn_of (lenS_lt HP.out.ok)) W)
                unfold AnsWB at AC
                have X1 : (C1 + S1 + lenS u) % Q = C1 + sumS (P.take (j + 1)) := by rw [Nat.mod_eq_of_lt (by have := EC.out; omega), E1]; omega
                rw [X1] at AC
                clear X1 E1 lim
                generalize decide (Q ≤ C1 + S1 + lenS u) = oo at AC
                generalize ((hiW (C1 + S1) : Nat) : Int) = a0 at AC K
                generalize ((loW (C1 + S1) : Nat) : Int) = a1 at AC K
                generalize ((hiW (lenS u) : Nat) : Int) = f0 at LC AC
                generalize ((loW (lenS u) : Nat) : Int) = f1 at LC AC
                obtain ⟨y0, hy0⟩ : ∃ y0, ((hiW (C1 + sumS (P.take (j + 1))) : Nat) : Int) = y0 := ⟨_, rfl⟩
                obtain ⟨y1, hy1⟩ : ∃ y1, ((loW (C1 + sumS (P.take (j + 1))) : Nat) : Int) = y1 := ⟨_, rfl⟩
                rw [hy0, hy1] at AC
                have EY := Lib.hid (And.intro hy0 hy1)
                have KA := Lib.hid (And.intro K.out LS.out)
                clear hy0 hy1 K LS
                obtain ⟨v0, v1⟩ := KA.out.1.sum.cells
                go_wp2_with fail
                go_region_with (first
                  | (go_at_call 16; (refine (LC.out _).mono ?_); rintro e W3 ⟨rfl, hb3⟩; have KC : Hid (CvL w sb a0 a1 W3 ∧ SL W3 (some ⟨b1, o1, none⟩) k' P) := Lib.hid (by first | exact ⟨KA.out.1.far hb3, KA.out.2.below hb3⟩ | exact ⟨KA.out.1.drew.far hb3, KA.out.2.drew.below hb3⟩); clear hb3; obtain ⟨i0, i1⟩ := KC.out.1.sum.cells)
                  | (go_at_call 37; (refine (AC.out _).mono ?_); rintro e W4 ⟨rfl, hb4⟩; have KD := Lib.hid (And.intro (KC.out.1.far hb4) (KC.out.2.below hb4)); clear hb4; obtain ⟨j0, j1⟩ := KD.out.1.sum.cells; obtain ⟨g0, g1⟩ := KD.out.1.sum.free))
                all_goals have KE := Lib.hid (And.intro (KD.out.1.put (x' := y0) (y' := y1) hne hle) (KD.out.2.put (x := y0) (y := y1) FAR.out))
                all_goals clear KD KC KA LC AC
                all_goals go_wp2_with fail
                all_goals go_roundg (gk - 1)
                all_goals first
                  | omega
                  | exact ⟨j + 1, by omega, by go_num, Lib.hid KE.out.2, by rw [EY.out.1, EY.out.2]; exact Lib.hid KE.out.1⟩
              · obtain rfl : j = P.length := by omega
                rw [List.take_length, ← EC.out] at K
                go_wp2_with fail
                go_roundg (l.length - (k + 1))
                case measure => omega
                case rel => exact ⟨k + 1, by omega, by go_num, by rw [HC2.out]; exact K⟩
      · rw [decide_eq_false hr] at RC
        have LF : Hid (lf s [] = []) := Lib.hid (if_neg hr)
        go_wp2_with fail
        refine (RC.out _).mono ?_
        rintro er V1 ⟨rfl, hb⟩
        have LX := below_allocs V1 (.cells #[] 34)
        have LS := Lib.hid (SL.nil (V1.alloc (.cells #[] 34)) (some ⟨V1.heap.size, 0, none⟩) 0 (by decide))
        have KL := Lib.hid (((K.out.far L0.out.2).far hb).far LX)
        have sbl := ((K.out.far L0.out.2).far hb).sum.lt
        have FAR : Hid (∀ a, some (⟨V1.heap.size, 0, none⟩ : Addr) = some a → a.block ≠ sb) := Lib.hid (fun a e => by cases e; show V1.heap.size ≠ sb; omega)
        clear hb L0 K c0 c1 c2 c3 hl sbl RC hr LX
        go_wp2_with fail
        go_loopg [5, 6] i (fun g v kv wr => ∃ (k : Nat) (A' : Option Addr) (k' : Nat), k + g = i ∧ kv = .int .i64 k ∧ v = .slice A' (lf s (l.take k)).length k' ∧ Hid (SL wr A' k' (lf s (l.take k))) ∧ Hid (∀ a, A' = some a → a.block ≠ sb) ∧ Hid (CvL w sb ((hiW C1 : Nat) : Int) ((loW C1 : Nat) : Int) wr))
        case atStart => exact ⟨0, _, _, by omega, rfl, by rw [List.take_zero, LF.out]; rfl, by rw [List.take_zero, LF.out]; exact LS, FAR, KL⟩
        case round =>
          clear LS FAR KL LF
          obtain ⟨k, A', k', hk, rfl, rfl, LS, FAR, K⟩ := hrel
          have plen := (lf_row s (l.take k)).2
          rw [List.length_take] at plen
          by_cases hki : k < i
          · have hki' : (k : Int) < (i : Int) := by omega
            have hkl' : (k : Int) < l.length := by omega
            obtain ⟨b', o', p', q', r', t', e', hl2, HS', d0, d1, d2, d3⟩ := (H.out.below K.out.below).at4 (i := k) (by omega)
            obtain ⟨rfl, rfl⟩ : b = b' ∧ o = o' := by simpa using e'
            have WC := Lib.hid (rWithout A' k' (lf s (l.take k)) HS'.out wr LS.out (by omega))
            rw [show wo (l.getD k default) (lf s (l.take k)) = lf s (l.take (k + 1)) from by rw [take_succ_getD l k (by omega), lf_snoc]] at WC
            clear LS FAR HS' e'
            go_wp2_with fail
            refine WC.out.mono ?_
            rintro er V2 ⟨A2, k2, rfl, hs2, hb2, hf2⟩
            have LS2 := Lib.hid hs2
            have sbl := K.out.sum.lt
            have FAR2 : Hid (∀ a, A2 = some a → a.block ≠ sb) := Lib.hid (fun a e => by have := hf2 a e; omega)
            have K2 := Lib.hid (K.out.far hb2)
            clear hs2 hb2 hf2 WC K d0 d1 d2 d3 hl2 sbl
            go_wp2_with fail
            go_roundg (gk - 1)
            case measure => omega
            case rel => exact ⟨k + 1, A2, k2, by omega, by go_num, rfl, LS2, FAR2, K2⟩
          · obtain rfl : k = i := by omega
            have PL := Lib.hid (fun j => sumS_take_le (lf s (l.take k)) j)
            have OKP := Lib.hid LS.out.ok
            have pc1 := LS.out.cap1
            have pc2 := LS.out.cap2
            generalize lf s (l.take k) = P at LS EC PL OKP plen pc1 ⊢
            go_wp2_with fail
            go_loopg [7] P.length (fun g jv wr => ∃ j : Nat, j + g = P.length ∧ jv = .int .i64 j ∧ Hid (SL wr A' k' P) ∧ Hid (CvL w sb ((hiW (C1 + sumS (P.take j)) : Nat) : Int) ((loW (C1 + sumS (P.take j)) : Nat) : Int) wr))
            case atStart => exact ⟨0, by omega, rfl, LS, by rw [List.take_zero]; exact K⟩
            case round =>
              clear LS K
              obtain ⟨j, hj, rfl, LS, K⟩ := hrel
              by_cases hjl : j < P.length
              · have hjl' : (j : Int) < P.length := by omega
                have hj0 : (0 : Int) ≤ (j : Int) := Int.natCast_nonneg _
                obtain ⟨b1, o1, p1, q1, r1, t1, rfl, hl1, HP, x0, x1, x2, x3⟩ := LS.out.at4 hjl
                have E1 := sum_succ P j hjl
                have lim := PL.out (j + 1)
                rw [E1] at lim
                generalize P.getD j default = u at HP E1 lim
                generalize sumS (P.take j) = S1 at E1 lim K
                have LC := Lib.hid (srLen HP.out)
                have AC := Lib.hid (fun W => rrAdd (wn_of (N := C1 + S1) (show C1 + S1 < Q by have := EC.out; omega)) (wn_of (lenS_lt HP.out.ok)) W)
                unfold AnsWB at AC
                have X1 : (C1 + S1 + lenS u) % Q = C1 + sumS (P.take (j + 1)) := by rw [Nat.mod_eq_of_lt (by have := EC.out; omega), E1]; omega
                rw [X1] at AC
                clear X1 E1 lim
                generalize decide (Q ≤ C1 + S1 + lenS u) = oo at AC
                generalize ((hiW (C1 + S1) : Nat) : Int) = a0 at AC K
                generalize ((loW (C1 + S1) : Nat) : Int) = a1 at AC K
                generalize ((hiW (lenS u) : Nat) : Int) = f0 at LC AC
                generalize ((loW (lenS u) : Nat) : Int) = f1 at LC AC
                obtain ⟨y0, hy0⟩ : ∃ y0, ((hiW (C1 + sumS (P.take (j + 1))) : Nat) : Int) = y0 := ⟨_, rfl⟩
                obtain ⟨y1, hy1⟩ : ∃ y1, ((loW (C1 + sumS (P.take (j + 1))) : Nat) : Int) = y1 := ⟨_, rfl⟩
                rw [hy0, hy1] at AC
                have EY := Lib.hid (And.intro hy0 hy1)
                have KA := Lib.hid (And.intro K.out LS.out)
                clear hy0 hy1 K LS
                obtain ⟨v0, v1⟩ := KA.out.1.sum.cells
                go_wp2_with fail
                go_region_with (first
                  | (go_at_call 16; (refine (LC.out _).mono ?_); rintro e W3 ⟨rfl, hb3⟩; have KC : Hid (CvL w sb a0 a1 W3 ∧ SL W3 (some ⟨b1, o1, none⟩) k' P) := Lib.hid (by first | exact ⟨KA.out.1.far hb3, KA.out.2.below hb3⟩ | exact ⟨KA.out.1.drew.far hb3, KA.out.2.drew.below hb3⟩); clear hb3; obtain ⟨i0, i1⟩ := KC.out.1.sum.cells)
                  | (go_at_call 37; (refine (AC.out _).mono ?_); rintro e W4 ⟨rfl, hb4⟩; have KD := Lib.hid (And.intro (KC.out.1.far hb4) (KC.out.2.below hb4)); clear hb4; obtain ⟨j0, j1⟩ := KD.out.1.sum.cells; obtain ⟨g0, g1⟩ := KD.out.1.sum.free))
                all_goals have KE := Lib.hid (And.intro (KD.out.1.put (x' := y0) (y' := y1) hne hle) (KD.out.2.put (x := y0) (y := y1) FAR.out))
                all_goals clear KD KC KA LC AC
                all_goals go_wp2_with fail
                all_goals go_roundg (gk - 1)
                all_goals first
                  | omega
                  | exact ⟨j + 1, by omega, by go_num, Lib.hid KE.out.2, by rw [EY.out.1, EY.out.2]; exact Lib.hid KE.out.1⟩
              · obtain rfl : j = P.length := by omega
                rw [List.take_length, ← EC.out] at K
                go_wp2_with fail
                go_roundg (l.length - (k + 1))
                case measure => omega
                case rel => exact ⟨k + 1, by omega, by go_num, by rw [HC2.out]; exact K⟩
    · obtain rfl : i = l.length := by omega
      rw [List.take_length] at K
      obtain ⟨z0, z1⟩ := K.out.res.cells
      obtain ⟨f0, f1⟩ := K.out.res.free
      obtain ⟨v0, v1⟩ := K.out.sum.cells
      have HR := Lib.hid (UB.put (p' := ((hiW (covN l N) : Nat) : Int)) (q' := ((loW (covN l N) : Nat) : Int)) K.out.res)
      have HB := Lib.hid (below_put2 K.out.below (Nat.le_refl w.heap.size) (.int .u64 ((hiW (covN l N) : Nat) : Int)) (.int .u64 ((loW (covN l N) : Nat) : Int)))
      clear K
      obtain ⟨a0, ha0⟩ : ∃ a0, ((hiW (covN l N) : Nat) : Int) = a0 := ⟨_, rfl⟩
      obtain ⟨a1, ha1⟩ : ∃ a1, ((loW (covN l N) : Nat) : Int) = a1 := ⟨_, rfl⟩
      have A0 := Lib.hid (And.intro ha0 ha1)
      rw [ha0] at v0 HR HB
      rw [ha1] at v1 HR HB
      clear ha0 ha1
      go_wp2_with fail
      generalize World.setCell (World.setCell wr _ _) _ _ = V5 at HR HB ⊢
      obtain ⟨r1, r2⟩ := HR.out.cells
      try simp only [Exit.inBlock, Exit.then, Exit.noGoto]
      refine bodyPost_ret (by simp [results, Try.results28, go_sem, r1, r2]; try rfl) rfl ?_
      exact ⟨by rw [← A0.out.1, ← A0.out.2], HB.out⟩
end Go.Proofs.Ytolicfackceomaa
