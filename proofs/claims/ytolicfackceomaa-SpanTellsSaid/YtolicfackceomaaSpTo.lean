/-
  What without of the reference of layer 15 answers.
-/
import Derived.Test.YtolicfackceomaaSpTm
import Derived.Test.YtolicfackceomaaSpS
import Derived.Test.YtolicfackceomaaSpQ
import Derived.Deep.RegionHeld3
namespace Go.Proofs.Ytolicfackceomaa
open Go.RowKit
set_option linter.unusedVariables false
set_option maxRecDepth 100000

theorem quietJ {P : Program} {f : FuncId} {args : Array Value} {W0 w : World} {n : Int} (h : Calls P f args w (fun e w' => e = .returned (.int .i64 n) ∧ Below w.heap.size w w')) (hC : Below W0.heap.size W0 w) :
    Calls P f args w (fun e w'' => e = .returned (.int .i64 n) ∧ Below W0.heap.size W0 w'') := quietOf h hC
theorem wo_two (t : Sp) : ∀ l : List Sp, (wo t l).length ≤ 2 * l.length
  | [] => Nat.zero_le _
  | p :: l => by
    have := wo_two t l
    have := pt_two t p
    rw [wo_cons, List.length_append, List.length_cons]; omega
theorem Grow.slN {t : TypeId} {B : Nat} {w wr : World} {v : Value} {l : List Sp} (h : Grow t B w v l wr) : ∃ A cap, v = .slice A l.length cap ∧ SL wr A cap l ∧ ∀ a, A = some a → B ≤ a.block := by
  obtain ⟨A, cap, rfl, hs⟩ := h.sl
  rcases h.own.2 with ⟨e, _⟩ | ⟨g, cap', cur, e, hg, _⟩
  · have hA : A = none := (Value.slice.inj e).1
    exact ⟨A, cap, rfl, hs, fun a ea => by rw [hA] at ea; cases ea⟩
  · have hA : A = some ⟨g, 0, none⟩ := (Value.slice.inj e).1
    exact ⟨A, cap, rfl, hs, fun a ea => by rw [hA] at ea; cases ea; exact hg⟩
/-- An answer that is a list of spans, in a block of its own. -/
def AnsLN (l : List Sp) (w : World) (e : Ending) (w' : World) : Prop := ∃ A cap, e = .returned (.slice A l.length cap) ∧ SL w' A cap l ∧ Below w.heap.size w w' ∧ ∀ a, A = some a → w.heap.size ≤ a.block
set_option maxHeartbeats 16000000 in
theorem rWithout (A : Option Addr) (cap : Nat) (l : List Sp) {e0 e1 e2 e3 : Int} {u : Sp} (hu : Ws e0 e1 e2 e3 u) (w : World) (h : SL w A cap l) (hn : l.length ≤ 400) :
    Calls Try.prog 44 #[.slice A l.length cap, .agg #[.int .u64 e0, .int .u64 e1, .int .u64 e2, .int .u64 e3]] w (AnsLN (wo u l) w) := by
  obtain ⟨i0, hi, hz0, hz1, hz2⟩ := info_parts infoR
  have HI := Lib.hid hi
  have HZ0 := Lib.hid hz0
  have HZ1 := Lib.hid hz1
  have HZ2 := Lib.hid hz2
  have H := Lib.hid h
  have HU := Lib.hid hu
  have hcap1 := h.cap1
  have hcap2 := h.cap2
  have K := Lib.hid (And.intro (SB.new w e0 e1 e2 e3 34) (below_allocs w (.cells #[.int .u64 e0, .int .u64 e1, .int .u64 e2, .int .u64 e3] 34)))
  clear hi hz0 hz1 hz2 h hu
  go_enter Try.func44, Try.ntmps44
  go_upto_region 1 with fail
  generalize World.alloc w _ = W1 at K ⊢
  have hy := K.out.1.lt
  go_wp2_with fail
  go_loopg [5, 6] l.length (fun g v iv wr => ∃ i : Nat, i + g = l.length ∧ iv = .int .i64 i ∧ Hid (Grow 34 W1.heap.size W1 v (wo u (l.take i)) wr))
  case atStart => exact ⟨0, by omega, rfl, Lib.hid (grow_start _ W1)⟩
  case round =>
    obtain ⟨i, hi, rfl, G⟩ := hrel
    have GB : Hid (Below w.heap.size w wr) := Lib.hid (below_then K.out.2 G.out.below)
    by_cases hlt : i < l.length
    · have hlt' : (i : Int) < l.length := by omega
      have hi0 : (0 : Int) ≤ (i : Int) := Int.natCast_nonneg _
      obtain ⟨b, o, p, q, r, t, rfl, hl, HS, c0, c1, c2, c3⟩ := H.out.at4 hlt
      have EW : Hid (wo u (l.take (i + 1)) = wo u (l.take i) ++ pt u (l.getD i default)) := Lib.hid (by rw [take_succ_getD l i hlt, wo_snoc])
      generalize l.getD i default = s at HS EW
      have bl : (wo u (l.take i)).length ≤ 800 := by have := wo_two u (l.take i); rw [List.length_take] at this; omega
      generalize wo u (l.take i) = X at G EW bl
      have na : Hid (u5.ownBlock ≠ some b) := Lib.hid (fun e => by have := (G.out.own.lt _ e).1; omega)
      have ny : Hid (u5.ownBlock ≠ some w.heap.size) := Lib.hid (fun e => by have := (G.out.own.lt _ e).1; omega)
      have MC := Lib.hid (srMeet HS.out HU.out)
      cases hm : meetS s u with
      | false =>
        rw [hm] at MC
        have EP : Hid (pt u s = [s]) := Lib.hid (by unfold pt; rw [if_neg (by rw [hm]; simp)])
        rw [EP.out] at EW
        clear hm EP
        go_wp2_with fail
        refine wp_region_class (fun w' => Below wr.heap.size wr w') (by kernel_rfl) (by kernel_rfl) (Below.refl _ _).drew ?_
        iterate 7
          (refine WQ.yes ?_ (by kernel_rfl) (fun w' hC => ?_) ?_
           rotate_left
           · (have x0 := ((below_then GB.out hC).cell (p := ⟨b, o + i * 4, none⟩) hl).trans c0
              have x1 := ((below_then GB.out hC).cell (p := ⟨b, o + i * 4 + 1, none⟩) hl).trans c1
              have x2 := ((below_then GB.out hC).cell (p := ⟨b, o + i * 4 + 2, none⟩) hl).trans c2
              have x3 := ((below_then GB.out hC).cell (p := ⟨b, o + i * 4 + 3, none⟩) hl).trans c3
              obtain ⟨z0, z1, z2, z3⟩ := (K.out.1.below (below_then G.out.below hC)).cells
              go_simp
              first | done | with_reducible rfl | exact ⟨rfl, rfl⟩ | (go_at_call 20; (with_reducible exact quietB (MC.out _) hC)))
           (try simp only [Act.put, List.setIfInBounds_toArray, List.set_cons_zero, List.set_cons_succ]))
        refine WQ.nil ?_
        intro w1z hX
        replace GB := Lib.hid (below_then GB.out hX)
        replace G := Lib.hid (G.out.far hX)
        clear hX
        have hC := Below.refl w1z.heap.size w1z
        have x0 := ((below_then GB.out hC).cell (p := ⟨b, o + i * 4, none⟩) hl).trans c0
        have x1 := ((below_then GB.out hC).cell (p := ⟨b, o + i * 4 + 1, none⟩) hl).trans c1
        have x2 := ((below_then GB.out hC).cell (p := ⟨b, o + i * 4 + 2, none⟩) hl).trans c2
        have x3 := ((below_then GB.out hC).cell (p := ⟨b, o + i * 4 + 3, none⟩) hl).trans c3
        obtain ⟨z0, z1, z2, z3⟩ := (K.out.1.below (below_then G.out.below hC)).cells
        have sz := G.out.below.size
        go_wp2_with (at_builtin; refine wpList_append_own _ rfl _ _ 50 rfl W1.heap.size 34 i0 (.agg #[.int .u64 0, .int .u64 0, .int .u64 0, .int .u64 0]) 4 32 Try.underlying50 HI.out HZ0.out HZ1.out HZ2.out rfl (by decide) _ _ _ rfl (G.out.own.alloc _) ⟨w1z.heap.size, 0, none⟩ 1 1 (encs [s]) rfl rfl ?c1 ?c2 ?c3 ?c4 ?c5 ?_)
        case c1 => exact new4 w1z s _ _ _ _ _ HS.out.enc
        case c2 => exact encs_one _
        case c3 => unfold maxLen; omega
        case c4 => omega
        case c5 => simp; omega
        intro v' w1 hown hgrow _
        have G1 := Lib.hid ((G.out.far (below_allocs w1z (.cells #[.int .u64 p, .int .u64 q, .int .u64 r, .int .u64 t] 34))).step (k := [s]) (fun x hx => by rw [List.mem_singleton.1 hx]; exact HS.out.ok) (v' := v') (by simpa using hown) hgrow)
        clear hown hgrow x0 x1 x2 x3 z0 z1 z2 z3 hC sz
        go_wp2
        go_roundg (gk - 1)
        case measure => omega
        case rel => exact ⟨i + 1, by omega, by go_num, Lib.hid (by rw [EW.out]; exact G1.out)⟩
      | true =>
        rw [hm] at MC
        have EP : Hid (pt u s = (if s.f < u.f then [⟨s.f, u.f⟩] else []) ++ (if u.t < s.t then [⟨u.t, s.t⟩] else [])) := Lib.hid (by unfold pt; rw [if_pos hm])
        rw [EP.out] at EW
        clear hm EP
        have C1 := Lib.hid (fun w => rrCmp HS.out.f HU.out.f w)
        have C2 := Lib.hid (fun w => rrCmp HU.out.t HS.out.t w)
        go_wp2_with fail
        refine wp_region_class (fun w' => Below wr.heap.size wr w') (by kernel_rfl) (by kernel_rfl) (Below.refl _ _).drew ?_
        iterate 7
          (refine WQ.yes ?_ (by kernel_rfl) (fun w' hC => ?_) ?_
           rotate_left
           · (have x0 := ((below_then GB.out hC).cell (p := ⟨b, o + i * 4, none⟩) hl).trans c0
              have x1 := ((below_then GB.out hC).cell (p := ⟨b, o + i * 4 + 1, none⟩) hl).trans c1
              have x2 := ((below_then GB.out hC).cell (p := ⟨b, o + i * 4 + 2, none⟩) hl).trans c2
              have x3 := ((below_then GB.out hC).cell (p := ⟨b, o + i * 4 + 3, none⟩) hl).trans c3
              obtain ⟨z0, z1, z2, z3⟩ := (K.out.1.below (below_then G.out.below hC)).cells
              go_simp
              first | done | with_reducible rfl | exact ⟨rfl, rfl⟩ | (go_at_call 20; (with_reducible exact quietB (MC.out _) hC)))
           (try simp only [Act.put, List.setIfInBounds_toArray, List.set_cons_zero, List.set_cons_succ]))
        refine WQ.nil ?_
        intro w2z hX
        replace GB := Lib.hid (below_then GB.out hX)
        replace G := Lib.hid (G.out.far hX)
        clear hX
        clear MC
        by_cases h1 : s.f < u.f
        · rw [if_pos h1] at EW
          have k1 : cmpN s.f u.f < 0 := by have := (cmpN_lt s.f u.f).trans (decide_eq_true h1); exact of_decide_eq_true this
          generalize cmpN s.f u.f = m1 at C1 k1
          go_wp2_with fail
          refine wp_region_class (fun w' => Below w2z.heap.size w2z w') (by kernel_rfl) (by kernel_rfl) (Below.refl _ _).drew ?_
          iterate 9
            (refine WQ.yes ?_ (by kernel_rfl) (fun w' hC => ?_) ?_
             rotate_left
             · (have x0 := ((below_then GB.out hC).cell (p := ⟨b, o + i * 4, none⟩) hl).trans c0
                have x1 := ((below_then GB.out hC).cell (p := ⟨b, o + i * 4 + 1, none⟩) hl).trans c1
                have x2 := ((below_then GB.out hC).cell (p := ⟨b, o + i * 4 + 2, none⟩) hl).trans c2
                have x3 := ((below_then GB.out hC).cell (p := ⟨b, o + i * 4 + 3, none⟩) hl).trans c3
                obtain ⟨z0, z1, z2, z3⟩ := (K.out.1.below (below_then G.out.below hC)).cells
                go_simp
                first | done | with_reducible rfl | exact ⟨rfl, rfl⟩ | (go_at_call 35; (with_reducible exact quietJ (C1.out _) hC)))
             (try simp only [Act.put, List.setIfInBounds_toArray, List.set_cons_zero, List.set_cons_succ]))
          refine WQ.nil ?_
          intro w3z hX
          replace GB := Lib.hid (below_then GB.out hX)
          replace G := Lib.hid (G.out.far hX)
          clear hX
          clear C1
          have hC := Below.refl w3z.heap.size w3z
          have x0 := ((below_then GB.out hC).cell (p := ⟨b, o + i * 4, none⟩) hl).trans c0
          have x1 := ((below_then GB.out hC).cell (p := ⟨b, o + i * 4 + 1, none⟩) hl).trans c1
          have x2 := ((below_then GB.out hC).cell (p := ⟨b, o + i * 4 + 2, none⟩) hl).trans c2
          have x3 := ((below_then GB.out hC).cell (p := ⟨b, o + i * 4 + 3, none⟩) hl).trans c3
          obtain ⟨z0, z1, z2, z3⟩ := (K.out.1.below (below_then G.out.below hC)).cells
          have sz := G.out.below.size
          go_wp2_with fail
          go_region_held3 (fun w' => w'.cell? ⟨b, o + i * 4, none⟩ = some (.int .u64 p) ∧ w'.cell? ⟨b, o + i * 4 + 1, none⟩ = some (.int .u64 q) ∧ w'.cell? ⟨w.heap.size, 0, none⟩ = some (.int .u64 e0) ∧ w'.cell? ⟨w.heap.size, 1, none⟩ = some (.int .u64 e1))
            (first
              | go_keep
              | (go_split_ands
                 refine ⟨?_, ?_, ?_, ?_⟩
                 · (rw [hgrow.cell_far _ (by simp; omega) (Ne.symm na.out)]; assumption)
                 · (rw [hgrow.cell_far _ (by simp; omega) (Ne.symm na.out)]; assumption)
                 · (rw [hgrow.cell_far _ (by simp; omega) (Ne.symm ny.out)]; assumption)
                 · (rw [hgrow.cell_far _ (by simp; omega) (Ne.symm ny.out)]; assumption)))
            ((refine step_append_lies _ (by rfl) _ _ _ (by rfl) W1.heap.size 34 i0 _ 4 32 Try.underlying50 HI.out HZ0.out HZ1.out HZ2.out rfl (by omega) _ _ _ (by rfl) ((G.out.own.alloc _).drew) ⟨w3z.heap.size, 0, none⟩ 1 1 [.int .u64 p, .int .u64 q, .int .u64 e0, .int .u64 e1] (by rfl) (by rfl) (World.news_of_block (cs := #[.int .u64 p, .int .u64 q, .int .u64 e0, .int .u64 e1]) (t := 34) (fr := (0, 0)) (heap_alloc_new w3z _)) (by simp [Value.oneCell']) (by omega) (by unfold maxLen; omega) (by omega) (by simp; omega) (w3z.heap.size + 1) (by simp) ?_; intro gg cap' w1 hown1 hgrow hat hlt1))
          have G1 := Lib.hid ((G.out.far ((below_allocs w3z _).drew)).step (k := [⟨s.f, u.f⟩]) (fun x hx => by rw [List.mem_singleton.1 hx]; exact ⟨HS.out.ok.1, HU.out.ok.1⟩) (by rw [encs, encs, List.append_nil, (Ws.mk HS.out.f HU.out.f : Ws p q e0 e1 ⟨s.f, u.f⟩).enc]; exact hown1) hgrow)
          clear G
          have G := G1
          clear G1
          have GB2 : Hid (Below w.heap.size w w1) := Lib.hid (below_then K.out.2 G.out.below)
          clear GB
          have GB := GB2
          clear GB2
          clear hown1 hgrow hat hlt1 x0 x1 x2 x3 z0 z1 z2 z3 hC sz na ny
          have na : Hid ((Value.slice (some ⟨gg, 0, none⟩) (X.length + 1) cap').ownBlock ≠ some b) := Lib.hid (fun e => by have := (G.out.own.lt _ e).1; omega)
          have ny : Hid ((Value.slice (some ⟨gg, 0, none⟩) (X.length + 1) cap').ownBlock ≠ some w.heap.size) := Lib.hid (fun e => by have := (G.out.own.lt _ e).1; omega)
          have bl2 : (X ++ [(⟨s.f, u.f⟩ : Sp)]).length ≤ 801 := by simp; omega
          rw [← List.append_assoc] at EW
          generalize X ++ [(⟨s.f, u.f⟩ : Sp)] = Y at G EW bl2
          by_cases h2 : u.t < s.t
          · rw [if_pos h2] at EW
            have k2 : cmpN u.t s.t < 0 := by have := (cmpN_lt u.t s.t).trans (decide_eq_true h2); exact of_decide_eq_true this
            generalize cmpN u.t s.t = m2 at C2 k2
            go_wp2_with fail
            refine wp_region_class (fun w' => Below w1.heap.size w1 w') (by kernel_rfl) (by kernel_rfl) (Below.refl _ _).drew ?_
            iterate 9
              (refine WQ.yes ?_ (by kernel_rfl) (fun w' hC => ?_) ?_
               rotate_left
               · (have x0 := ((below_then GB.out hC).cell (p := ⟨b, o + i * 4, none⟩) hl).trans c0
                  have x1 := ((below_then GB.out hC).cell (p := ⟨b, o + i * 4 + 1, none⟩) hl).trans c1
                  have x2 := ((below_then GB.out hC).cell (p := ⟨b, o + i * 4 + 2, none⟩) hl).trans c2
                  have x3 := ((below_then GB.out hC).cell (p := ⟨b, o + i * 4 + 3, none⟩) hl).trans c3
                  obtain ⟨z0, z1, z2, z3⟩ := (K.out.1.below (below_then G.out.below hC)).cells
                  go_simp
                  first | done | with_reducible rfl | exact ⟨rfl, rfl⟩ | (go_at_call 35; (with_reducible exact quietJ (C2.out _) hC)))
               (try simp only [Act.put, List.setIfInBounds_toArray, List.set_cons_zero, List.set_cons_succ]))
            refine WQ.nil ?_
            intro w4z hX
            replace GB := Lib.hid (below_then GB.out hX)
            replace G := Lib.hid (G.out.far hX)
            clear hX
            clear C2
            have hC := Below.refl w4z.heap.size w4z
            have x0 := ((below_then GB.out hC).cell (p := ⟨b, o + i * 4, none⟩) hl).trans c0
            have x1 := ((below_then GB.out hC).cell (p := ⟨b, o + i * 4 + 1, none⟩) hl).trans c1
            have x2 := ((below_then GB.out hC).cell (p := ⟨b, o + i * 4 + 2, none⟩) hl).trans c2
            have x3 := ((below_then GB.out hC).cell (p := ⟨b, o + i * 4 + 3, none⟩) hl).trans c3
            obtain ⟨z0, z1, z2, z3⟩ := (K.out.1.below (below_then G.out.below hC)).cells
            have sz := G.out.below.size
            go_wp2_with fail
            go_region_held3 (fun w' => w'.cell? ⟨b, o + i * 4 + 2, none⟩ = some (.int .u64 r) ∧ w'.cell? ⟨b, o + i * 4 + 3, none⟩ = some (.int .u64 t) ∧ w'.cell? ⟨w.heap.size, 2, none⟩ = some (.int .u64 e2) ∧ w'.cell? ⟨w.heap.size, 3, none⟩ = some (.int .u64 e3))
              (first
                | go_keep
                | (go_split_ands
                   refine ⟨?_, ?_, ?_, ?_⟩
                   · (rw [hgrow.cell_far _ (by simp; omega) (Ne.symm na.out)]; assumption)
                   · (rw [hgrow.cell_far _ (by simp; omega) (Ne.symm na.out)]; assumption)
                   · (rw [hgrow.cell_far _ (by simp; omega) (Ne.symm ny.out)]; assumption)
                   · (rw [hgrow.cell_far _ (by simp; omega) (Ne.symm ny.out)]; assumption)))
              ((refine step_append_lies _ (by rfl) _ _ _ (by rfl) W1.heap.size 34 i0 _ 4 32 Try.underlying50 HI.out HZ0.out HZ1.out HZ2.out rfl (by omega) _ _ _ (by rfl) ((G.out.own.alloc _).drew) ⟨w4z.heap.size, 0, none⟩ 1 1 [.int .u64 e2, .int .u64 e3, .int .u64 r, .int .u64 t] (by rfl) (by rfl) (World.news_of_block (cs := #[.int .u64 e2, .int .u64 e3, .int .u64 r, .int .u64 t]) (t := 34) (fr := (0, 0)) (heap_alloc_new w4z _)) (by simp [Value.oneCell']) (by omega) (by unfold maxLen; omega) (by omega) (by simp; omega) (w4z.heap.size + 1) (by simp) ?_; intro gg cap' w1 hown1 hgrow hat hlt1))
            have G1 := Lib.hid ((G.out.far ((below_allocs w4z _).drew)).step (k := [⟨u.t, s.t⟩]) (fun x hx => by rw [List.mem_singleton.1 hx]; exact ⟨HU.out.ok.2, HS.out.ok.2⟩) (by rw [encs, encs, List.append_nil, (Ws.mk HU.out.t HS.out.t : Ws e2 e3 r t ⟨u.t, s.t⟩).enc]; exact hown1) hgrow)
            clear hown1 hgrow hat hlt1 x0 x1 x2 x3 z0 z1 z2 z3 hC sz
            go_wp2
            go_roundg (gk - 1)
            case measure => omega
            case rel => exact ⟨i + 1, by omega, by go_num, Lib.hid (by rw [EW.out]; exact G1.out)⟩
          · rw [if_neg h2] at EW
            have k2 : ¬ cmpN u.t s.t < 0 := by have := (cmpN_lt u.t s.t).trans (decide_eq_false h2); exact of_decide_eq_false this
            generalize cmpN u.t s.t = m2 at C2 k2
            go_wp2_with fail
            refine wp_region_class (fun w' => Below w1.heap.size w1 w') (by kernel_rfl) (by kernel_rfl) (Below.refl _ _).drew ?_
            iterate 9
              (refine WQ.yes ?_ (by kernel_rfl) (fun w' hC => ?_) ?_
               rotate_left
               · (have x0 := ((below_then GB.out hC).cell (p := ⟨b, o + i * 4, none⟩) hl).trans c0
                  have x1 := ((below_then GB.out hC).cell (p := ⟨b, o + i * 4 + 1, none⟩) hl).trans c1
                  have x2 := ((below_then GB.out hC).cell (p := ⟨b, o + i * 4 + 2, none⟩) hl).trans c2
                  have x3 := ((below_then GB.out hC).cell (p := ⟨b, o + i * 4 + 3, none⟩) hl).trans c3
                  obtain ⟨z0, z1, z2, z3⟩ := (K.out.1.below (below_then G.out.below hC)).cells
                  go_simp
                  first | done | with_reducible rfl | exact ⟨rfl, rfl⟩ | (go_at_call 35; (with_reducible exact quietJ (C2.out _) hC)))
               (try simp only [Act.put, List.setIfInBounds_toArray, List.set_cons_zero, List.set_cons_succ]))
            refine WQ.nil ?_
            intro w5z hX
            replace GB := Lib.hid (below_then GB.out hX)
            replace G := Lib.hid (G.out.far hX)
            clear hX
            clear C2 c0 c1 c2 c3 hl
            go_wp2
            go_roundg (gk - 1)
            case measure => omega
            case rel => exact ⟨i + 1, by omega, by go_num, Lib.hid (by rw [EW.out]; exact by simpa using G.out)⟩
        · rw [if_neg h1] at EW
          have k1 : ¬ cmpN s.f u.f < 0 := by have := (cmpN_lt s.f u.f).trans (decide_eq_false h1); exact of_decide_eq_false this
          generalize cmpN s.f u.f = m1 at C1 k1
          go_wp2_with fail
          refine wp_region_class (fun w' => Below w2z.heap.size w2z w') (by kernel_rfl) (by kernel_rfl) (Below.refl _ _).drew ?_
          iterate 9
            (refine WQ.yes ?_ (by kernel_rfl) (fun w' hC => ?_) ?_
             rotate_left
             · (have x0 := ((below_then GB.out hC).cell (p := ⟨b, o + i * 4, none⟩) hl).trans c0
                have x1 := ((below_then GB.out hC).cell (p := ⟨b, o + i * 4 + 1, none⟩) hl).trans c1
                have x2 := ((below_then GB.out hC).cell (p := ⟨b, o + i * 4 + 2, none⟩) hl).trans c2
                have x3 := ((below_then GB.out hC).cell (p := ⟨b, o + i * 4 + 3, none⟩) hl).trans c3
                obtain ⟨z0, z1, z2, z3⟩ := (K.out.1.below (below_then G.out.below hC)).cells
                go_simp
                first | done | with_reducible rfl | exact ⟨rfl, rfl⟩ | (go_at_call 35; (with_reducible exact quietJ (C1.out _) hC)))
             (try simp only [Act.put, List.setIfInBounds_toArray, List.set_cons_zero, List.set_cons_succ]))
          refine WQ.nil ?_
          intro w6z hX
          replace GB := Lib.hid (below_then GB.out hX)
          replace G := Lib.hid (G.out.far hX)
          clear hX
          clear C1
          rw [List.nil_append] at EW
          by_cases h2 : u.t < s.t
          · rw [if_pos h2] at EW
            have k2 : cmpN u.t s.t < 0 := by have := (cmpN_lt u.t s.t).trans (decide_eq_true h2); exact of_decide_eq_true this
            generalize cmpN u.t s.t = m2 at C2 k2
            go_wp2_with fail
            refine wp_region_class (fun w' => Below w6z.heap.size w6z w') (by kernel_rfl) (by kernel_rfl) (Below.refl _ _).drew ?_
            iterate 9
              (refine WQ.yes ?_ (by kernel_rfl) (fun w' hC => ?_) ?_
               rotate_left
               · (have x0 := ((below_then GB.out hC).cell (p := ⟨b, o + i * 4, none⟩) hl).trans c0
                  have x1 := ((below_then GB.out hC).cell (p := ⟨b, o + i * 4 + 1, none⟩) hl).trans c1
                  have x2 := ((below_then GB.out hC).cell (p := ⟨b, o + i * 4 + 2, none⟩) hl).trans c2
                  have x3 := ((below_then GB.out hC).cell (p := ⟨b, o + i * 4 + 3, none⟩) hl).trans c3
                  obtain ⟨z0, z1, z2, z3⟩ := (K.out.1.below (below_then G.out.below hC)).cells
                  go_simp
                  first | done | with_reducible rfl | exact ⟨rfl, rfl⟩ | (go_at_call 35; (with_reducible exact quietJ (C2.out _) hC)))
               (try simp only [Act.put, List.setIfInBounds_toArray, List.set_cons_zero, List.set_cons_succ]))
            refine WQ.nil ?_
            intro w7z hX
            replace GB := Lib.hid (below_then GB.out hX)
            replace G := Lib.hid (G.out.far hX)
            clear hX
            clear C2
            have hC := Below.refl w7z.heap.size w7z
            have x0 := ((below_then GB.out hC).cell (p := ⟨b, o + i * 4, none⟩) hl).trans c0
            have x1 := ((below_then GB.out hC).cell (p := ⟨b, o + i * 4 + 1, none⟩) hl).trans c1
            have x2 := ((below_then GB.out hC).cell (p := ⟨b, o + i * 4 + 2, none⟩) hl).trans c2
            have x3 := ((below_then GB.out hC).cell (p := ⟨b, o + i * 4 + 3, none⟩) hl).trans c3
            obtain ⟨z0, z1, z2, z3⟩ := (K.out.1.below (below_then G.out.below hC)).cells
            have sz := G.out.below.size
            go_wp2_with fail
            go_region_held3 (fun w' => w'.cell? ⟨b, o + i * 4 + 2, none⟩ = some (.int .u64 r) ∧ w'.cell? ⟨b, o + i * 4 + 3, none⟩ = some (.int .u64 t) ∧ w'.cell? ⟨w.heap.size, 2, none⟩ = some (.int .u64 e2) ∧ w'.cell? ⟨w.heap.size, 3, none⟩ = some (.int .u64 e3))
              (first
                | go_keep
                | (go_split_ands
                   refine ⟨?_, ?_, ?_, ?_⟩
                   · (rw [hgrow.cell_far _ (by simp; omega) (Ne.symm na.out)]; assumption)
                   · (rw [hgrow.cell_far _ (by simp; omega) (Ne.symm na.out)]; assumption)
                   · (rw [hgrow.cell_far _ (by simp; omega) (Ne.symm ny.out)]; assumption)
                   · (rw [hgrow.cell_far _ (by simp; omega) (Ne.symm ny.out)]; assumption)))
              ((refine step_append_lies _ (by rfl) _ _ _ (by rfl) W1.heap.size 34 i0 _ 4 32 Try.underlying50 HI.out HZ0.out HZ1.out HZ2.out rfl (by omega) _ _ _ (by rfl) ((G.out.own.alloc _).drew) ⟨w7z.heap.size, 0, none⟩ 1 1 [.int .u64 e2, .int .u64 e3, .int .u64 r, .int .u64 t] (by rfl) (by rfl) (World.news_of_block (cs := #[.int .u64 e2, .int .u64 e3, .int .u64 r, .int .u64 t]) (t := 34) (fr := (0, 0)) (heap_alloc_new w7z _)) (by simp [Value.oneCell']) (by omega) (by unfold maxLen; omega) (by omega) (by simp; omega) (w7z.heap.size + 1) (by simp) ?_; intro gg cap' w1 hown1 hgrow hat hlt1))
            have G1 := Lib.hid ((G.out.far ((below_allocs w7z _).drew)).step (k := [⟨u.t, s.t⟩]) (fun x hx => by rw [List.mem_singleton.1 hx]; exact ⟨HU.out.ok.2, HS.out.ok.2⟩) (by rw [encs, encs, List.append_nil, (Ws.mk HU.out.t HS.out.t : Ws e2 e3 r t ⟨u.t, s.t⟩).enc]; exact hown1) hgrow)
            clear hown1 hgrow hat hlt1 x0 x1 x2 x3 z0 z1 z2 z3 hC sz
            go_wp2
            go_roundg (gk - 1)
            case measure => omega
            case rel => exact ⟨i + 1, by omega, by go_num, Lib.hid (by rw [EW.out]; exact G1.out)⟩
          · rw [if_neg h2] at EW
            have k2 : ¬ cmpN u.t s.t < 0 := by have := (cmpN_lt u.t s.t).trans (decide_eq_false h2); exact of_decide_eq_false this
            generalize cmpN u.t s.t = m2 at C2 k2
            go_wp2_with fail
            refine wp_region_class (fun w' => Below w6z.heap.size w6z w') (by kernel_rfl) (by kernel_rfl) (Below.refl _ _).drew ?_
            iterate 9
              (refine WQ.yes ?_ (by kernel_rfl) (fun w' hC => ?_) ?_
               rotate_left
               · (have x0 := ((below_then GB.out hC).cell (p := ⟨b, o + i * 4, none⟩) hl).trans c0
                  have x1 := ((below_then GB.out hC).cell (p := ⟨b, o + i * 4 + 1, none⟩) hl).trans c1
                  have x2 := ((below_then GB.out hC).cell (p := ⟨b, o + i * 4 + 2, none⟩) hl).trans c2
                  have x3 := ((below_then GB.out hC).cell (p := ⟨b, o + i * 4 + 3, none⟩) hl).trans c3
                  obtain ⟨z0, z1, z2, z3⟩ := (K.out.1.below (below_then G.out.below hC)).cells
                  go_simp
                  first | done | with_reducible rfl | exact ⟨rfl, rfl⟩ | (go_at_call 35; (with_reducible exact quietJ (C2.out _) hC)))
               (try simp only [Act.put, List.setIfInBounds_toArray, List.set_cons_zero, List.set_cons_succ]))
            refine WQ.nil ?_
            intro w8z hX
            replace GB := Lib.hid (below_then GB.out hX)
            replace G := Lib.hid (G.out.far hX)
            clear hX
            clear C2 c0 c1 c2 c3 hl
            go_wp2
            go_roundg (gk - 1)
            case measure => omega
            case rel => exact ⟨i + 1, by omega, by go_num, Lib.hid (by rw [EW.out]; exact by simpa using G.out)⟩
    · obtain rfl : i = l.length := by omega
      rw [List.take_length] at G
      go_wp2
      go_ret
      obtain ⟨A', k', rfl, hs, hf⟩ := G.out.slN
      exact ⟨A', k', rfl, hs, GB.out, fun a e => by have := hf a e; omega⟩
end Go.Proofs.Ytolicfackceomaa
