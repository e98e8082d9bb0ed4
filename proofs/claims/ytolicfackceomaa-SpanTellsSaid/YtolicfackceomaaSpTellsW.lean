/-
  The walk of SpanTells.
-/
import Derived.Test.YtolicfackceomaaSpTb
import Derived.Test.YtolicfackceomaaSpTc
import Derived.Test.YtolicfackceomaaSpTe
import Derived.Test.YtolicfackceomaaSpTw
import Derived.Test.YtolicfackceomaaSpRd
import Derived.BigRegion
import Derived.Deep.RegionHeld3
import Derived.Deep.DeepCutAuto
namespace Go.Proofs.Ytolicfackceomaa
open Go.RowKit
set_option linter.unusedVariables false
set_option maxRecDepth 100000

theorem eqRS_same (a b c d : Int) (w : World) : Sem.run Try.prog (Op.equalIn 10000 34 (.agg #[.int .u64 a, .int .u64 b, .int .u64 c, .int .u64 d]) (.agg #[.int .u64 a, .int .u64 b, .int .u64 c, .int .u64 d])) w = .ok true w := by rw [eqRS]; simp
theorem eqRU_same (a b : Int) (w : World) : Sem.run Try.prog (Op.equalIn 10000 32 (.agg #[.int .u64 a, .int .u64 b]) (.agg #[.int .u64 a, .int .u64 b])) w = .ok true w := by rw [eqRU]; simp
theorem tw_len : ∀ (l : List Sp) (m : Sp → Nat), (tw m l).length ≤ l.length
  | [], _ => Nat.le_refl _
  | s :: l, m => by
    rw [tw_cons]
    split
    · have := tw_len l (upd m s 0); simp only [List.length_cons]; omega
    · have := tw_len l m; simp only [List.length_cons]; omega
/-- What SpanTells' calls answer. -/
structure TlC (s0 s1 s2 s3 t0 t1 t2 t3 m k0 : Int) (A : Option Addr) (cap : Nat) (l TL : List Sp) (w : World) (h0 h1 h2 h3 h4 h5 h6 h7 k1 v0 v1 v2 v3 v4 v5 v6 v7 k2 e0 e1 c0 c1 : Int) (r1 r2 r3 ap : Bool) : Prop where
  halves : TSS 8 #[.agg #[.int .u64 s0, .int .u64 s1, .int .u64 s2, .int .u64 s3]] h0 h1 h2 h3 h4 h5 h6 h7 k1
  rhalves : TSS 9 #[.agg #[.int .u64 s0, .int .u64 s1, .int .u64 s2, .int .u64 s3]] h0 h1 h2 h3 h4 h5 h6 h7 k1
  take : TSS 11 #[.agg #[.int .u64 s0, .int .u64 s1, .int .u64 s2, .int .u64 s3], .agg #[.int .u64 m, .int .u64 k0]] v0 v1 v2 v3 v4 v5 v6 v7 k2
  rtake : TSS 12 #[.agg #[.int .u64 s0, .int .u64 s1, .int .u64 s2, .int .u64 s3], .agg #[.int .u64 m, .int .u64 k0]] v0 v1 v2 v3 v4 v5 v6 v7 k2
  right : TB 13 #[.agg #[.int .u64 s0, .int .u64 s1, .int .u64 s2, .int .u64 s3]] r1
  rright : TB 14 #[.agg #[.int .u64 s0, .int .u64 s1, .int .u64 s2, .int .u64 s3]] r1
  len : TU 15 #[.agg #[.int .u64 s0, .int .u64 s1, .int .u64 s2, .int .u64 s3]] e0 e1
  rlen : TU 16 #[.agg #[.int .u64 s0, .int .u64 s1, .int .u64 s2, .int .u64 s3]] e0 e1
  has : TB 17 #[.agg #[.int .u64 s0, .int .u64 s1, .int .u64 s2, .int .u64 s3], .agg #[.int .u64 m, .int .u64 k0]] r2
  rhas : TB 18 #[.agg #[.int .u64 s0, .int .u64 s1, .int .u64 s2, .int .u64 s3], .agg #[.int .u64 m, .int .u64 k0]] r2
  meet : TB 19 #[.agg #[.int .u64 s0, .int .u64 s1, .int .u64 s2, .int .u64 s3], .agg #[.int .u64 t0, .int .u64 t1, .int .u64 t2, .int .u64 t3]] r3
  rmeet : TB 20 #[.agg #[.int .u64 s0, .int .u64 s1, .int .u64 s2, .int .u64 s3], .agg #[.int .u64 t0, .int .u64 t1, .int .u64 t2, .int .u64 t3]] r3
  short : TL.length ≤ 1000
  apart : ∀ W, Below w.heap.size w W → Calls Try.prog 21 #[.slice A l.length cap] W (fun e w' => e = .returned (.bool ap) ∧ Below W.heap.size W w')
  own : ∀ W, Below w.heap.size w W → Calls Try.prog 23 #[.slice A l.length cap] W (AnsL l W)
  rapart : ∀ (W : World) (B : Option Addr) (k : Nat), SL W B k l → Calls Try.prog 22 #[.slice B l.length k] W (fun e w' => e = .returned (.bool ap) ∧ Below W.heap.size W w')
  twice : ∀ W, Below w.heap.size w W → Calls Try.prog 25 #[.slice A l.length cap] W (AnsL TL W)
  ownT : ∀ (W : World) (B : Option Addr) (k : Nat), SL W B k TL → Calls Try.prog 23 #[.slice B TL.length k] W (AnsL TL W)
  rtwice : ∀ (W : World) (B : Option Addr) (k : Nat), SL W B k l → Calls Try.prog 26 #[.slice B l.length k] W (AnsL TL W)
  same : ∀ (W : World) (B : Option Addr) (k : Nat) (C : Option Addr) (j : Nat), SL W B k TL → SL W C j TL → Calls Try.prog 24 #[.slice B TL.length k, .slice C TL.length j] W (fun e w' => e = .returned (.bool true) ∧ Below W.heap.size W w')
  cover : ∀ W, Below w.heap.size w W → Calls Try.prog 27 #[.slice A l.length cap] W (fun e w' => e = .returned (.agg #[.int .u64 c0, .int .u64 c1]) ∧ Below W.heap.size W w')
  rcover : ∀ (W : World) (B : Option Addr) (k : Nat), SL W B k l → Calls Try.prog 28 #[.slice B l.length k] W (fun e w' => e = .returned (.agg #[.int .u64 c0, .int .u64 c1]) ∧ Below W.heap.size W w')
theorem tlc {a0 a1 a2 a3 b0 b1 b2 b3 m k0 : Int} {s t : Sp} {n : Nat} (hs : Ws a0 a1 a2 a3 s) (ht : Ws b0 b1 b2 b3 t) (hn : Wn m k0 n) (A : Option Addr) (cap : Nat) (l : List Sp) (w : World) (h : SL w A cap l) (hl : l.length ≤ 30) :
    ∃ (TL : List Sp) (h0 h1 h2 h3 h4 h5 h6 h7 k1 v0 v1 v2 v3 v4 v5 v6 v7 k2 e0 e1 c0 c1 : Int) (r1 r2 r3 ap : Bool), TlC a0 a1 a2 a3 b0 b1 b2 b3 m k0 A cap l TL w h0 h1 h2 h3 h4 h5 h6 h7 k1 v0 v1 v2 v3 v4 v5 v6 v7 k2 e0 e1 c0 c1 r1 r2 r3 ap := by
  obtain ⟨h0, h1, h2, h3, h4, h5, h6, h7, k1, H1, H2⟩ := bothHalves hs
  obtain ⟨v0, v1, v2, v3, v4, v5, v6, v7, k2, T1, T2⟩ := bothTake hs hn
  obtain ⟨N, hNQ⟩ : ∃ N, N + 1 = Q := ⟨340282366920938463463374607431768211455, rfl⟩
  have N1 : ∀ x ∈ l, x.t ≤ N := fun x hx => by have := (h.ok x hx).2; omega
  have N2 : ∀ x ∈ l, x.f ≤ N := fun x hx => by have := (h.ok x hx).1; omega
  have hNlt : N < Q := by omega
  have tl := tw_len l (cntL l)
  exact ⟨tw (cntL l) l, h0, h1, h2, h3, h4, h5, h6, h7, k1, v0, v1, v2, v3, v4, v5, v6, v7, k2, _, _, _, _, _, _, _, _, {
    halves := H1
    rhalves := H2
    take := T1
    rtake := T2
    right := sRight hs
    rright := srRight hs
    len := sLen hs
    rlen := srLen hs
    has := sHas hs hn
    rhas := srHas hs hn
    meet := sMeet hs ht
    rmeet := srMeet hs ht
    short := by omega
    apart := fun W hb => cApart A cap l W (h.below hb) (by omega)
    own := fun W hb => cOwn A cap l W (h.below hb) (by omega)
    rapart := fun W B k hB => rApart B k l W hB
    twice := fun W hb => cTwice A cap l W (h.below hb) (by omega)
    ownT := fun W B k hB => cOwn B k _ W hB (by omega)
    rtwice := fun W B k hB => rTwice B k l W hB (by omega)
    same := fun W B k C j hB hC => by
      have := cSame B C k j _ _ W hB hC (by omega) (by omega)
      rw [decide_eq_true rfl] at this
      exact this
    cover := fun W hb => cCoverN A cap l W (h.below hb) (by omega) N N1 hNlt
    rcover := fun W B k hB => rCover B k l W hB (by omega) N N1 N2 hNlt }⟩
set_option maxHeartbeats 64000000 in
theorem tellsMain (AW : Hid (∀ w, Calls Try.prog 7 #[] w (fun e w' => e = .returned (.bool true) ∧ Below w.heap.size w w'))) (A : Option Addr) (cap : Nat) (l TL : List Sp) (a0 a1 a2 a3 b0 b1 b2 b3 m k0 h0 h1 h2 h3 h4 h5 h6 h7 k1 v0 v1 v2 v3 v4 v5 v6 v7 k2 e0 e1 c0 c1 : Int) (r1 r2 r3 ap : Bool) (w : World) (hcap1 : l.length ≤ cap) (hcap2 : cap ≤ 9223372036854775807) (hl : l.length ≤ 30)
    (C : Hid (TlC a0 a1 a2 a3 b0 b1 b2 b3 m k0 A cap l TL w h0 h1 h2 h3 h4 h5 h6 h7 k1 v0 v1 v2 v3 v4 v5 v6 v7 k2 e0 e1 c0 c1 r1 r2 r3 ap)) :
    Calls Try.prog 3 #[.agg #[.int .u64 a0, .int .u64 a1, .int .u64 a2, .int .u64 a3], .agg #[.int .u64 b0, .int .u64 b1, .int .u64 b2, .int .u64 b3], .agg #[.int .u64 m, .int .u64 k0], .slice A l.length cap] w (AnsB true w) := by
  have hl' : ¬ (30 : Int) < ((l.length : Nat) : Int) := by omega
  have B0 := below_allocs w (.cells #[.int .u64 a0, .int .u64 a1, .int .u64 a2, .int .u64 a3] 26)
  have B1 := below_allocs (w.alloc (.cells #[.int .u64 a0, .int .u64 a1, .int .u64 a2, .int .u64 a3] 26)) (.cells #[.int .u64 b0, .int .u64 b1, .int .u64 b2, .int .u64 b3] 26)
  have B2 := below_allocs ((w.alloc (.cells #[.int .u64 a0, .int .u64 a1, .int .u64 a2, .int .u64 a3] 26)).alloc (.cells #[.int .u64 b0, .int .u64 b1, .int .u64 b2, .int .u64 b3] 26)) (.cells #[.int .u64 m, .int .u64 k0] 24)
  have KS := Lib.hid (((SB.new w a0 a1 a2 a3 26).below B1).below B2)
  have KT := Lib.hid ((SB.new (w.alloc (.cells #[.int .u64 a0, .int .u64 a1, .int .u64 a2, .int .u64 a3] 26)) b0 b1 b2 b3 26).below B2)
  have KN := Lib.hid (UB.new ((w.alloc (.cells #[.int .u64 a0, .int .u64 a1, .int .u64 a2, .int .u64 a3] 26)).alloc (.cells #[.int .u64 b0, .int .u64 b1, .int .u64 b2, .int .u64 b3] 26)) m k0 24)
  have HB := Lib.hid (below_then (below_then B0 B1) B2)
  simp only [World.size_alloc] at KS KT KN HB
  clear B0 B1 B2
  go_enter Try.func3, Try.ntmps3
  go_upto_region 1 with fail
  generalize World.alloc (World.alloc (World.alloc w _) _) _ = V0 at KS KT KN HB ⊢
  generalize w.heap.size + 1 + 1 = x2 at KN ⊢
  generalize w.heap.size + 1 = x1 at KT ⊢
  obtain ⟨x0, hx0⟩ : ∃ x0, w.heap.size = x0 := ⟨_, rfl⟩
  rw [hx0] at KS ⊢
  clear hx0
  go_wp2_with fail
  refine (AW.out _).mono ?_
  rintro er V1 ⟨rfl, hb⟩
  replace KS := Lib.hid (KS.out.below hb)
  replace KT := Lib.hid (KT.out.below hb)
  replace KN := Lib.hid (KN.out.below hb)
  replace HB := Lib.hid (below_then HB.out hb)
  clear hb
  obtain ⟨s0, s1, s2, s3⟩ := KS.out.cells
  go_wp2_with fail
  refine (C.out.halves _).mono ?_
  rintro er V2 ⟨rfl, hb⟩
  clear s0 s1 s2 s3
  replace KS := Lib.hid (KS.out.below hb)
  replace KT := Lib.hid (KT.out.below hb)
  replace KN := Lib.hid (KN.out.below hb)
  replace HB := Lib.hid (below_then HB.out hb)
  clear hb
  go_upto_region 6 with fail
  have L1 := below_allocs V2 (.cells #[.int .u64 h0, .int .u64 h1, .int .u64 h2, .int .u64 h3] 26)
  have L2 := below_allocs (V2.alloc (.cells #[.int .u64 h0, .int .u64 h1, .int .u64 h2, .int .u64 h3] 26)) (.cells #[.int .u64 h4, .int .u64 h5, .int .u64 h6, .int .u64 h7] 26)
  replace KS := Lib.hid ((KS.out.below L1).below L2)
  replace KT := Lib.hid ((KT.out.below L1).below L2)
  replace KN := Lib.hid ((KN.out.below L1).below L2)
  have K9 := Lib.hid ((SB.new V2 h0 h1 h2 h3 26).below L2)
  have K10 := Lib.hid (SB.new (V2.alloc (.cells #[.int .u64 h0, .int .u64 h1, .int .u64 h2, .int .u64 h3] 26)) h4 h5 h6 h7 26)
  simp only [World.size_alloc] at K10
  replace HB := Lib.hid (below_then (below_then HB.out L1) L2)
  clear L1 L2
  generalize (V2.alloc _).alloc _ = V3 at KS KT KN K9 K10 HB ⊢
  generalize V2.heap.size + 1 = yK10 at K10 ⊢
  generalize V2.heap.size = yK9 at K9 ⊢
  obtain ⟨s0, s1, s2, s3⟩ := KS.out.cells
  go_wp2_with fail
  refine (cOne a0 a1 a2 a3 _).mono ?_
  rintro er V4 ⟨rfl, hb⟩
  clear s0 s1 s2 s3
  replace KS := Lib.hid (KS.out.below hb)
  replace KT := Lib.hid (KT.out.below hb)
  replace KN := Lib.hid (KN.out.below hb)
  replace K9 := Lib.hid (K9.out.below hb)
  replace K10 := Lib.hid (K10.out.below hb)
  replace HB := Lib.hid (below_then HB.out hb)
  clear hb
  go_wp2_with fail
  refine (C.out.rhalves _).mono ?_
  rintro er V5 ⟨rfl, hb⟩
  replace KS := Lib.hid (KS.out.below hb)
  replace KT := Lib.hid (KT.out.below hb)
  replace KN := Lib.hid (KN.out.below hb)
  replace K9 := Lib.hid (K9.out.below hb)
  replace K10 := Lib.hid (K10.out.below hb)
  replace HB := Lib.hid (below_then HB.out hb)
  clear hb
  go_upto_region 7 with fail
  have L1 := below_allocs V5 (.cells #[.int .u64 h0, .int .u64 h1, .int .u64 h2, .int .u64 h3] 34)
  have L2 := below_allocs (V5.alloc (.cells #[.int .u64 h0, .int .u64 h1, .int .u64 h2, .int .u64 h3] 34)) (.cells #[.int .u64 h4, .int .u64 h5, .int .u64 h6, .int .u64 h7] 34)
  replace KS := Lib.hid ((KS.out.below L1).below L2)
  replace KT := Lib.hid ((KT.out.below L1).below L2)
  replace KN := Lib.hid ((KN.out.below L1).below L2)
  replace K9 := Lib.hid ((K9.out.below L1).below L2)
  replace K10 := Lib.hid ((K10.out.below L1).below L2)
  have K12 := Lib.hid ((SB.new V5 h0 h1 h2 h3 34).below L2)
  have K13 := Lib.hid (SB.new (V5.alloc (.cells #[.int .u64 h0, .int .u64 h1, .int .u64 h2, .int .u64 h3] 34)) h4 h5 h6 h7 34)
  simp only [World.size_alloc] at K13
  replace HB := Lib.hid (below_then (below_then HB.out L1) L2)
  clear L1 L2
  generalize (V5.alloc _).alloc _ = V6 at KS KT KN K9 K10 K12 K13 HB ⊢
  generalize V5.heap.size + 1 = yK13 at K13 ⊢
  generalize V5.heap.size = yK12 at K12 ⊢
  obtain ⟨s0, s1, s2, s3⟩ := KS.out.cells
  obtain ⟨n0, n1⟩ := KN.out.cells
  go_wp2_with fail
  refine (C.out.take _).mono ?_
  rintro er V7 ⟨rfl, hb⟩
  clear s0 s1 s2 s3 n0 n1
  replace KS := Lib.hid (KS.out.below hb)
  replace KT := Lib.hid (KT.out.below hb)
  replace KN := Lib.hid (KN.out.below hb)
  replace K9 := Lib.hid (K9.out.below hb)
  replace K10 := Lib.hid (K10.out.below hb)
  replace K12 := Lib.hid (K12.out.below hb)
  replace K13 := Lib.hid (K13.out.below hb)
  replace HB := Lib.hid (below_then HB.out hb)
  clear hb
  go_upto_region 8 with fail
  have L1 := below_allocs V7 (.cells #[.int .u64 v0, .int .u64 v1, .int .u64 v2, .int .u64 v3] 26)
  have L2 := below_allocs (V7.alloc (.cells #[.int .u64 v0, .int .u64 v1, .int .u64 v2, .int .u64 v3] 26)) (.cells #[.int .u64 v4, .int .u64 v5, .int .u64 v6, .int .u64 v7] 26)
  replace KS := Lib.hid ((KS.out.below L1).below L2)
  replace KT := Lib.hid ((KT.out.below L1).below L2)
  replace KN := Lib.hid ((KN.out.below L1).below L2)
  replace K9 := Lib.hid ((K9.out.below L1).below L2)
  replace K10 := Lib.hid ((K10.out.below L1).below L2)
  replace K12 := Lib.hid ((K12.out.below L1).below L2)
  replace K13 := Lib.hid ((K13.out.below L1).below L2)
  have K15 := Lib.hid ((SB.new V7 v0 v1 v2 v3 26).below L2)
  have K16 := Lib.hid (SB.new (V7.alloc (.cells #[.int .u64 v0, .int .u64 v1, .int .u64 v2, .int .u64 v3] 26)) v4 v5 v6 v7 26)
  simp only [World.size_alloc] at K16
  replace HB := Lib.hid (below_then (below_then HB.out L1) L2)
  clear L1 L2
  generalize (V7.alloc _).alloc _ = V8 at KS KT KN K9 K10 K12 K13 K15 K16 HB ⊢
  generalize V7.heap.size + 1 = yK16 at K16 ⊢
  generalize V7.heap.size = yK15 at K15 ⊢
  go_cut [18, 19, 20] (fun p q e wr => T8.Cut2 V8 v0 v1 v2 v3 v4 v5 v6 v7 p q wr ∧ e = .int .i64 k2)
  case first =>
    have hX : Below V8.heap.size V8 V8 := Below.refl _ _
    obtain ⟨f1, f2, f3, f4⟩ := KS.out.cells
    obtain ⟨f5, f6⟩ := KN.out.cells
    have l1 : x0 < V8.heap.size := KS.out.lt
    have l2 : x2 < V8.heap.size := KN.out.lt
    go_region_held3 (fun w' => w'.cell? ⟨x0, 0, none⟩ = some (.int .u64 a0) ∧ w'.cell? ⟨x0, 1, none⟩ = some (.int .u64 a1) ∧ w'.cell? ⟨x0, 2, none⟩ = some (.int .u64 a2) ∧ w'.cell? ⟨x0, 3, none⟩ = some (.int .u64 a3) ∧ w'.cell? ⟨x2, 0, none⟩ = some (.int .u64 m) ∧ w'.cell? ⟨x2, 1, none⟩ = some (.int .u64 k0)) (go_keep) (first
      | (go_at_call 10; (with_reducible refine (cOne a0 a1 a2 a3 _).mono ?_); rintro e x1w ⟨rfl, hb⟩; (first | (have zz := T8.zb_early2 (w := World.drew V8) hb; have za : T8.ZB x1w V8.heap.size := zz.1; have zb : T8.ZB x1w (V8.heap.size + 1) := zz.2; clear zz; obtain ⟨za0, za1, za2, za3⟩ := (T8.B4.cells za); obtain ⟨za4, za5, za6, za7⟩ := (T8.B4.free za); have za8 := (T8.B4.lt za); obtain ⟨zb0, zb1, zb2, zb3⟩ := (T8.B4.cells zb); obtain ⟨zb4, zb5, zb6, zb7⟩ := (T8.B4.free zb); have zb8 := (T8.B4.lt zb)) | (have za : T8.ZB x1w V8.heap.size := T8.zb_early (w := World.drew V8) hb; obtain ⟨za0, za1, za2, za3⟩ := (T8.B4.cells za); obtain ⟨za4, za5, za6, za7⟩ := (T8.B4.free za); have za8 := (T8.B4.lt za)) | skip); replace hX := below_then (show Below V8.heap.size V8 _ by first | exact hX | exact hX.drew | exact hX.alloc hX.size _ | exact hX.drew.alloc hX.drew.size _ | exact (hX.alloc hX.size _).alloc (hX.alloc hX.size _).size _ | exact (hX.drew.alloc hX.drew.size _).alloc (hX.drew.alloc hX.drew.size _).size _) hb; clear hb; have sx1 : V8.heap.size ≤ x1w.heap.size := hX.size; have da1 : x0 ≠ V8.heap.size := Nat.ne_of_lt l1; have da21 : V8.heap.size ≠ x0 := Nat.ne_of_gt l1; have da2 : x0 ≠ V8.heap.size + 1 := Nat.ne_of_lt (Nat.lt_succ_of_lt l1); have da22 : V8.heap.size + 1 ≠ x0 := Nat.ne_of_gt (Nat.lt_succ_of_lt l1); have da3 : x2 ≠ V8.heap.size := Nat.ne_of_lt l2; have da23 : V8.heap.size ≠ x2 := Nat.ne_of_gt l2; have da4 : x2 ≠ V8.heap.size + 1 := Nat.ne_of_lt (Nat.lt_succ_of_lt l2); have da24 : V8.heap.size + 1 ≠ x2 := Nat.ne_of_gt (Nat.lt_succ_of_lt l2); clear f1 f2 f3 f4 f5 f6 l1 l2; obtain ⟨f1, f2, f3, f4⟩ := (KS.out.below hX).cells; obtain ⟨f5, f6⟩ := (KN.out.below hX).cells; have l1 : x0 < x1w.heap.size := (KS.out.below hX).lt; have l2 : x2 < x1w.heap.size := (KN.out.below hX).lt)
      | (go_at_call 12; (with_reducible refine (C.out.rtake _).mono ?_); rintro e x2w ⟨rfl, hb⟩; (first | (have zz := T8.zb_early2 (w := x1w) hb; have zc : T8.ZB x2w x1w.heap.size := zz.1; have zd : T8.ZB x2w (x1w.heap.size + 1) := zz.2; clear zz; obtain ⟨zc0, zc1, zc2, zc3⟩ := (T8.B4.cells zc); obtain ⟨zc4, zc5, zc6, zc7⟩ := (T8.B4.free zc); have zc8 := (T8.B4.lt zc); obtain ⟨zd0, zd1, zd2, zd3⟩ := (T8.B4.cells zd); obtain ⟨zd4, zd5, zd6, zd7⟩ := (T8.B4.free zd); have zd8 := (T8.B4.lt zd)) | (have zc : T8.ZB x2w x1w.heap.size := T8.zb_early (w := x1w) hb; obtain ⟨zc0, zc1, zc2, zc3⟩ := (T8.B4.cells zc); obtain ⟨zc4, zc5, zc6, zc7⟩ := (T8.B4.free zc); have zc8 := (T8.B4.lt zc)) | skip); (first | (replace za := T8.B4.below za (below_then (by first | exact Below.refl _ _ | exact below_allocs _ _) hb); obtain ⟨ya0, ya1, ya2, ya3⟩ := (T8.B4.cells za); obtain ⟨ya4, ya5, ya6, ya7⟩ := (T8.B4.free za); have ya8 := (T8.B4.lt za)) | skip); (first | (replace zb := T8.B4.below zb (below_then (by first | exact Below.refl _ _ | exact below_allocs _ _) hb); obtain ⟨yb0, yb1, yb2, yb3⟩ := (T8.B4.cells zb); obtain ⟨yb4, yb5, yb6, yb7⟩ := (T8.B4.free zb); have yb8 := (T8.B4.lt zb)) | skip); replace hX := below_then (show Below V8.heap.size V8 _ by first | exact hX | exact hX.drew | exact hX.alloc hX.size _ | exact hX.drew.alloc hX.drew.size _ | exact (hX.alloc hX.size _).alloc (hX.alloc hX.size _).size _ | exact (hX.drew.alloc hX.drew.size _).alloc (hX.drew.alloc hX.drew.size _).size _) hb; clear hb; have db1 : x0 ≠ x1w.heap.size := Nat.ne_of_lt l1; have db21 : x1w.heap.size ≠ x0 := Nat.ne_of_gt l1; have db2 : x0 ≠ x1w.heap.size + 1 := Nat.ne_of_lt (Nat.lt_succ_of_lt l1); have db22 : x1w.heap.size + 1 ≠ x0 := Nat.ne_of_gt (Nat.lt_succ_of_lt l1); have db3 : x2 ≠ x1w.heap.size := Nat.ne_of_lt l2; have db23 : x1w.heap.size ≠ x2 := Nat.ne_of_gt l2; have db4 : x2 ≠ x1w.heap.size + 1 := Nat.ne_of_lt (Nat.lt_succ_of_lt l2); have db24 : x1w.heap.size + 1 ≠ x2 := Nat.ne_of_gt (Nat.lt_succ_of_lt l2); clear f1 f2 f3 f4 f5 f6 l1 l2; obtain ⟨f1, f2, f3, f4⟩ := (KS.out.below hX).cells; obtain ⟨f5, f6⟩ := (KN.out.below hX).cells; have l1 : x0 < x2w.heap.size := (KS.out.below hX).lt; have l2 : x2 < x2w.heap.size := (KN.out.below hX).lt; have dc1 : x0 ≠ x2w.heap.size := Nat.ne_of_lt l1; have dc21 : x2w.heap.size ≠ x0 := Nat.ne_of_gt l1; have dc2 : x0 ≠ x2w.heap.size + 1 := Nat.ne_of_lt (Nat.lt_succ_of_lt l1); have dc22 : x2w.heap.size + 1 ≠ x0 := Nat.ne_of_gt (Nat.lt_succ_of_lt l1); have dc3 : x2 ≠ x2w.heap.size := Nat.ne_of_lt l2; have dc23 : x2w.heap.size ≠ x2 := Nat.ne_of_gt l2; have dc4 : x2 ≠ x2w.heap.size + 1 := Nat.ne_of_lt (Nat.lt_succ_of_lt l2); have dc24 : x2w.heap.size + 1 ≠ x2 := Nat.ne_of_gt (Nat.lt_succ_of_lt l2)))
    all_goals
      go_wp2_with fail
      go_meet
      first
        | with_reducible exact ⟨T8.Cut2.e1 hX, rfl⟩
        | with_reducible exact ⟨T8.Cut2.e2 hX, rfl⟩
        | with_reducible exact ⟨T8.Cut2.e3 hX za (Nat.le_refl _), rfl⟩
        | with_reducible exact ⟨T8.Cut2.e4 hX za (Nat.le_refl _), rfl⟩
        | with_reducible exact ⟨T8.Cut2.e3 hX zb (Nat.le_succ _), rfl⟩
        | with_reducible exact ⟨T8.Cut2.e4 hX zb (Nat.le_succ _), rfl⟩
        | with_reducible exact ⟨T8.Cut2.e3 hX zc sx1, rfl⟩
        | with_reducible exact ⟨T8.Cut2.e4 hX zc sx1, rfl⟩
        | with_reducible exact ⟨T8.Cut2.e3 hX zd (Nat.le_succ_of_le sx1), rfl⟩
        | with_reducible exact ⟨T8.Cut2.e4 hX zd (Nat.le_succ_of_le sx1), rfl⟩
        | exact ⟨T8.Cut2.e5 hX za zb (Nat.le_refl _) (Nat.le_succ _) (by omega), rfl⟩
        | exact ⟨T8.Cut2.e5 hX za zc (Nat.le_refl _) sx1 (by omega), rfl⟩
        | exact ⟨T8.Cut2.e5 hX za zd (Nat.le_refl _) (Nat.le_succ_of_le sx1) (by omega), rfl⟩
        | exact ⟨T8.Cut2.e5 hX zb za (Nat.le_succ _) (Nat.le_refl _) (by omega), rfl⟩
        | exact ⟨T8.Cut2.e5 hX zb zc (Nat.le_succ _) sx1 (by omega), rfl⟩
        | exact ⟨T8.Cut2.e5 hX zb zd (Nat.le_succ _) (Nat.le_succ_of_le sx1) (by omega), rfl⟩
        | exact ⟨T8.Cut2.e5 hX zc za sx1 (Nat.le_refl _) (by omega), rfl⟩
        | exact ⟨T8.Cut2.e5 hX zc zb sx1 (Nat.le_succ _) (by omega), rfl⟩
        | exact ⟨T8.Cut2.e5 hX zc zd sx1 (Nat.le_succ_of_le sx1) (by omega), rfl⟩
        | exact ⟨T8.Cut2.e5 hX zd za (Nat.le_succ_of_le sx1) (Nat.le_refl _) (by omega), rfl⟩
        | exact ⟨T8.Cut2.e5 hX zd zb (Nat.le_succ_of_le sx1) (Nat.le_succ _) (by omega), rfl⟩
        | exact ⟨T8.Cut2.e5 hX zd zc (Nat.le_succ_of_le sx1) sx1 (by omega), rfl⟩
  obtain ⟨⟨y18, y19, rfl, rfl, FA, FB, hX⟩, rfl⟩ := hcut
  obtain ⟨V8, h8⟩ : ∃ x : World, x = wc := ⟨_, rfl⟩
  subst h8
  replace KS := Lib.hid (KS.out.below hX)
  replace KT := Lib.hid (KT.out.below hX)
  replace KN := Lib.hid (KN.out.below hX)
  replace K9 := Lib.hid (K9.out.below hX)
  replace K10 := Lib.hid (K10.out.below hX)
  replace K12 := Lib.hid (K12.out.below hX)
  replace K13 := Lib.hid (K13.out.below hX)
  replace K15 := Lib.hid (K15.out.below hX)
  replace K16 := Lib.hid (K16.out.below hX)
  replace HB := Lib.hid (below_then HB.out hX)
  have K18 : Hid (SB 34 V8 y18 v0 v1 v2 v3) := Lib.hid FA
  have K19 : Hid (SB 34 V8 y19 v4 v5 v6 v7) := Lib.hid FB
  clear FA FB hX
  go_upto_region 9 with fail
  go_cut [85] (fun u wr => u = .bool false ∧ Below V8.heap.size V8 wr)
  case first =>
    have E1 := eqRS_same h0 h1 h2 h3
    have E2 := eqRS_same h4 h5 h6 h7
    have E3 := eqRS_same v0 v1 v2 v3
    have E4 := eqRS_same v4 v5 v6 v7
    clear KS KT KN AW C HB
    refine wp_region_class (fun w' => Below V8.heap.size V8 w') (by kernel_rfl) (by kernel_rfl) (Below.refl _ _).drew ?_
    iterate 32
      (refine WQ.yes ?_ (by kernel_rfl) (fun w' hC => ?_) ?_
       rotate_left
       · (obtain ⟨pK90, pK91, pK92, pK93⟩ := (K9.out.below hC).cells
          obtain ⟨pK100, pK101, pK102, pK103⟩ := (K10.out.below hC).cells
          obtain ⟨pK120, pK121, pK122, pK123⟩ := (K12.out.below hC).cells
          obtain ⟨pK130, pK131, pK132, pK133⟩ := (K13.out.below hC).cells
          obtain ⟨pK150, pK151, pK152, pK153⟩ := (K15.out.below hC).cells
          obtain ⟨pK160, pK161, pK162, pK163⟩ := (K16.out.below hC).cells
          obtain ⟨pK180, pK181, pK182, pK183⟩ := (K18.out.below hC).cells
          obtain ⟨pK190, pK191, pK192, pK193⟩ := (K19.out.below hC).cells
          go_simp
          first | done | with_reducible rfl | exact ⟨rfl, rfl⟩ | (go_at_call 10; (with_reducible exact quietA4 (cOne _ _ _ _ _) hC)))
       (try simp only [Act.put, List.setIfInBounds_toArray, List.set_cons_zero, List.set_cons_succ]))
    refine WQ.nil ?_
    intro wz hX
    go_wp2_with fail
    go_meet
    exact ⟨rfl, hX⟩
  obtain ⟨rfl, hX⟩ := hcut
  obtain ⟨V9, h9⟩ : ∃ x : World, x = wc := ⟨_, rfl⟩
  subst h9
  clear K9 K10 K12 K13 K15 K16 K18 K19
  replace KS := Lib.hid (KS.out.below hX)
  replace KT := Lib.hid (KT.out.below hX)
  replace KN := Lib.hid (KN.out.below hX)
  replace HB := Lib.hid (below_then HB.out hX)
  clear hX AW
  as_aux_lemma =>
    go_upto_region 11 with fail
    try dsimp only [List.append]
    have E1 := eqRU_same e0 e1
    have E2 := eqRU_same c0 c1
    have hX : Below V9.heap.size V9 V9 := Below.refl _ _
    obtain ⟨s0, s1, s2, s3⟩ := KS.out.cells
    obtain ⟨t0, t1, t2, t3⟩ := KT.out.cells
    obtain ⟨n0, n1⟩ := KN.out.cells
    go_region_held3 (fun w' => w'.cell? ⟨x0, 0, none⟩ = some (.int .u64 a0) ∧ w'.cell? ⟨x0, 1, none⟩ = some (.int .u64 a1) ∧ w'.cell? ⟨x0, 2, none⟩ = some (.int .u64 a2) ∧ w'.cell? ⟨x0, 3, none⟩ = some (.int .u64 a3) ∧ w'.cell? ⟨x1, 0, none⟩ = some (.int .u64 b0) ∧ w'.cell? ⟨x1, 1, none⟩ = some (.int .u64 b1) ∧ w'.cell? ⟨x1, 2, none⟩ = some (.int .u64 b2) ∧ w'.cell? ⟨x1, 3, none⟩ = some (.int .u64 b3) ∧ w'.cell? ⟨x2, 0, none⟩ = some (.int .u64 m) ∧ w'.cell? ⟨x2, 1, none⟩ = some (.int .u64 k0)) (go_keep) (first
      | (go_at_call 13; (with_reducible refine (C.out.right _).mono ?_); rintro e z ⟨rfl, hb⟩; clear s0 s1 s2 s3 t0 t1 t2 t3 n0 n1; (try replace LT := Lib.hid (LT.out.below hb)); replace hX := below_then (show Below V9.heap.size V9 _ by first | exact hX | exact hX.drew) hb; clear hb; obtain ⟨s0, s1, s2, s3⟩ := (KS.out.below hX).cells; obtain ⟨t0, t1, t2, t3⟩ := (KT.out.below hX).cells; obtain ⟨n0, n1⟩ := (KN.out.below hX).cells)
      | (go_at_call 14; (with_reducible refine (C.out.rright _).mono ?_); rintro e z ⟨rfl, hb⟩; clear s0 s1 s2 s3 t0 t1 t2 t3 n0 n1; (try replace LT := Lib.hid (LT.out.below hb)); replace hX := below_then (show Below V9.heap.size V9 _ by first | exact hX | exact hX.drew) hb; clear hb; obtain ⟨s0, s1, s2, s3⟩ := (KS.out.below hX).cells; obtain ⟨t0, t1, t2, t3⟩ := (KT.out.below hX).cells; obtain ⟨n0, n1⟩ := (KN.out.below hX).cells)
      | (go_at_call 15; (with_reducible refine (C.out.len _).mono ?_); rintro e z ⟨rfl, hb⟩; clear s0 s1 s2 s3 t0 t1 t2 t3 n0 n1; (try replace LT := Lib.hid (LT.out.below hb)); replace hX := below_then (show Below V9.heap.size V9 _ by first | exact hX | exact hX.drew) hb; clear hb; obtain ⟨s0, s1, s2, s3⟩ := (KS.out.below hX).cells; obtain ⟨t0, t1, t2, t3⟩ := (KT.out.below hX).cells; obtain ⟨n0, n1⟩ := (KN.out.below hX).cells)
      | (go_at_call 16; (with_reducible refine (C.out.rlen _).mono ?_); rintro e z ⟨rfl, hb⟩; clear s0 s1 s2 s3 t0 t1 t2 t3 n0 n1; (try replace LT := Lib.hid (LT.out.below hb)); replace hX := below_then (show Below V9.heap.size V9 _ by first | exact hX | exact hX.drew) hb; clear hb; obtain ⟨s0, s1, s2, s3⟩ := (KS.out.below hX).cells; obtain ⟨t0, t1, t2, t3⟩ := (KT.out.below hX).cells; obtain ⟨n0, n1⟩ := (KN.out.below hX).cells)
      | (go_at_call 17; (with_reducible refine (C.out.has _).mono ?_); rintro e z ⟨rfl, hb⟩; clear s0 s1 s2 s3 t0 t1 t2 t3 n0 n1; (try replace LT := Lib.hid (LT.out.below hb)); replace hX := below_then (show Below V9.heap.size V9 _ by first | exact hX | exact hX.drew) hb; clear hb; obtain ⟨s0, s1, s2, s3⟩ := (KS.out.below hX).cells; obtain ⟨t0, t1, t2, t3⟩ := (KT.out.below hX).cells; obtain ⟨n0, n1⟩ := (KN.out.below hX).cells)
      | (go_at_call 18; (with_reducible refine (C.out.rhas _).mono ?_); rintro e z ⟨rfl, hb⟩; clear s0 s1 s2 s3 t0 t1 t2 t3 n0 n1; (try replace LT := Lib.hid (LT.out.below hb)); replace hX := below_then (show Below V9.heap.size V9 _ by first | exact hX | exact hX.drew) hb; clear hb; obtain ⟨s0, s1, s2, s3⟩ := (KS.out.below hX).cells; obtain ⟨t0, t1, t2, t3⟩ := (KT.out.below hX).cells; obtain ⟨n0, n1⟩ := (KN.out.below hX).cells)
      | (go_at_call 19; (with_reducible refine (C.out.meet _).mono ?_); rintro e z ⟨rfl, hb⟩; clear s0 s1 s2 s3 t0 t1 t2 t3 n0 n1; (try replace LT := Lib.hid (LT.out.below hb)); replace hX := below_then (show Below V9.heap.size V9 _ by first | exact hX | exact hX.drew) hb; clear hb; obtain ⟨s0, s1, s2, s3⟩ := (KS.out.below hX).cells; obtain ⟨t0, t1, t2, t3⟩ := (KT.out.below hX).cells; obtain ⟨n0, n1⟩ := (KN.out.below hX).cells)
      | (go_at_call 20; (with_reducible refine (C.out.rmeet _).mono ?_); rintro e z ⟨rfl, hb⟩; clear s0 s1 s2 s3 t0 t1 t2 t3 n0 n1; (try replace LT := Lib.hid (LT.out.below hb)); replace hX := below_then (show Below V9.heap.size V9 _ by first | exact hX | exact hX.drew) hb; clear hb; obtain ⟨s0, s1, s2, s3⟩ := (KS.out.below hX).cells; obtain ⟨t0, t1, t2, t3⟩ := (KT.out.below hX).cells; obtain ⟨n0, n1⟩ := (KN.out.below hX).cells)
      | (go_at_call 10; (with_reducible refine (cOne _ _ _ _ _).mono ?_); rintro e z ⟨rfl, hb⟩; clear s0 s1 s2 s3 t0 t1 t2 t3 n0 n1; (try replace LT := Lib.hid (LT.out.below hb)); replace hX := below_then (show Below V9.heap.size V9 _ by first | exact hX | exact hX.drew) hb; clear hb; obtain ⟨s0, s1, s2, s3⟩ := (KS.out.below hX).cells; obtain ⟨t0, t1, t2, t3⟩ := (KT.out.below hX).cells; obtain ⟨n0, n1⟩ := (KN.out.below hX).cells)
      | (go_at_call 21; (with_reducible refine (C.out.apart _ (below_then HB.out (by first | exact hX | exact hX.drew))).mono ?_); rintro e z ⟨rfl, hb⟩; clear s0 s1 s2 s3 t0 t1 t2 t3 n0 n1; (try replace LT := Lib.hid (LT.out.below hb)); replace hX := below_then (show Below V9.heap.size V9 _ by first | exact hX | exact hX.drew) hb; clear hb; obtain ⟨s0, s1, s2, s3⟩ := (KS.out.below hX).cells; obtain ⟨t0, t1, t2, t3⟩ := (KT.out.below hX).cells; obtain ⟨n0, n1⟩ := (KN.out.below hX).cells)
      | (go_at_call 23; (with_reducible refine (C.out.own _ (below_then HB.out (by first | exact hX | exact hX.drew))).mono ?_); rintro e z ⟨LOA, LOk, rfl, hs', hb⟩; clear s0 s1 s2 s3 t0 t1 t2 t3 n0 n1; (try replace LT := Lib.hid (LT.out.below hb)); (try clear LO); have LO := Lib.hid hs'; clear hs'; replace hX := below_then (show Below V9.heap.size V9 _ by first | exact hX | exact hX.drew) hb; clear hb; obtain ⟨s0, s1, s2, s3⟩ := (KS.out.below hX).cells; obtain ⟨t0, t1, t2, t3⟩ := (KT.out.below hX).cells; obtain ⟨n0, n1⟩ := (KN.out.below hX).cells)
      | (go_at_call 22; (with_reducible refine (C.out.rapart _ _ _ LO.out).mono ?_); rintro e z ⟨rfl, hb⟩; clear s0 s1 s2 s3 t0 t1 t2 t3 n0 n1; (try replace LT := Lib.hid (LT.out.below hb)); replace hX := below_then (show Below V9.heap.size V9 _ by first | exact hX | exact hX.drew) hb; clear hb; obtain ⟨s0, s1, s2, s3⟩ := (KS.out.below hX).cells; obtain ⟨t0, t1, t2, t3⟩ := (KT.out.below hX).cells; obtain ⟨n0, n1⟩ := (KN.out.below hX).cells)
      | (go_at_call 25; (with_reducible refine (C.out.twice _ (below_then HB.out (by first | exact hX | exact hX.drew))).mono ?_); rintro e z ⟨L2A, L2k, rfl, hs', hb⟩; clear s0 s1 s2 s3 t0 t1 t2 t3 n0 n1; (try replace LT := Lib.hid (LT.out.below hb)); (try clear L2); have L2 := Lib.hid hs'; clear hs'; replace hX := below_then (show Below V9.heap.size V9 _ by first | exact hX | exact hX.drew) hb; clear hb; obtain ⟨s0, s1, s2, s3⟩ := (KS.out.below hX).cells; obtain ⟨t0, t1, t2, t3⟩ := (KT.out.below hX).cells; obtain ⟨n0, n1⟩ := (KN.out.below hX).cells)
      | (go_at_call 23; (with_reducible refine (C.out.ownT _ _ _ L2.out).mono ?_); rintro e z ⟨LTA, LTk, rfl, hs', hb⟩; clear s0 s1 s2 s3 t0 t1 t2 t3 n0 n1; (try replace LT := Lib.hid (LT.out.below hb)); (try clear LT); have LT := Lib.hid hs'; clear hs'; replace hX := below_then (show Below V9.heap.size V9 _ by first | exact hX | exact hX.drew) hb; clear hb; obtain ⟨s0, s1, s2, s3⟩ := (KS.out.below hX).cells; obtain ⟨t0, t1, t2, t3⟩ := (KT.out.below hX).cells; obtain ⟨n0, n1⟩ := (KN.out.below hX).cells)
      | (go_at_call 26; (with_reducible refine (C.out.rtwice _ _ _ LO.out).mono ?_); rintro e z ⟨LRA, LRk, rfl, hs', hb⟩; clear s0 s1 s2 s3 t0 t1 t2 t3 n0 n1; (try replace LT := Lib.hid (LT.out.below hb)); (try clear LR); have LR := Lib.hid hs'; clear hs'; replace hX := below_then (show Below V9.heap.size V9 _ by first | exact hX | exact hX.drew) hb; clear hb; obtain ⟨s0, s1, s2, s3⟩ := (KS.out.below hX).cells; obtain ⟨t0, t1, t2, t3⟩ := (KT.out.below hX).cells; obtain ⟨n0, n1⟩ := (KN.out.below hX).cells)
      | (go_at_call 24; (with_reducible refine (C.out.same _ _ _ _ _ LT.out LR.out).mono ?_); rintro e z ⟨rfl, hb⟩; clear s0 s1 s2 s3 t0 t1 t2 t3 n0 n1; (try replace LT := Lib.hid (LT.out.below hb)); replace hX := below_then (show Below V9.heap.size V9 _ by first | exact hX | exact hX.drew) hb; clear hb; obtain ⟨s0, s1, s2, s3⟩ := (KS.out.below hX).cells; obtain ⟨t0, t1, t2, t3⟩ := (KT.out.below hX).cells; obtain ⟨n0, n1⟩ := (KN.out.below hX).cells)
      | (go_at_call 27; (with_reducible refine (C.out.cover _ (below_then HB.out (by first | exact hX | exact hX.drew))).mono ?_); rintro e z ⟨rfl, hb⟩; clear s0 s1 s2 s3 t0 t1 t2 t3 n0 n1; (try replace LT := Lib.hid (LT.out.below hb)); replace hX := below_then (show Below V9.heap.size V9 _ by first | exact hX | exact hX.drew) hb; clear hb; obtain ⟨s0, s1, s2, s3⟩ := (KS.out.below hX).cells; obtain ⟨t0, t1, t2, t3⟩ := (KT.out.below hX).cells; obtain ⟨n0, n1⟩ := (KN.out.below hX).cells)
      | (go_at_call 28; (with_reducible refine (C.out.rcover _ _ _ LO.out).mono ?_); rintro e z ⟨rfl, hb⟩; clear s0 s1 s2 s3 t0 t1 t2 t3 n0 n1; (try replace LT := Lib.hid (LT.out.below hb)); replace hX := below_then (show Below V9.heap.size V9 _ by first | exact hX | exact hX.drew) hb; clear hb; obtain ⟨s0, s1, s2, s3⟩ := (KS.out.below hX).cells; obtain ⟨t0, t1, t2, t3⟩ := (KT.out.below hX).cells; obtain ⟨n0, n1⟩ := (KN.out.below hX).cells))
    go_wp2
    go_ret
    exact ⟨rfl, below_then HB.out hX⟩
theorem spanTells (AW : Hid (∀ w, Calls Try.prog 7 #[] w (fun e w' => e = .returned (.bool true) ∧ Below w.heap.size w w'))) {a0 a1 a2 a3 b0 b1 b2 b3 m k0 : Int} {s t : Sp} {n : Nat} (hs : Ws a0 a1 a2 a3 s) (ht : Ws b0 b1 b2 b3 t) (hn : Wn m k0 n) (A : Option Addr) (cap : Nat) (l : List Sp) (w : World) (h : SL w A cap l) :
    Calls Try.prog 3 #[.agg #[.int .u64 a0, .int .u64 a1, .int .u64 a2, .int .u64 a3], .agg #[.int .u64 b0, .int .u64 b1, .int .u64 b2, .int .u64 b3], .agg #[.int .u64 m, .int .u64 k0], .slice A l.length cap] w (fun e w' => e = .returned (.bool true) ∧ Below w.heap.size w w') := by
  by_cases hl : l.length ≤ 30
  · obtain ⟨TL, h0, h1, h2, h3, h4, h5, h6, h7, k1, v0, v1, v2, v3, v4, v5, v6, v7, k2, e0, e1, c0, c1, r1, r2, r3, ap, C⟩ := tlc hs ht hn A cap l w h hl
    exact tellsMain AW A cap l TL _ _ _ _ _ _ _ _ _ _ _ _ _ _ _ _ _ _ _ _ _ _ _ _ _ _ _ _ _ _ _ _ _ _ _ _ w h.cap1 h.cap2 hl (Lib.hid C)
  · have hl' : (30 : Int) < ((l.length : Nat) : Int) := by omega
    have K := Lib.hid (below_then (below_then (below_allocs w (.cells #[.int .u64 a0, .int .u64 a1, .int .u64 a2, .int .u64 a3] 26)) (below_allocs _ (.cells #[.int .u64 b0, .int .u64 b1, .int .u64 b2, .int .u64 b3] 26))) (below_allocs _ (.cells #[.int .u64 m, .int .u64 k0] 24)))
    clear hs ht hn h
    go_enter Try.func3, Try.ntmps3
    go_upto_region 1 with fail
    generalize World.alloc (World.alloc (World.alloc w _) _) _ = V0 at K ⊢
    go_wp2_with fail
    refine (AW.out _).mono ?_
    rintro er V1 ⟨rfl, hb⟩
    have HB := Lib.hid (below_then K.out hb)
    clear hb K
    go_wp2_with fail
    go_ret
    exact ⟨rfl, HB.out⟩
end Go.Proofs.Ytolicfackceomaa
