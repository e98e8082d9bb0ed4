/-
  What Cover of package span answers.
-/
import Derived.Test.YtolicfackceomaaSpU
namespace Go.Proofs.Ytolicfackceomaa
open Go.RowKit
set_option linter.unusedVariables false
set_option maxRecDepth 100000

/-- Where Cover's blocks lie. -/
structure CvK (w : World) (x y ab rb : Nat) (A : Option Addr) (cap : Nat) (o : List Sp) (p q r t a0 a1 : Int) (n : Nat) (wr : World) : Prop where
  pf : PF wr x n
  sl : SL wr A cap o
  sb : SB 26 wr y p q r t
  ub : UB 24 wr ab a0 a1
  rb : UB 24 wr rb 0 0
  below : Below w.heap.size w wr
theorem CvK.far {w wr w' : World} {x y ab rb : Nat} {A : Option Addr} {cap : Nat} {o : List Sp} {p q r t a0 a1 : Int} {n : Nat} (h : CvK w x y ab rb A cap o p q r t a0 a1 n wr) (hb : Below wr.heap.size wr w') : CvK w x y ab rb A cap o p q r t a0 a1 n w' :=
  ⟨h.pf.below hb, h.sl.below hb, h.sb.below hb, h.ub.below hb, h.rb.below hb, below_then h.below hb⟩
theorem CvK.drew {w wr : World} {x y ab rb : Nat} {A : Option Addr} {cap : Nat} {o : List Sp} {p q r t a0 a1 : Int} {n : Nat} (h : CvK w x y ab rb A cap o p q r t a0 a1 n wr) : CvK w x y ab rb A cap o p q r t a0 a1 n wr.drew :=
  ⟨h.pf.drew, h.sl.drew, h.sb, h.ub, h.rb, h.below.drew⟩
theorem UB.keep {t : TypeId} {w w' : World} {b x : Nat} {p q : Int} (h : UB t w b p q) (hx : b ≠ x) (hk : ∀ j, j < w.heap.size → j ≠ x → w'.heap[j]? = w.heap[j]?) : UB t w' b p q := (hk b h.lt hx).trans h
theorem CvK.part {w wr w' : World} {x y ab rb : Nat} {A : Option Addr} {cap : Nat} {o : List Sp} {p q r t a0 a1 : Int} {n m : Nat} (h : CvK w x y ab rb A cap o p q r t a0 a1 n wr) (hP : PF w' x m) (hb : ∀ B, B ≤ x → Below B wr w') (hk : ∀ j, j < wr.heap.size → j ≠ x → w'.heap[j]? = wr.heap[j]?)
    (hA : ∀ a, A = some a → a.block ≠ x) (hy : y ≠ x) (ha : ab ≠ x) (hr : rb ≠ x) (hx : w.heap.size ≤ x) : CvK w x y ab rb A cap o p q r t a0 a1 m w' :=
  ⟨hP, h.sl.keep hA (hb 0 (Nat.zero_le _)).size hk, h.sb.keep hy hk, h.ub.keep ha hk, h.rb.keep hr hk, h.below.trans (hb _ hx)⟩
theorem SL.far {w : World} {A : Option Addr} {cap : Nat} {l : List Sp} (h : SL w A cap l) {a : Addr} (hx : ∀ b, A = some b → b.block ≠ a.block) (u : Value) : SL (w.setCell a u) A cap l :=
  h.keep (x := a.block) hx (by simp [World.setCell]) (fun j _ hj => Below.heap_setCell w a u j hj)
theorem CvK.put {w wr : World} {x y ab rb : Nat} {A : Option Addr} {cap : Nat} {o : List Sp} {p q r t a0 a1 b0 b1 : Int} {n : Nat} (h : CvK w x y ab rb A cap o p q r t a0 a1 n wr)
    (hA : ∀ a, A = some a → a.block ≠ ab) (hy : y ≠ ab) (hx : x ≠ ab) (hr : rb ≠ ab) (ha : w.heap.size ≤ ab) : CvK w x y ab rb A cap o p q r t b0 b1 n ((wr.setCell ⟨ab, 0, none⟩ (.int .u64 b0)).setCell ⟨ab, 1, none⟩ (.int .u64 b1)) :=
  ⟨⟨h.pf.lt, h.pf.box.far2 hx _ _⟩, (h.sl.far (a := ⟨ab, 0, none⟩) hA _).far (a := ⟨ab, 1, none⟩) hA _, h.sb.far2 hy _ _, h.ub.put, h.rb.far2 hr _ _, below_put2 h.below ha _ _⟩
theorem covO_cons (e : Nat) (s : Sp) (o : List Sp) : covO e (s :: o) = lenS ⟨max e s.f, s.t⟩ + covO (max e s.t) o := rfl
theorem cov_step {N c T P : Nat} (h : (N + (c + P)) % Q = T % Q) : ((N + c) % Q + P) % Q = T % Q := by
  rw [Nat.mod_add_mod, Nat.add_assoc]; exact h
set_option maxHeartbeats 8000000 in
theorem cCover (A : Option Addr) (cap : Nat) (l : List Sp) (w : World) (h : SL w A cap l) (hn : l.length ≤ 1000) :
    Calls Try.prog 27 #[.slice A l.length cap] w (fun e w' => ∃ o, e = .returned (wv (covO 0 o % Q)) ∧ Srt l o ∧ Below w.heap.size w w') := by
  have RB := UB.new w 0 0 24
  have B0 := below_allocs w (.cells #[.int .u64 0, .int .u64 0] 24)
  have H := Lib.hid (And.intro (h.below B0) (And.intro RB B0))
  clear h RB B0
  go_enter Try.func27, Try.ntmps27
  go_wp2_with fail
  refine (cParts _).mono ?_
  rintro e V1 ⟨x, rfl, hx, F, hb⟩
  have lx := F.box.lt
  have H1 := Lib.hid (And.intro (H.out.1.below hb) (And.intro (H.out.2.1.below hb) (And.intro (below_then H.out.2.2 hb) F)))
  have hwx : w.heap.size ≤ x ∧ w.heap.size ≠ x := by simp at hx; omega
  clear hb H F hx
  go_upto_region 3 with fail
  have B2 := below_allocs V1 (.cells #[.int .u64 0, .int .u64 0] 24)
  have H2 := Lib.hid (And.intro (H1.out.1.below B2) (And.intro (H1.out.2.1.below B2) (And.intro (below_then H1.out.2.2.1 B2) (And.intro (H1.out.2.2.2.below B2) (UB.new V1 0 0 24)))))
  have la := H1.out.2.2.1.size
  have lrb := H1.out.2.1.lt
  clear B2 H1
  have hab : x ≠ V1.heap.size ∧ w.heap.size ≠ V1.heap.size ∧ w.heap.size ≤ V1.heap.size := by omega
  clear la lrb lx
  generalize World.alloc V1 _ = V2 at H2 ⊢
  generalize V1.heap.size = ab at H2 hab ⊢
  have O := Lib.hid (cOrdered A cap l V2 H2.out.1 hn)
  have lab := H2.out.2.2.2.2.lt
  have lx := H2.out.2.2.2.1.box.lt
  go_wp2_with fail
  refine O.out.mono ?_
  rintro e V3 ⟨A', cap', o, rfl, hfar, hs, hsrt, hb⟩
  have HFAR : Hid ((∀ a, A' = some a → a.block ≠ x) ∧ (∀ a, A' = some a → a.block ≠ ab)) := Lib.hid ⟨fun a e => by have := hfar a e; omega, fun a e => by have := hfar a e; omega⟩
  have HO := Lib.hid hsrt
  have K0 := Lib.hid (And.intro hs (And.intro (H2.out.2.1.below hb) (And.intro (below_then H2.out.2.2.1 hb) (And.intro (H2.out.2.2.2.1.below hb) (H2.out.2.2.2.2.below hb)))))
  have hcap1 := hs.cap1
  have hcap2 := hs.cap2
  clear hb H2 O hfar hs hsrt lab lx
  go_wp2_with fail
  go_loopg [12] o.length (fun gk i wr => ∃ (k n N : Nat), k + gk = o.length ∧ i = .int .i64 k ∧ N < Q ∧ Hid ((N + covO n (o.drop k)) % Q = covO 0 o % Q) ∧ Hid (SL wr A' cap' o ∧ UB 24 wr w.heap.size 0 0 ∧ Below w.heap.size w wr ∧ PF wr x n ∧ UB 24 wr ab ((hiW N : Nat) : Int) ((loW N : Nat) : Int)))
  case atStart => exact ⟨0, 0, 0, by omega, rfl, by decide, Lib.hid (by rw [List.drop_zero, Nat.zero_add]), K0⟩
  case round =>
    clear K0
    obtain ⟨k, n, N, hk, rfl, hN, HA, K⟩ := hrel
    by_cases hlt : k < o.length
    · have hlt' : (k : Int) < o.length := by omega
      obtain ⟨b, o', p, q, r, t, rfl, hl, HS, c0, c1, c2, c3⟩ := K.out.1.at4 hlt
      have HA2 := HA.out
      rw [drop_getD o k hlt, covO_cons] at HA2
      have HA3 := Lib.hid (cov_step HA2)
      clear HA2 HA
      generalize o.getD k default = s at HS HA3
      have okp : Ws ((hiW (max n s.f) : Nat) : Int) ((loW (max n s.f) : Nat) : Int) r t ⟨max n s.f, s.t⟩ := ⟨wn_of (Nat.max_lt.2 ⟨K.out.2.2.2.1.lt, HS.out.f.lt⟩), HS.out.t⟩
      have LC := Lib.hid (sLen okp)
      have AC := Lib.hid (fun W => cAdd (wn_of hN) (wn_of (lenS_lt okp.ok)) W)
      have PC : Hid (∀ W, PF W x n → Calls Try.prog 52 #[.agg #[.int .u64 p, .int .u64 q, .int .u64 r, .int .u64 t], .pointer (some ⟨x, 0, none⟩)] W
        (fun e w' => e = .returned (.agg #[.int .u64 ((hiW (max n s.f) : Nat) : Int), .int .u64 ((loW (max n s.f) : Nat) : Int), .int .u64 r, .int .u64 t]) ∧ PF w' x (max n s.t) ∧ (∀ B, B ≤ x → Below B W w') ∧ ∀ j, j < W.heap.size → j ≠ x → w'.heap[j]? = W.heap[j]?)) := Lib.hid fun W hF => by
          have := cPart HS.out x n W hF
          rw [okp.val] at this
          exact this
      clear okp
      have hN2 : (N + lenS ⟨max n s.f, s.t⟩) % Q < Q := Nat.mod_lt _ (by decide)
      unfold AnsWB at AC
      generalize decide (Q ≤ N + lenS ⟨max n s.f, s.t⟩) = oo at AC
      generalize (N + lenS ⟨max n s.f, s.t⟩) % Q = N2 at AC HA3 hN2
      generalize ((hiW (max n s.f) : Nat) : Int) = p' at LC PC
      generalize ((loW (max n s.f) : Nat) : Int) = q' at LC PC
      generalize ((hiW (lenS ⟨max n s.f, s.t⟩) : Nat) : Int) = e0 at LC AC
      generalize ((loW (lenS ⟨max n s.f, s.t⟩) : Nat) : Int) = e1 at LC AC
      have LB := below_allocs wr (.cells #[.int .u64 p, .int .u64 q, .int .u64 r, .int .u64 t] 26)
      have KA : Hid (CvK w x wr.heap.size ab w.heap.size (some ⟨b, o', none⟩) cap' o p q r t ((hiW N : Nat) : Int) ((loW N : Nat) : Int) n (wr.alloc (.cells #[.int .u64 p, .int .u64 q, .int .u64 r, .int .u64 t] 26))) :=
        Lib.hid ⟨K.out.2.2.2.1.below LB, K.out.1.below LB, SB.new wr p q r t _, K.out.2.2.2.2.below LB, K.out.2.1.below LB, below_then K.out.2.2.1 LB⟩
      have nxy : wr.heap.size ≠ x ∧ wr.heap.size ≠ ab := by have := K.out.2.2.2.1.box.lt; have := K.out.2.2.2.2.lt; omega
      clear LB K
      go_upto_region 6 with fail
      clear c0 c1 c2 c3 hl
      generalize ((hiW N : Nat) : Int) = a0 at AC KA
      generalize ((loW N : Nat) : Int) = a1 at AC KA
      obtain ⟨b0, hb0⟩ : ∃ b0, ((hiW N2 : Nat) : Int) = b0 := ⟨_, rfl⟩
      obtain ⟨b1, hb1⟩ : ∃ b1, ((loW N2 : Nat) : Int) = b1 := ⟨_, rfl⟩
      have EB := Lib.hid (And.intro hb0 hb1)
      rw [hb0, hb1] at AC
      clear hb0 hb1
      generalize World.alloc wr _ = W1 at KA ⊢
      generalize wr.heap.size = y at KA nxy ⊢
      obtain ⟨ny, nya⟩ := nxy
      have nxa : x ≠ ab := hab.1
      obtain ⟨s0, s1, s2, s3⟩ := KA.out.sb.cells
      obtain ⟨v0, v1⟩ := KA.out.ub.cells
      go_region_with (first
        | (go_at_call 52; (refine (PC.out _ (by first | exact KA.out.pf | exact KA.out.pf.drew)).mono ?_); rintro e W2 ⟨rfl, hP, hbw, hk⟩; have KB : Hid (CvK w x y ab w.heap.size (some ⟨b, o', none⟩) cap' o p q r t a0 a1 (max n s.t) W2) := Lib.hid (by first | exact KA.out.part hP hbw hk HFAR.out.1 ny (Ne.symm nxa) hwx.2 hwx.1 | exact KA.out.drew.part hP hbw hk HFAR.out.1 ny (Ne.symm nxa) hwx.2 hwx.1); clear hP hbw hk; obtain ⟨w0, w1⟩ := KB.out.ub.cells)
        | (go_at_call 15; (refine (LC.out _).mono ?_); rintro e W3 ⟨rfl, hb3⟩; have KC := Lib.hid (KB.out.far hb3); clear hb3; obtain ⟨i0, i1⟩ := KC.out.ub.cells)
        | (go_at_call 32; (refine (AC.out _).mono ?_); rintro e W4 ⟨rfl, hb4⟩; have KD := Lib.hid (KC.out.far hb4); clear hb4; obtain ⟨j0, j1⟩ := KD.out.ub.cells; obtain ⟨f0, f1⟩ := KD.out.ub.free))
      all_goals have KE := Lib.hid (KD.out.put (b0 := b0) (b1 := b1) HFAR.out.2 nya nxa hab.2.1 hab.2.2)
      all_goals clear KD KC KB KA PC LC AC
      all_goals go_wp2_with fail
      all_goals go_roundg (gk - 1)
      all_goals first
        | omega
        | exact ⟨k + 1, max n s.t, N2, by omega, by go_num, hN2, HA3, Lib.hid ⟨KE.out.sl, KE.out.rb, KE.out.below, KE.out.pf, by rw [EB.out.1, EB.out.2]; exact KE.out.ub⟩⟩
    · obtain rfl : k = o.length := by omega
      have HT : Hid (N = covO 0 o % Q) := Lib.hid (by have := HA.out; rw [List.drop_length] at this; rw [← this]; exact (Nat.mod_eq_of_lt hN).symm)
      clear HA
      obtain ⟨z0, z1⟩ := K.out.2.1.cells
      obtain ⟨f0, f1⟩ := K.out.2.1.free
      obtain ⟨v0, v1⟩ := K.out.2.2.2.2.cells
      have HR := Lib.hid (UB.put (p' := ((hiW N : Nat) : Int)) (q' := ((loW N : Nat) : Int)) K.out.2.1)
      have HB := Lib.hid (below_put2 K.out.2.2.1 (Nat.le_refl w.heap.size) (.int .u64 ((hiW N : Nat) : Int)) (.int .u64 ((loW N : Nat) : Int)))
      clear K
      obtain ⟨a0, ha0⟩ : ∃ a0, ((hiW N : Nat) : Int) = a0 := ⟨_, rfl⟩
      have A0 := Lib.hid ha0
      rw [ha0] at v0 HR HB
      clear ha0
      go_wp2_with fail
      generalize World.setCell (World.setCell wr _ _) _ _ = V5 at HR HB ⊢
      obtain ⟨r1, r2⟩ := HR.out.cells
      try simp only [Exit.inBlock, Exit.then, Exit.noGoto]
      refine bodyPost_ret (by simp [results, Try.results27, go_sem, r1, r2]; try rfl) rfl ?_
      exact ⟨o, by rw [← HT.out, ← A0.out], HO.out, HB.out⟩
end Go.Proofs.Ytolicfackceomaa
