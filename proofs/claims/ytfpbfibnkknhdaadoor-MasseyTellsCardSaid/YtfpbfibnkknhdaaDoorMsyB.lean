/-
  What the calls oddAt and Rule of package massey answer.
-/
import Derived.Test.YtfpbfibnkknhdaaDoorMsyA
import Derived.Test.YtfpbfibnkknhdaaDoorGfdC
namespace Go.Proofs.YtfpbfibnkknhdaaDoor
open Go.RowKit G
set_option linter.unusedVariables false

/-- What the closure of oddAt has caught. -/
structure OddSt (bK bP bL K L0 ca M cl : Nat) (A Al : Option Addr) (w : World) : Prop where
  k : Box w bK 3 (.int .i64 (K : Int))
  p : Box w bP 23 (.slice A L0 ca)
  l : Box w bL 24 (.slice Al M cl)
theorem OddSt.below {bK bP bL K L0 ca M cl : Nat} {A Al : Option Addr} {w w' : World} (h : OddSt bK bP bL K L0 ca M cl A Al w) (hb : Below w.heap.size w w') : OddSt bK bP bL K L0 ca M cl A Al w' :=
  ⟨h.k.below hb, h.p.below hb, h.l.below hb⟩
/-- What oddAt answers: its closure. -/
def OddA (K L0 ca M cl : Nat) (A Al : Option Addr) (w : World) (e : Ending) (w' : World) : Prop :=
  ∃ bK bP bL : Nat, e = .returned (.func (.func 34) #[] #[.pointer (some ⟨bK, 0, none⟩), .pointer (some ⟨bP, 0, none⟩), .pointer (some ⟨bL, 0, none⟩)]) ∧ OddSt bK bP bL K L0 ca M cl A Al w' ∧ w.heap.size ≤ bK ∧ w.heap.size ≤ bP ∧ w.heap.size ≤ bL ∧ Below w.heap.size w w'
theorem oddStart (w : World) (K : Int) (P Q : Value) :
    Box (((w.alloc (.cells #[P] 23)).alloc (.cells #[Q] 24)).alloc (.cells #[.int .i64 K] 3)) (w.heap.size + 1 + 1) 3 (.int .i64 K) ∧
    Box (((w.alloc (.cells #[P] 23)).alloc (.cells #[Q] 24)).alloc (.cells #[.int .i64 K] 3)) w.heap.size 23 P ∧
    Box (((w.alloc (.cells #[P] 23)).alloc (.cells #[Q] 24)).alloc (.cells #[.int .i64 K] 3)) (w.heap.size + 1) 24 Q ∧
    Below w.heap.size w (((w.alloc (.cells #[P] 23)).alloc (.cells #[Q] 24)).alloc (.cells #[.int .i64 K] 3)) := by
  have h1 := box_new w 23 P
  generalize e1 : w.alloc (.cells #[P] 23) = w1 at h1 ⊢
  have s1 : w1.heap.size = w.heap.size + 1 := by rw [← e1]; simp
  have b1 : Below w.heap.size w w1 := by rw [← e1]; exact below_allocs w _
  have h2 := box_new w1 24 Q
  generalize e2 : w1.alloc (.cells #[Q] 24) = w2 at h2 ⊢
  have s2 : w2.heap.size = w.heap.size + 1 + 1 := by rw [← e2]; simp [s1]
  have b2 : Below w1.heap.size w1 w2 := by rw [← e2]; exact below_allocs w1 _
  have h3 := box_new w2 3 (.int .i64 K)
  have b3 := below_allocs w2 (.cells #[.int .i64 K] 3)
  rw [s2] at h3
  rw [s1] at h2
  exact ⟨h3, h1.below (below_then b2 b3), h2.below b3, below_then b1 (below_then b2 b3)⟩
theorem len_polB {w : World} {A : Option Addr} {ca L0 N : Nat} {xs : List Nat} (P : Pol w A ca xs) (hL : xs.length = L0) (hN : leN xs = N) : len N ≤ 64 * L0 := by
  rw [← hN, ← hL]; exact len_words P.word
set_option maxRecDepth 100000 in
set_option maxHeartbeats 2000000 in
theorem oddAtWalk (L0 ca M cl K N : Nat) (A Al : Option Addr) (xs : List Nat) (hL : Hid (xs.length = L0)) (hN : Hid (leN xs = N)) (h0 : Hid (N ≠ 0)) (hK : Hid ((len N - 1) / 64 + 1 = K)) (b1 : L0 ≤ 50000) (w : World) (P : Hid (Pol w A ca xs)) :
    Calls Tryd.prog 25 #[.slice A L0 ca, .slice Al M cl] w (OddA K L0 ca M cl A Al w) := by
  have D := Lib.hid (fun (w' : World) (hb : Below w.heap.size w w') => gDeg ((len N - 1 : Nat) : Int) (P.out.below hb) hL.out (by rw [hN.out]; have := len_pos h0.out; omega) b1)
  generalize hd : len N - 1 = d at D
  have HD := Lib.hid hd
  clear hd
  go_enter Tryd.func25, Tryd.ntmps25
  have B2 := below_then (below_allocs w (.cells #[.slice A L0 ca] 23)) (below_allocs _ (.cells #[.slice Al M cl] 24))
  have D2 := Lib.hid (D.out _ B2)
  go_wp2_with fail
  refine D2.out.mono ?_
  rintro e w' ⟨rfl, rfl⟩
  have k1 : (d : Int) / 64 + 1 = (K : Int) := by have := hK.out; rw [HD.out] at this; omega
  have k2 : K ≤ 4611686018427387904 := by have := hK.out; have := len_polB P.out hL.out hN.out; omega
  clear D D2 B2 P
  go_wp2_with fail
  go_ret
  obtain ⟨s1, s2, s3, s4⟩ := oddStart w (K : Int) (.slice A L0 ca) (.slice Al M cl)
  exact ⟨_, _, _, rfl, ⟨s1, s2, s3⟩, by omega, by omega, by omega, s4⟩
theorem gOddAt {A : Option Addr} {L0 ca : Nat} {xs : List Nat} {w : World} (N M cl : Nat) (Al : Option Addr) (P : Pol w A ca xs) (hL : xs.length = L0) (hN : leN xs = N) (h0 : N ≠ 0) (b1 : L0 ≤ 50000) :
    Calls Tryd.prog 25 #[.slice A L0 ca, .slice Al M cl] w (OddA ((len N - 1) / 64 + 1) L0 ca M cl A Al w) :=
  oddAtWalk L0 ca M cl _ N A Al xs (Lib.hid hL) (Lib.hid hN) (Lib.hid h0) (Lib.hid rfl) b1 w (Lib.hid P)
/-- The closure, called. -/
theorem gOdd {bK bP bL L0 ca M cl : Nat} {A Al : Option Addr} {xs : List Nat} {l : List Bool} {w : World} (N place : Nat) (r : Bool) (S : OddSt bK bP bL ((len N - 1) / 64 + 1) L0 ca M cl A Al w) (P : Pol w A ca xs) (R : Brs w Al cl l) (T : Tab w)
    (hL : xs.length = L0) (hN : leN xs = N) (hl : l.length = M) (h0 : N ≠ 0) (b1 : L0 ≤ 50000) (b2 : M ≤ 4611686018427387904) (hp : place + len N ≤ M) (hr : od (rw_ l) N place = r) :
    Calls Tryd.prog 34 #[.int .i64 (place : Int), .pointer (some ⟨bK, 0, none⟩), .pointer (some ⟨bP, 0, none⟩), .pointer (some ⟨bL, 0, none⟩)] w (fun e w' => e = .returned (.bool r) ∧ ∃ n, w' = w.drewN n) := by
  have a := len_pos h0
  have b := len_polB P hL hN
  exact oddWalk bK bP bL _ N place M ca cl L0 A Al xs l r (Lib.hid hL) (Lib.hid hN) (Lib.hid hl) (Lib.hid (by omega)) (by omega) b1 b2 (Lib.hid hp) (Lib.hid hr) w (Lib.hid T) (Lib.hid S.k) (Lib.hid S.p) (Lib.hid S.l) (Lib.hid P) (Lib.hid R)

set_option maxRecDepth 100000 in
set_option maxHeartbeats 4000000 in
theorem ruleWalk (L0 ca M cl N : Nat) (A Al : Option Addr) (xs : List Nat) (l : List Bool) (r : Bool) (hL : Hid (xs.length = L0)) (hN : Hid (leN xs = N)) (hl : Hid (l.length = M)) (h0 : Hid (N ≠ 0)) (b1 : L0 ≤ 50000) (b2 : M ≤ 4611686018427387904) (hr : Hid (r = true ↔ Rl (rw_ l) M N)) (w : World) (P : Hid (Pol w A ca xs)) (R : Hid (Brs w Al cl l)) (T : Hid (Tab w)) :
    Calls Tryd.prog 12 #[.slice A L0 ca, .slice Al M cl] w (fun e w' => e = .returned (.bool r) ∧ Below w.heap.size w w') := by
  have hn := len_pos h0.out
  have hlp := len_polB P.out hL.out hN.out
  have D := Lib.hid (gDeg ((len N - 1 : Nat) : Int) P.out hL.out (by rw [hN.out]; omega) b1)
  generalize hd : len N - 1 = d at D
  have hdl : len N = d + 1 := by omega
  have O := Lib.hid (gOddAt N M cl Al P.out hL.out hN.out h0.out b1)
  obtain ⟨c, hc⟩ : ∃ c : Int, c = (M : Int) - (d : Int) := ⟨_, rfl⟩
  have c1 : (M : Int) - (d : Int) = c := hc.symm
  have c2 : -4611686018427387904 ≤ c ∧ c ≤ 4611686018427387904 := by omega
  have c3 : ¬ ((d : Int) < 0) := by omega
  have HC := Lib.hid hc
  have HD := Lib.hid hdl
  clear hc hd hn hdl hlp
  go_enter Tryd.func12, Tryd.ntmps12
  go_wp2_with fail
  refine D.out.mono ?_
  rintro e w' ⟨rfl, rfl⟩
  clear D
  go_wp2_with fail
  refine O.out.mono ?_
  rintro e w1 ⟨bK, bP, bL, rfl, S, -, -, -, hb⟩
  clear O
  have S1 := Lib.hid S
  have HB := Lib.hid hb
  clear S hb
  go_wp2_with fail
  go_loopg [19] M (fun g i wr => ∃ k q : Nat, k + g = M ∧ i = .int .i64 k ∧ Hid (∀ j, j < k → od (rw_ l) N j = false) ∧ wr = w1.drewN q)
  case atStart => exact ⟨0, 0, by omega, rfl, Lib.hid (fun j hj => by omega), rfl⟩
  case round =>
    obtain ⟨k, q, hk, rfl, HO, rfl⟩ := hrel
    by_cases hlt : (k : Int) < c
    · have HB1 : Below w.heap.size w (w1.drewN q) := below_drewN' HB.out q
      generalize hr0 : od (rw_ l) N k = r0
      have C := Lib.hid (gOdd (w := w1.drewN q) N k r0 (S1.out.below (below_drewN q)) (P.out.below HB1) (R.out.below HB1) (T.out.below HB1) hL.out hN.out hl.out h0.out b1 b2 (by have := HC.out; have := HD.out; omega) hr0)
      have H0 := Lib.hid hr0
      clear hr0 HB1
      have HK := Lib.hid (show k + len N ≤ M by have := HC.out; have := HD.out; omega)
      go_wp2_with fail
      refine C.out.mono ?_
      rintro e w' ⟨rfl, nq, rfl⟩
      clear C
      cases r0
      · go_wp2_with fail
        go_roundg (gk - 1)
        case measure => have := HK.out; have := HD.out; omega
        case rel => exact ⟨k + 1, q + nq, by have := HK.out; have := HD.out; omega, by go_num, Lib.hid (fun j hj => by
          by_cases e : j = k
          · rw [e]; exact H0.out
          · exact HO.out j (by omega)), rfl⟩
      · have E := Lib.hid (show r = false by
          cases hr' : r
          · rfl
          · have := (hr.out.1 hr').2 k HK.out
            rw [H0.out] at this; cases this)
        go_wp2_with fail
        go_ret
        exact ⟨by rw [E.out]; rfl, below_drewN' HB.out _⟩
    · have E := Lib.hid (show r = true from hr.out.2 ⟨h0.out, fun i hi => HO.out i (by have := HC.out; have := HD.out; omega)⟩)
      go_wp2_with fail
      go_ret
      exact ⟨by rw [E.out]; rfl, below_drewN' HB.out q⟩
set_option maxHeartbeats 1000000 in
theorem ruleZero (L0 ca M cl : Nat) (A Al : Option Addr) (xs : List Nat) (hL : Hid (xs.length = L0)) (hN : Hid (leN xs = 0)) (b1 : L0 ≤ 50000) (w : World) (P : Hid (Pol w A ca xs)) :
    Calls Tryd.prog 12 #[.slice A L0 ca, .slice Al M cl] w (fun e w' => e = .returned (.bool false) ∧ Below w.heap.size w w') := by
  have D := Lib.hid (gDeg (-1) P.out hL.out (by rw [hN.out]; rfl) b1)
  go_enter Tryd.func12, Tryd.ntmps12
  go_wp2_with fail
  refine D.out.mono ?_
  rintro e w' ⟨rfl, rfl⟩
  clear D
  go_wp2_with fail
  go_ret
  exact ⟨rfl, Below.refl _ _⟩
/-- Rule. -/
theorem gRule {A Al : Option Addr} {L0 ca M cl : Nat} {xs : List Nat} {l : List Bool} {w : World} (N : Nat) (r : Bool) (P : Pol w A ca xs) (R : Brs w Al cl l) (T : Tab w) (hL : xs.length = L0) (hN : leN xs = N) (hl : l.length = M) (b1 : L0 ≤ 50000) (b2 : M ≤ 4611686018427387904) (hr : r = true ↔ Rl (rw_ l) M N) :
    Calls Tryd.prog 12 #[.slice A L0 ca, .slice Al M cl] w (Bl r w) := by
  by_cases h0 : N = 0
  · subst h0
    have e : r = false := by
      cases hr' : r
      · rfl
      · exact ((hr.1 hr').1 rfl).elim
    rw [e]
    exact ruleZero L0 ca M cl A Al xs (Lib.hid hL) (Lib.hid hN) b1 w (Lib.hid P)
  · exact ruleWalk L0 ca M cl N A Al xs l r (Lib.hid hL) (Lib.hid hN) (Lib.hid hl) (Lib.hid h0) b1 b2 (Lib.hid hr) w (Lib.hid P) (Lib.hid R) (Lib.hid T)
end Go.Proofs.YtfpbfibnkknhdaaDoor
