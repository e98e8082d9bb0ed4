/-
  What Apart of package span answers.
-/
import Derived.Test.YtolicfackceomaaSpHj
import Derived.Deep.RegionHeld3
import Derived.BigRegion
import Derived.Deep.DeepCutAuto
namespace Go.Proofs.Ytolicfackceomaa
open Go.RowKit
set_option linter.unusedVariables false
set_option maxRecDepth 100000

/-- Is each part, behind those ahead of it, the whole? -/
def apO : Nat → List Sp → Bool
  | _, [] => true
  | e, s :: o => decide ((⟨max e s.f, s.t⟩ : Sp) = s) && apO (max e s.t) o
theorem apO_cons (e : Nat) (s : Sp) (o : List Sp) : apO e (s :: o) = (decide ((⟨max e s.f, s.t⟩ : Sp) = s) && apO (max e s.t) o) := rfl
/-- How many places the parts have. -/
def covO : Nat → List Sp → Nat
  | _, [] => 0
  | e, s :: o => lenS ⟨max e s.f, s.t⟩ + covO (max e s.t) o
theorem drop_getD (o : List Sp) (k : Nat) (h : k < o.length) : o.drop k = o.getD k default :: o.drop (k + 1) := by
  rw [List.drop_eq_getElem_cons h, List.getD_eq_getElem?_getD, List.getElem?_eq_getElem h]; rfl
theorem SL.keep {w w' : World} {A : Option Addr} {cap x : Nat} {l : List Sp} (h : SL w A cap l) (hx : ∀ a, A = some a → a.block ≠ x) (hs : w.heap.size ≤ w'.heap.size) (hk : ∀ j, j < w.heap.size → j ≠ x → w'.heap[j]? = w.heap[j]?) : SL w' A cap l :=
  ⟨h.ok, h.cap1, h.cap2, fun i hi => by
    obtain ⟨b, o, e, hl, hc⟩ := h.cell i hi
    refine ⟨b, o, e, Nat.lt_of_lt_of_le hl hs, fun c v hv => ?_⟩
    rw [← hc c v hv]
    simp only [World.cell?]
    rw [hk b hl (hx _ e)]⟩
theorem SB.keep {t : TypeId} {w w' : World} {b x : Nat} {p q r s : Int} (h : SB t w b p q r s) (hx : b ≠ x) (hk : ∀ j, j < w.heap.size → j ≠ x → w'.heap[j]? = w.heap[j]?) : SB t w' b p q r s := (hk b h.lt hx).trans h
theorem PF.drew {w : World} {b n : Nat} (h : PF w b n) : PF w.drew b n := ⟨h.lt, h.box⟩
/-- Behind the drawn region of Apart's round. -/
structure ApK (w : World) (x y : Nat) (A : Option Addr) (cap : Nat) (o : List Sp) (p q r t : Int) (n : Nat) (wr : World) : Prop where
  pf : PF wr x n
  sl : SL wr A cap o
  sb : SB 26 wr y p q r t
  below : Below w.heap.size w wr
/-- Such an order there is. -/
def srt (l : List Sp) : List Sp := (l.filter (fun s => !decide (lenS s = 0))).mergeSort (fun s u => decide (s.f ≤ u.f))
theorem srt_is (l : List Sp) : Srt l (srt l) := ⟨List.mergeSort_perm _ _, by
  have := List.pairwise_mergeSort (le := fun s u : Sp => decide (s.f ≤ u.f)) (fun a b c h1 h2 => by simp at *; omega) (fun a b => by simp; omega) (l.filter (fun s => !decide (lenS s = 0)))
  exact this.imp (fun h => by simpa using h)⟩
set_option maxHeartbeats 8000000 in
theorem apartLoop (A : Option Addr) (cap : Nat) (l : List Sp) (w : World) (h : SL w A cap l) (hn : l.length ≤ 1000) :
    Calls Try.prog 21 #[.slice A l.length cap] w (fun e w' => ∃ b o, e = .returned (.bool b) ∧ Srt l o ∧ b = (!(l.any (fun s => !decide (s.f ≤ s.t))) && apO 0 o) ∧ Below w.heap.size w w') := by
  have H := Lib.hid h
  have C := Lib.hid (xHas _ _ pApart A cap l w h)
  clear h
  cases ha : l.any (fun s => !decide (s.f ≤ s.t)) with
  | true =>
    rw [ha] at C
    clear ha
    go_enter Try.func21, Try.ntmps21
    go_wp2_with fail
    refine C.out.mono ?_
    rintro e V ⟨rfl, hb⟩
    have HB := Lib.hid hb
    clear hb C
    go_wp2_with fail
    go_ret
    exact ⟨false, srt l, rfl, srt_is l, rfl, HB.out⟩
  | false =>
    rw [ha] at C
    clear ha
    go_enter Try.func21, Try.ntmps21
    go_wp2_with fail
    refine C.out.mono ?_
    rintro e V ⟨rfl, hb⟩
    have HB1 := Lib.hid hb
    clear hb C
    go_wp2_with fail
    refine (cParts _).mono ?_
    rintro e V1 ⟨x, rfl, hx, F, hb⟩
    have HB2 := Lib.hid (below_then HB1.out hb)
    have HF := Lib.hid F
    have hxl := F.box.lt
    have O := Lib.hid (cOrdered A cap l V1 (H.out.below HB2.out) hn)
    have hxw : w.heap.size ≤ x := Nat.le_trans HB1.out.size hx
    clear F hb HB1 hx
    go_wp2_with fail
    refine O.out.mono ?_
    rintro e V2 ⟨A', cap', o, rfl, hfar, hs, hsrt, hb⟩
    have HFAR : Hid (∀ a, A' = some a → a.block ≠ x) := Lib.hid fun a e => by have := hfar a e; omega
    have HO := Lib.hid hsrt
    have K0 := Lib.hid (And.intro (HF.out.below hb) (And.intro hs (below_then HB2.out hb)))
    have hcap1 := hs.cap1
    have hcap2 := hs.cap2
    clear hb HB2 HF O hfar hs hsrt hxl
    go_wp2_with fail
    go_loopg [12] o.length (fun gk i wr => ∃ (k n : Nat), k + gk = o.length ∧ i = .int .i64 k ∧ Hid (apO 0 o = apO n (o.drop k)) ∧ Hid (PF wr x n ∧ SL wr A' cap' o ∧ Below w.heap.size w wr))
    case atStart => exact ⟨0, 0, by omega, rfl, Lib.hid (by rw [List.drop_zero]), K0⟩
    case round =>
      clear K0
      obtain ⟨k, n, hk, rfl, HA, K⟩ := hrel
      by_cases hlt : k < o.length
      · have hlt' : (k : Int) < o.length := by omega
        obtain ⟨b, o', p, q, r, t, rfl, hl, HS, c0, c1, c2, c3⟩ := K.out.2.1.at4 hlt
        have HA2 := HA.out
        rw [drop_getD o k hlt, apO_cons] at HA2
        have HA3 := Lib.hid HA2
        clear HA2 HA
        generalize o.getD k default = s at HS HA3
        obtain ⟨z, hz⟩ : ∃ z, decide ((⟨max n s.f, s.t⟩ : Sp) = s) = z := ⟨_, rfl⟩
        have Z := Lib.hid hz
        have ok2 : Ws ((hiW (max n s.f) : Nat) : Int) ((loW (max n s.f) : Nat) : Int) r t ⟨max n s.f, s.t⟩ := ⟨wn_of (Nat.max_lt.2 ⟨K.out.1.lt, HS.out.f.lt⟩), HS.out.t⟩
        have eq := fun w => eqS ((hiW (max n s.f) : Nat) : Int) ((loW (max n s.f) : Nat) : Int) r t p q r t w
        rw [ws_same ok2 HS.out, hz] at eq
        have HV : Hid (Sp.val ⟨max n s.f, s.t⟩ = .agg #[.int .u64 ((hiW (max n s.f) : Nat) : Int), .int .u64 ((loW (max n s.f) : Nat) : Int), .int .u64 r, .int .u64 t]) := Lib.hid ok2.val
        clear hz ok2
        have PC : Hid (∀ W, PF W x n → Calls Try.prog 52 #[.agg #[.int .u64 p, .int .u64 q, .int .u64 r, .int .u64 t], .pointer (some ⟨x, 0, none⟩)] W
          (fun e w' => e = .returned (.agg #[.int .u64 ((hiW (max n s.f) : Nat) : Int), .int .u64 ((loW (max n s.f) : Nat) : Int), .int .u64 r, .int .u64 t]) ∧ PF w' x (max n s.t) ∧ (∀ B, B ≤ x → Below B W w') ∧ ∀ j, j < W.heap.size → j ≠ x → w'.heap[j]? = W.heap[j]?)) := Lib.hid fun W hF => by
            have := cPart HS.out x n W hF
            rw [HV.out] at this
            exact this
        generalize ((hiW (max n s.f) : Nat) : Int) = p' at eq PC HV
        generalize ((loW (max n s.f) : Nat) : Int) = q' at eq PC HV
        clear HV
        have LB := below_allocs wr (.cells #[.int .u64 p, .int .u64 q, .int .u64 r, .int .u64 t] 26)
        have KA : Hid (ApK w x wr.heap.size (some ⟨b, o', none⟩) cap' o p q r t n (wr.alloc (.cells #[.int .u64 p, .int .u64 q, .int .u64 r, .int .u64 t] 26))) := Lib.hid ⟨K.out.1.below LB, K.out.2.1.below LB, SB.new wr p q r t _, below_then K.out.2.2 LB⟩
        have nxy : wr.heap.size ≠ x := by have := K.out.1.box.lt; omega
        clear LB K
        go_upto_region 7 with fail
        clear c0 c1 c2 c3 hl
        generalize World.alloc wr _ = W1 at KA ⊢
        generalize wr.heap.size = y at KA nxy ⊢
        go_cut [20] (fun u wr => u = .bool (!z) ∧ ApK w x y (some ⟨b, o', none⟩) cap' o p q r t (max n s.t) wr)
        case first =>
          obtain ⟨s0, s1, s2, s3⟩ := KA.out.sb.cells
          go_region_with (go_at_call 52; (refine (PC.out _ (by first | exact KA.out.pf | exact KA.out.pf.drew)).mono ?_); rintro e W2 ⟨rfl, hP, hbw, hk⟩; have KB : Hid (ApK w x y (some ⟨b, o', none⟩) cap' o p q r t (max n s.t) W2) := Lib.hid ⟨hP, KA.out.sl.keep HFAR.out (hbw 0 (Nat.zero_le _)).size hk, KA.out.sb.keep nxy hk, KA.out.below.trans (by first | exact hbw _ hxw | exact (below_drew _ |>.mono (by have := KA.out.below.size; omega)).trans (hbw _ hxw))⟩; clear hP hbw hk; obtain ⟨t0, t1, t2, t3⟩ := KB.out.sb.cells)
          all_goals
            go_wp2_with fail
            go_meet
            exact ⟨rfl, KB.out⟩
        obtain ⟨rfl, KN⟩ := hcut
        have KC := Lib.hid KN
        clear KN eq PC KA
        cases z with
        | true =>
          have HA4 : Hid (apO 0 o = apO (max n s.t) (o.drop (k + 1))) := Lib.hid (by rw [HA3.out, Z.out, Bool.true_and])
          clear HA3 Z
          go_wp2_with fail
          go_roundg (gk - 1)
          case measure => omega
          case rel => exact ⟨k + 1, max n s.t, by omega, by go_num, HA4, Lib.hid ⟨KC.out.pf, KC.out.sl, KC.out.below⟩⟩
        | false =>
          have HA4 : Hid (apO 0 o = false) := Lib.hid (by rw [HA3.out, Z.out, Bool.false_and])
          clear HA3 Z
          go_wp2_with fail
          go_ret
          exact ⟨false, o, rfl, HO.out, by rw [HA4.out]; rfl, KC.out.below⟩
      · obtain rfl : k = o.length := by omega
        have HA4 : Hid (apO 0 o = true) := Lib.hid (by rw [HA.out, List.drop_length]; rfl)
        clear HA
        go_wp2_with fail
        go_ret
        exact ⟨true, o, rfl, HO.out, by rw [HA4.out]; rfl, K.out.2.2⟩
end Go.Proofs.Ytolicfackceomaa
