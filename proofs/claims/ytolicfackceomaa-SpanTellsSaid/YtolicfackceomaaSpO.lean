/-
  What the calls One, Own and sp of the statements' package, and Same of the reference, answer.
-/
import Derived.Test.YtolicfackceomaaSpL
import Derived.LoopTactic
import Derived.Deep.LoopGhost
import Derived.Deep.AppendLies
namespace Go.Proofs.Ytolicfackceomaa
open Go.RowKit
set_option linter.unusedVariables false
set_option maxRecDepth 100000

set_option maxHeartbeats 1000000 in
theorem cOne (a b c d : Int) : TS 10 #[.agg #[.int .u64 a, .int .u64 b, .int .u64 c, .int .u64 d]] a b c d := fun w => by
  go_enter Try.func10, Try.ntmps10
  go_wp2_with fail
  try simp only [Exit.inBlock, Exit.then, Exit.noGoto]
  refine bodyPost_ret (by simp [results, Try.results10, go_sem]; try rfl) rfl ?_
  exact ⟨rfl, below_then (below_allocs _ _) (below_allocs _ _)⟩
set_option maxHeartbeats 1000000 in
theorem cSp (x y p q r s : Int) (X : Hid (TU 31 #[.int .u64 x] p q)) (Y : Hid (TU 31 #[.int .u64 y] r s)) : TS 33 #[.int .u64 x, .int .u64 y] p q r s := fun w => by
  have K0 := SB.new w 0 0 0 0 26
  have B0 := below_allocs w (.cells #[.int .u64 0, .int .u64 0, .int .u64 0, .int .u64 0] 26)
  have K := Lib.hid (And.intro K0 B0)
  clear K0 B0
  go_enter Try.func33, Try.ntmps33
  go_wp2_with fail
  refine (X.out _).mono ?_
  rintro e V ⟨rfl, hb⟩
  have K2 := Lib.hid (And.intro (K.out.1.below hb) (below_then K.out.2 hb))
  clear hb K X
  go_wp2_with fail
  refine (Y.out _).mono ?_
  rintro e V2 ⟨rfl, hb⟩
  have K3 := Lib.hid (And.intro (K2.out.1.below hb) (below_then K2.out.2 hb))
  obtain ⟨u1, u2, u3, u4⟩ := K3.out.1.cells
  obtain ⟨f1, f2, f3, f4⟩ := K3.out.1.free
  have HR := Lib.hid (SB.put (p' := p) (q' := q) (r' := r) (s' := s) K3.out.1)
  have HB := Lib.hid (below_put4 K3.out.2 (Nat.le_refl w.heap.size) (.int .u64 p) (.int .u64 q) (.int .u64 r) (.int .u64 s))
  clear hb K2 K3 Y
  go_wp2_with fail
  generalize World.setCell (World.setCell (World.setCell (World.setCell V2 _ _) _ _) _ _) _ _ = V5 at HR HB ⊢
  obtain ⟨r1, r2, r3, r4⟩ := HR.out.cells
  try simp only [Exit.inBlock, Exit.then, Exit.noGoto]
  refine bodyPost_ret (by simp [results, Try.results33, go_sem, r1, r2, r3, r4]; try rfl) rfl ?_
  exact ⟨rfl, HB.out⟩
theorem grow_start (t : TypeId) (w : World) : Grow t w.heap.size w (.slice (some ⟨w.heap.size, 0, none⟩) 0 0) [] (w.alloc (.cells #[] t)) :=
  ⟨World.ownsRow_made w #[] 0 (Nat.le_refl _) (by decide) rfl, fun x hx => (by cases hx), below_allocs _ _, Nat.le_refl _⟩
theorem take_succ_getD (l : List Sp) (i : Nat) (h : i < l.length) : l.take (i + 1) = l.take i ++ [l.getD i default] := by
  rw [List.take_add_one, List.getElem?_eq_getElem h, List.getD_eq_getElem?_getD, List.getElem?_eq_getElem h]; rfl
set_option maxHeartbeats 4000000 in
theorem cOwn (A : Option Addr) (cap : Nat) (l : List Sp) (w : World) (h : SL w A cap l) (hn : l.length ≤ 1000) :
    Calls Try.prog 23 #[.slice A l.length cap] w (AnsL l w) := by
  obtain ⟨i0, hi, hz0, hz1, hz2⟩ := info_parts infoR
  have HI := Lib.hid hi
  have HZ0 := Lib.hid hz0
  have HZ1 := Lib.hid hz1
  have HZ2 := Lib.hid hz2
  have H := Lib.hid h
  clear hi hz0 hz1 hz2 h
  go_enter Try.func23, Try.ntmps23
  go_wp2_with fail
  go_loopg [3, 9] l.length (fun g v i wr => ∃ k : Nat, k + g = l.length ∧ i = .int .i64 k ∧ Hid (Grow 34 w.heap.size w v (l.take k) wr))
  case atStart => exact ⟨0, by omega, rfl, Lib.hid (by rw [List.take_zero]; exact grow_start _ w)⟩
  case round =>
    obtain ⟨k, hk, rfl, G⟩ := hrel
    by_cases hlt : k < l.length
    · have hlt' : (k : Int) < l.length := by omega
      obtain ⟨b, o, p, q, r, t, rfl, hl, HS, c0, c1, c2, c3⟩ := (H.out.below G.out.below).at4 hlt
      have E := Lib.hid (take_succ_getD l k hlt)
      generalize l.getD k default = s at HS E
      have sz := G.out.below.size
      have hmax : l.length < 4294967296 := by omega
      go_wp2_with fail
      refine (cOne p q r t _).mono ?_
      rintro e V ⟨rfl, hb⟩
      have G2 := Lib.hid (G.out.far (below_then (below_allocs _ _) hb))
      have l2 : w.heap.size ≤ V.heap.size := G2.out.below.size
      clear hb c0 c1 c2 c3 hl G sz
      have ln : (l.take k).length = k := by rw [List.length_take]; omega
      go_wp2_with (at_builtin; refine wpList_append_own _ rfl _ _ 50 rfl w.heap.size 34 i0 (.agg #[.int .u64 0, .int .u64 0, .int .u64 0, .int .u64 0]) 4 32 Try.underlying50 HI.out HZ0.out HZ1.out HZ2.out rfl (by decide) _ _ _ rfl (G2.out.own.alloc _) ⟨V.heap.size, 0, none⟩ 1 1 (encs [s]) rfl rfl ?c1 ?c2 ?c3 ?c4 ?c5 ?_)
      case c1 => exact new4 V s _ _ _ _ _ HS.out.enc
      case c2 => exact encs_one _
      case c3 => rw [ln]; unfold maxLen; omega
      case c4 => rw [ln]; omega
      case c5 => simp; omega
      intro v' w1 hown hgrow _
      have G1 := Lib.hid ((G2.out.far (below_allocs V (.cells #[.int .u64 p, .int .u64 q, .int .u64 r, .int .u64 t] 34))).step (k := [s]) (fun x hx => by rw [List.mem_singleton.1 hx]; exact HS.out.ok) (v' := v') (by rw [ln]; simpa using hown) hgrow)
      rw [← E.out] at G1
      clear hown hgrow G2 E HS
      go_wp2
      go_roundg (gk - 1)
      case measure => omega
      case rel => exact ⟨k + 1, by omega, by go_num, G1⟩
    · obtain rfl : k = l.length := by omega
      go_wp2
      go_ret
      exact (List.take_length (l := l) ▸ G.out).ans
end Go.Proofs.Ytolicfackceomaa
