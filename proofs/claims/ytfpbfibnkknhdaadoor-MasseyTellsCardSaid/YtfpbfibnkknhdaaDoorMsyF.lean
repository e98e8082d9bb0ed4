/-
  What the call Goes of package massey answers: how a row goes on.
-/
import Derived.Test.YtfpbfibnkknhdaaDoorMsyB
import Derived.Laws.CopyOwn
namespace Go.Proofs.YtfpbfibnkknhdaaDoor
open Go.RowKit G
set_option linter.unusedVariables false

/-- How a row goes on, bit by bit. -/
def gs (N : Nat) (l : List Bool) : Nat → List Bool
  | 0 => l
  | k + 1 => gs N l k ++ [od (rw_ (gs N l k)) N (l.length + k + 1 - len N)]
theorem gs_len (N : Nat) (l : List Bool) : ∀ k, (gs N l k).length = l.length + k := by
  intro k
  induction k with
  | zero => rfl
  | succ k ih => rw [gs, List.length_append, ih]; rfl
theorem getD_append_at (l : List Bool) (v : Bool) (i : Nat) : (l ++ [v]).getD i false = if i = l.length then v else l.getD i false := by
  simp only [List.getD_eq_getElem?_getD, List.getElem?_append]
  by_cases h : i < l.length
  · rw [if_pos h, if_neg (by omega)]
  · rw [if_neg h]
    by_cases h2 : i = l.length
    · subst h2; simp
    · rw [if_neg h2, List.getElem?_eq_none (by simp; omega), List.getElem?_eq_none (by omega)]
/-- A row that is longer: bits 0 behind. -/
def padB (n : Nat) (l : List Bool) : List Bool := (List.range n).map fun i => l.getD i false
theorem padB_len (n : Nat) (l : List Bool) : (padB n l).length = n := by simp [padB]
theorem padB_get (n : Nat) (l : List Bool) (h : l.length ≤ n) (i : Nat) : (padB n l).getD i false = l.getD i false := by
  simp only [padB, List.getD_eq_getElem?_getD, List.getElem?_map]
  by_cases hi : i < n
  · rw [List.getElem?_range hi]; rfl
  · rw [List.getElem?_eq_none (by simp; omega), List.getElem?_eq_none (by omega)]; rfl
theorem rw_padB (n : Nat) (l : List Bool) (h : l.length ≤ n) : rw_ (padB n l) = rw_ l := funext (fun i => padB_get n l h i)
/-- A new row of bools, the list's and bits 0 behind. -/
def BRow (w : World) (g n : Nat) (l : List Bool) : Prop := w.rowIs g 4 n (fun i => .bool (l.getD i false))
theorem BRow.brs {w : World} {g n : Nat} {l : List Bool} (h : BRow w g n l) (hl : l.length ≤ n) (hn : n ≤ 9223372036854775807) : Brs w (some ⟨g, 0, none⟩) n (padB n l) :=
  ⟨by rw [padB_len]; exact Nat.le_refl _, hn, fun i hi => ⟨g, 0, rfl, by rw [Nat.zero_add, padB_get n l hl]; exact World.rowIs.cell h (by rw [padB_len] at hi; exact hi)⟩⟩
theorem BRow.full {w : World} {g n : Nat} {l : List Bool} (h : BRow w g n l) (hl : l.length = n) (hn : n ≤ 9223372036854775807) : Brs w (some ⟨g, 0, none⟩) n l :=
  ⟨by omega, hn, fun i hi => ⟨g, 0, rfl, by rw [Nat.zero_add]; exact World.rowIs.cell h (by omega)⟩⟩
theorem BRow.next {w : World} {g n : Nat} {l : List Bool} (h : BRow w g n l) (t : Nat) (v : Bool) (ht : l.length = t) : BRow (w.setCell ⟨g, t, none⟩ (.bool v)) g n (l ++ [v]) := by
  subst ht
  refine (World.rowIs.set h l.length (.bool v)).congr (fun i hi => ?_)
  show (if i = l.length then Value.bool v else .bool (l.getD i false)) = _
  rw [getD_append_at]
  split <;> rfl
theorem BRow.below {w w' : World} {g n : Nat} {l : List Bool} (h : BRow w g n l) (hb : Below w.heap.size w w') : BRow w' g n l := World.rowIs.of_block h (hb.block g (World.rowIs.lt h))
theorem BRow.drew {w : World} {g n : Nat} {l : List Bool} (h : BRow w g n l) (q : Nat) : BRow (w.drewN q) g n l := h
theorem infoB : (Tryd.prog.info? 4).map (fun i => (i.zero, i.size, i.bytes)) = some (some (.bool false), 1, 1) := by kernel_rfl
theorem infoB1 : (Tryd.prog.info? 4).map (·.size) = some 1 := by kernel_rfl
theorem copied (w : World) (g n : Nat) (l : List Bool) (hl : l.length ≤ n) (h : w.heap[g]? = some (.cells (splice (List.replicate n (Value.bool false)) 0 (l.map Value.bool)).toArray 4 (0, 0))) : BRow w g n l := by
  refine ⟨_, h, by rw [List.size_toArray, length_splice _ _ _ (by simp; exact hl), List.length_replicate], fun i hi => ?_⟩
  rw [List.getElem?_toArray]
  simp only [splice, List.take_zero, List.nil_append, Nat.zero_add, List.length_map, List.getElem?_append, List.getD_eq_getElem?_getD]
  by_cases h2 : i < l.length
  · rw [if_pos h2, List.getElem?_map, List.getElem?_eq_getElem h2]; rfl
  · rw [if_neg h2, List.drop_replicate, List.getElem?_replicate, if_pos (by omega), List.getElem?_eq_none (by omega)]; rfl
/-- An answer that is a row of bits, and no error. -/
def AnsG (g : List Bool) (n : Nat) (w : World) (e : Ending) (w' : World) : Prop :=
  ∃ (A : Option Addr) (cap : Nat), e = .returned (.tuple #[.slice A n cap, .int .i64 0]) ∧ Brs w' A cap g ∧ Below w.heap.size w w'
/-- An answer that is nil, and an error. -/
def NilG (n : Int) (w : World) (e : Ending) (w' : World) : Prop := e = .returned (.tuple #[.slice none 0 0, .int .i64 n]) ∧ Below w.heap.size w w'
section
variable {A Al : Option Addr} {L0 ca M cl : Nat} {xs : List Nat} {l : List Bool} {w : World}
set_option maxHeartbeats 1000000 in
theorem gGoesZero (many : Int) (P : Pol w A ca xs) (hL : xs.length = L0) (b1 : L0 ≤ 50000) (h : len (leN xs) ≤ 1) : Calls Tryd.prog 9 #[.slice A L0 ca, .slice Al M cl, .int .i64 many] w (NilG 8 w) := by
  obtain ⟨d, hd⟩ : ∃ d : Int, d = (len (leN xs) : Int) - 1 := ⟨_, rfl⟩
  have D := Lib.hid (gDeg d P hL hd.symm b1)
  have h1 : d < 1 := by omega
  clear P hL hd
  go_enter Tryd.func9, Tryd.ntmps9
  go_wp2_with fail
  refine D.out.mono ?_
  rintro e w' ⟨rfl, rfl⟩
  clear D
  go_wp2_with fail
  go_ret2
  exact ⟨rfl, Below.refl _ _⟩
set_option maxHeartbeats 2000000 in
theorem gGoesArg (many : Int) (P : Pol w A ca xs) (hL : xs.length = L0) (b1 : L0 ≤ 50000) (h0 : 2 ≤ len (leN xs)) (h : M < len (leN xs) - 1 ∨ many < 0 ∨ 2048 < many) : Calls Tryd.prog 9 #[.slice A L0 ca, .slice Al M cl, .int .i64 many] w (NilG 1 w) := by
  obtain ⟨d, hd⟩ : ∃ d : Nat, d = len (leN xs) - 1 := ⟨_, rfl⟩
  have D := Lib.hid (gDeg (d : Int) P hL (by omega) b1)
  rw [← hd] at h
  have h1 : ¬ ((d : Int) < 1) := by omega
  clear P hL hd h0
  go_enter Tryd.func9, Tryd.ntmps9
  by_cases hM : M < d
  · have m1 : (M : Int) < (d : Int) := by omega
    go_wp2_with fail
    refine D.out.mono ?_
    rintro e w' ⟨rfl, rfl⟩
    clear D
    go_wp2_with fail
    go_ret2
    exact ⟨rfl, Below.refl _ _⟩
  · have m1 : ¬ ((M : Int) < (d : Int)) := by omega
    by_cases hn : many < 0
    · go_wp2_with fail
      refine D.out.mono ?_
      rintro e w' ⟨rfl, rfl⟩
      clear D
      go_wp2_with fail
      go_ret2
      exact ⟨rfl, Below.refl _ _⟩
    · have m2 : (2048 : Int) < many := by omega
      go_wp2_with fail
      refine D.out.mono ?_
      rintro e w' ⟨rfl, rfl⟩
      clear D
      go_wp2_with fail
      go_ret2
      exact ⟨rfl, Below.refl _ _⟩
end
theorem made_list (n : Nat) : (madeCells #[Value.bool false] n) = (List.replicate n (Value.bool false)).toArray := by
  apply Array.toList_inj.1
  rw [toList_madeCells_one]
theorem made_at (w : World) (n : Nat) : (w.alloc (.cells (madeCells #[Value.bool false] n) 4)).heap[w.heap.size]? = some (.cells (List.replicate n (Value.bool false)).toArray 4 (0, 0)) := by
  rw [heap_alloc_new, made_list]
theorem copy_pos {w w' : World} {Al : Option Addr} {cl g : Nat} {l : List Bool} (R : Brs w Al cl l) (hb : Below w.heap.size w w') (h : 0 < (l.map Value.bool).length) :
    some (⟨g, 0, none⟩ : Addr) = some ⟨g, 0, none⟩ ∧ ∃ ad, Al = some ad ∧ ∀ j v, (l.map Value.bool)[j]? = some v → w'.cell? (ad.add j) = some v := by
  rw [List.length_map] at h
  obtain ⟨b, o, e, _⟩ := R.cell 0 h
  refine ⟨rfl, _, e, fun j v hv => ?_⟩
  rw [List.getElem?_map] at hv
  by_cases hj : j < l.length
  · obtain ⟨b', o', e', c⟩ := (R.below hb).cell j hj
    rw [e] at e'
    simp only [Option.some.injEq, Addr.mk.injEq, and_true] at e'
    obtain ⟨rfl, rfl⟩ := e'
    rw [Addr.add_lit, c]
    rw [List.getElem?_eq_getElem hj] at hv
    simp only [Option.map_some, Option.some.injEq] at hv
    rw [← hv, List.getD_eq_getElem?_getD, List.getElem?_eq_getElem hj]; rfl
  · rw [List.getElem?_eq_none (by omega)] at hv; cases hv
theorem copy_run {w : World} {Al : Option Addr} {cl n M : Nat} {l : List Bool} (R : Brs w Al cl l) (hl : l.length = M) (hM : M ≤ n) (h0 : 0 < M) :
    ∃ w2, (Builtin.copy_ #[24, 24] 3 #[.slice (some ⟨w.heap.size, 0, none⟩) n n, .slice Al M cl]).run Tryd.prog (w.alloc (.cells (madeCells #[Value.bool false] n) 4)) = .ok (goInt M) w2 ∧ BRow w2 w.heap.size n l ∧ Below w.heap.size w w2 := by
  have hA := below_allocs w (.cells (madeCells #[Value.bool false] n) 4)
  have hlm : (l.map Value.bool).length = M := by rw [List.length_map, hl]
  obtain ⟨-, ad, rfl, hsrc⟩ := copy_pos (g := w.heap.size) R hA (by rw [hlm]; exact h0)
  have hg := made_at w n
  have hrun := run_copy_row (P := Tryd.prog) (w.alloc (.cells (madeCells #[Value.bool false] n) 4)) 24 24 3 4 w.heap.size 0 n n ad M cl _ 4 (l.map Value.bool) Tryd.underlying24 infoB1 hg (by rw [hlm]; show M = min M n; omega) hsrc (by rw [hlm]; simp; exact hM) (fun v hv => by
    obtain ⟨x, _, rfl⟩ := List.mem_map.1 hv; rfl)
  rw [hlm] at hrun
  refine ⟨_, hrun, copied _ _ _ _ (by omega) ?_, below_setRow hA (Nat.le_refl _) _⟩
  have := setRow_heap _ w.heap.size _ ((List.replicate n (Value.bool false)).take 0 ++ ((l.map Value.bool) ++ (List.replicate n (Value.bool false)).drop (0 + M))).toArray 4 _ hg
  simpa [splice, hl] using this
set_option maxRecDepth 100000 in
set_option maxHeartbeats 4000000 in
theorem goesWalk (L0 ca M cl N many n : Nat) (A Al : Option Addr) (xs : List Nat) (l : List Bool) (hL : Hid (xs.length = L0)) (hN : Hid (leN xs = N)) (hl : Hid (l.length = M)) (b1 : L0 ≤ 50000) (b2 : M ≤ 100000) (h0 : Hid (2 ≤ len N)) (h1 : Hid (len N ≤ M + 1)) (bm : many ≤ 2048) (hn : n = M + many)
    (w : World) (P : Hid (Pol w A ca xs)) (R : Hid (Brs w Al cl l)) (T : Hid (Tab w)) :
    Calls Tryd.prog 9 #[.slice A L0 ca, .slice Al M cl, .int .i64 (many : Int)] w (AnsG (gs N l many) n w) := by
  have ne0 : Hid (N ≠ 0) := Lib.hid (fun e => by have := h0.out; rw [e, len_zero] at this; omega)
  obtain ⟨d, hd⟩ : ∃ d : Nat, d = len N - 1 := ⟨_, rfl⟩
  have D := Lib.hid (gDeg (d : Int) P.out hL.out (by rw [hN.out]; have := h0.out; omega) b1)
  have d1 : ¬ ((d : Int) < 1) := by have := h0.out; omega
  have d2 : ¬ ((M : Int) < (d : Int)) := by have := h1.out; omega
  have d3 : ¬ ((many : Int) < 0) := by omega
  have d4 : ¬ ((2048 : Int) < (many : Int)) := by omega
  have en : (M : Int) + (many : Int) = (n : Int) := by omega
  have HD := Lib.hid (show len N = d + 1 by have := h0.out; omega)
  have HN := Lib.hid hn
  have bn : n ≤ 281474976710656 := by omega
  have hmk := run_make_row' (P := Tryd.prog) 24 4 (.bool false) 1 Tryd.underlying24 infoB rfl .i64 .i64 n (by omega) (by omega)
  have hM0 : 0 < M := by have := h0.out; have := h1.out; omega
  obtain ⟨w2, hrun, B2, HB2⟩ := copy_run (n := n) R.out hl.out (by omega) hM0
  have hgl := World.rowIs.lt B2
  have B2 := Lib.hid B2
  have HB2 := Lib.hid HB2
  have HG := Lib.hid hgl
  clear hd hn hgl
  go_enter Tryd.func9, Tryd.ntmps9
  go_wp2_with fail
  refine D.out.mono ?_
  rintro e w' ⟨rfl, rfl⟩
  clear D
  go_wp2_with fail
  have O := Lib.hid (gOddAt N n n (some ⟨w.heap.size, 0, none⟩) (P.out.below HB2.out) hL.out hN.out ne0.out b1)
  refine O.out.mono ?_
  rintro e w3 ⟨bK, bP, bL, rfl, OS, z1, z2, z3, hb⟩
  have B3 := Lib.hid (B2.out.below hb)
  have HB3 := Lib.hid (HB2.out.trans (hb.mono HB2.out.size))
  have NE := Lib.hid (show bK ≠ w.heap.size ∧ bP ≠ w.heap.size ∧ bL ≠ w.heap.size from by have := HG.out; omega)
  have S3 := Lib.hid OS
  clear O B2 HB2 hb OS z1 z2 z3 hrun hmk
  go_wp2_with fail
  go_loopg [39] many (fun g' i wr => ∃ k : Nat, k + g' = many ∧ i = .int .i64 k ∧ Hid (BRow wr w.heap.size n (gs N l k)) ∧ Hid (OddSt bK bP bL ((len N - 1) / 64 + 1) L0 ca n n A (some ⟨w.heap.size, 0, none⟩) wr) ∧ Hid (Below w.heap.size w wr))
  case atStart => exact ⟨0, by omega, rfl, B3, S3, HB3⟩
  case round =>
    clear B3 S3 HB3
    obtain ⟨k, hk, rfl, BR, S, HB⟩ := hrel
    have gl := gs_len N l k
    rw [hl.out] at gl
    by_cases hlt : k < many
    · have kl : (k : Int) < (many : Int) := by omega
      obtain ⟨t, ht⟩ : ∃ t, t = M + k := ⟨_, rfl⟩
      obtain ⟨p, hp⟩ : ∃ p, p = t - d := ⟨_, rfl⟩
      have t1 : (M : Int) + (k : Int) = (t : Int) := by omega
      have t2 : (t : Int) - (d : Int) = (p : Int) := by have := h1.out; have := HD.out; omega
      have t3 : (t : Int) < (n : Int) := by omega
      have t4 : (0 : Int) ≤ (t : Int) := by omega
      have t5 : t ≤ 281474976710656 := by omega
      generalize hr : od (rw_ (gs N l k)) N p = r
      have C := Lib.hid (gOdd N p r S.out (P.out.below HB.out) (BR.out.brs (by omega) (by omega)) (T.out.below HB.out) hL.out hN.out (padB_len _ _) ne0.out b1 (by omega) (by have := h1.out; have := HD.out; omega) (by rw [rw_padB _ _ (by omega)]; exact hr))
      have HS := Lib.hid (show gs N l (k + 1) = gs N l k ++ [r] from by rw [gs, hl.out, ← hr, hp, ht, HD.out, show M + k + 1 - (d + 1) = M + k - d from by omega])
      have HT := Lib.hid (show (gs N l k).length = t from by omega)
      clear hr gl ht hp
      go_wp2_with fail
      refine C.out.mono ?_
      rintro e w' ⟨rfl, q, rfl⟩
      clear C
      have fz : (wr.drewN q).frozen? ⟨w.heap.size, t, none⟩ = false := World.rowIs.frozen (BR.out.drew q) t
      have cz : (wr.drewN q).cell? ⟨w.heap.size, t, none⟩ = some (.bool ((gs N l k).getD t false)) := World.rowIs.cell (BR.out.drew q) (by omega)
      generalize (gs N l k).getD t false = z at cz
      have B4 := Lib.hid ((BR.out.drew q).next t r HT.out)
      rw [← HS.out] at B4
      have S4 := Lib.hid (show OddSt bK bP bL ((len N - 1) / 64 + 1) L0 ca n n A (some ⟨w.heap.size, 0, none⟩) ((wr.drewN q).setCell ⟨w.heap.size, t, none⟩ (.bool r)) from
        ⟨Box.far (p := ⟨w.heap.size, t, none⟩) (S.out.below (below_drewN q)).k NE.out.1 _, Box.far (p := ⟨w.heap.size, t, none⟩) (S.out.below (below_drewN q)).p NE.out.2.1 _, Box.far (p := ⟨w.heap.size, t, none⟩) (S.out.below (below_drewN q)).l NE.out.2.2 _⟩)
      have HB4 := Lib.hid ((below_drewN' HB.out q).setCell (p := ⟨w.heap.size, t, none⟩) (Nat.le_refl _) (.bool r))
      have hlt2 := (below_drewN' HB.out q).size
      have hg4 : w.heap.size < (wr.drewN q).heap.size := World.rowIs.lt (BR.out.drew q)
      go_wp2_with fail
      go_roundg (gk - 1)
      case measure => omega
      case rel => exact ⟨k + 1, by omega, by go_num, B4, S4, HB4⟩
    · obtain rfl : k = many := by omega
      have kl : ¬ ((k : Int) < (k : Int)) := by omega
      have E := Lib.hid (BR.out.full (by have := HN.out; omega) (by omega))
      clear gl
      go_wp2_with fail
      go_ret2
      exact ⟨_, _, rfl, E.out, HB.out⟩
theorem gGoes {A Al : Option Addr} {L0 ca M cl : Nat} {xs : List Nat} {l : List Bool} {w : World} (N many n : Nat) (P : Pol w A ca xs) (R : Brs w Al cl l) (T : Tab w) (hL : xs.length = L0) (hN : leN xs = N) (hl : l.length = M) (b1 : L0 ≤ 50000) (b2 : M ≤ 100000) (h0 : 2 ≤ len N) (h1 : len N ≤ M + 1) (bm : many ≤ 2048) (hn : n = M + many) :
    Calls Tryd.prog 9 #[.slice A L0 ca, .slice Al M cl, .int .i64 (many : Int)] w (AnsG (gs N l many) n w) :=
  goesWalk L0 ca M cl N many n A Al xs l (Lib.hid hL) (Lib.hid hN) (Lib.hid hl) b1 b2 (Lib.hid h0) (Lib.hid h1) bm hn w (Lib.hid P) (Lib.hid R) (Lib.hid T)
end Go.Proofs.YtfpbfibnkknhdaaDoor
