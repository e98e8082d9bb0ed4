/-
  What an act of a table tells, and leaves behind.
-/
import Derived.Test.YtlimfgmmbkgeeaaTbD
namespace Go.Proofs.Ytlimfgmmbkgeeaa
open Go.RowKit
set_option linter.unusedVariables false
set_option maxRecDepth 100000

theorem At.mono {w : World} {p : Nat} {F G : Nat → Prop} {t : Tb} (h : At w p F t) (k : ∀ b, F b → G b) (hl : ∀ b, G b → b < w.heap.size) : At w p G t := by
  obtain ⟨sh, sv, T, f⟩ := h.ex
  exact ⟨⟨sh, sv, T, k _ f.p, fun b e => k _ (f.h b e), fun b e => k _ (f.v b e)⟩, hl, h.ok⟩
theorem Post.after {F : Nat → Prop} {w V w' : World} {p : Nat} {t : Tb} (hF : ∀ b, F b → b < w.heap.size) (hb : Below w.heap.size w V) (h : Post F V p t w') : Post F w p t w' :=
  ⟨h.at'.mono (fun b e => e.imp id fun q => ⟨Nat.le_trans hb.size q.1, q.2⟩) (fun b e => e.elim (fun e => Nat.lt_of_lt_of_le (hF b e) (Nat.le_trans hb.size h.kept.size)) (fun e => e.2)),
    (Kept.of_below hb).trans (h.kept.mono fun b _ e => .inl e)⟩
theorem Post.same {F : Nat → Prop} {w w' : World} {p : Nat} {t : Tb} (h : At w p F t) (hb : Below w.heap.size w w') : Post F w p t w' :=
  ⟨(h.below hb).mono (fun _ e => .inl e) (fun b e => e.elim (fun e => Nat.lt_of_lt_of_le (h.lt b e) hb.size) (fun e => e.2)), Kept.of_below hb⟩
abbrev Ac.val (a : Ac) : Value := .agg #[.int .i64 a.d, .int .i64 a.h, .int .u64 a.v]
set_option maxHeartbeats 2000000 in
theorem tDo {w : World} {p : Nat} {F : Nat → Prop} {t : Tb} (h : At w p F t) (a : Ac) :
    Calls Try.prog 8 #[.pointer (some ⟨p, 0, none⟩), a.val] w (fun e w' => e = .returned (.tuple #[.int .i64 (doN t a), .int .i64 (doE t a)]) ∧ Post F w p (doT t a) w') := by
  obtain ⟨d, x, v⟩ := a
  have B := below_allocs w (.cells #[.int .i64 d, .int .i64 x, .int .u64 v] 32)
  have K := Blk.new w #[.int .i64 d, .int .i64 x, .int .u64 v] 32
  have h1 := h.below B
  have hl := h.lt
  have PA : ∀ t' w', Post F (w.alloc (.cells #[.int .i64 d, .int .i64 x, .int .u64 v] 32)) p t' w' → Post F w p t' w' := fun t' w' k => k.after hl B
  have PS : Post F w p t (w.alloc (.cells #[.int .i64 d, .int .i64 x, .int .u64 v] 32)) := Post.same h B
  have c0 := K.cell 0 _ rfl
  have c1 := K.cell 1 _ rfl
  have c2 := K.cell 2 _ rfl
  clear K
  have PA := Lib.hid PA
  by_cases d0 : d = 0
  · subst d0
    have R : Hid (doN t ⟨0, x, v⟩ = addN t ∧ doE t ⟨0, x, v⟩ = addE t ∧ doT t ⟨0, x, v⟩ = addT t v) := Lib.hid ⟨rfl, rfl, rfl⟩
    have C := Lib.hid (tAdd h1 v)
    clear h1 h B PS hl
    rw [R.out.1, R.out.2.1, R.out.2.2]
    clear R
    go_enter Try.func8, Try.ntmps8
    go_wp2_with fail
    refine C.out.mono ?_
    rintro e V ⟨rfl, X⟩
    have X := Lib.hid (PA.out _ _ X)
    clear PA c0 c1 c2 C
    go_wp2_with fail
    go_returns
    exact ⟨rfl, X.out⟩
  · by_cases d1 : d = 1
    · subst d1
      have C := Lib.hid (tDrop h1 x)
      have R : Hid (doN t ⟨1, x, v⟩ = (if hasT t x = true then 1 else 0) ∧ doE t ⟨1, x, v⟩ = 0 ∧ doT t ⟨1, x, v⟩ = dropT t x) := Lib.hid ⟨rfl, rfl, rfl⟩
      clear h1 h B PS hl
      rw [R.out.1, R.out.2.1, R.out.2.2]
      clear R
      cases hm : hasT t x with
      | true =>
        rw [hm] at C
        clear hm
        rw [if_pos rfl]
        go_enter Try.func8, Try.ntmps8
        go_wp2_with fail
        refine C.out.mono ?_
        rintro e V ⟨rfl, X⟩
        have X := Lib.hid (PA.out _ _ X)
        clear PA c0 c1 c2 C
        go_wp2_with fail
        go_returns
        exact ⟨rfl, X.out⟩
      | false =>
        rw [hm] at C
        clear hm
        rw [if_neg Bool.false_ne_true]
        go_enter Try.func8, Try.ntmps8
        go_wp2_with fail
        refine C.out.mono ?_
        rintro e V ⟨rfl, X⟩
        have X := Lib.hid (PA.out _ _ X)
        clear PA c0 c1 c2 C
        go_wp2_with fail
        go_returns
        exact ⟨rfl, X.out⟩
    · by_cases d2 : d = 2
      · subst d2
        have R : Hid (doN t ⟨2, x, v⟩ = 0 ∧ doE t ⟨2, x, v⟩ = layE t x ∧ doT t ⟨2, x, v⟩ = layT t x v) := Lib.hid ⟨rfl, rfl, rfl⟩
        have C := Lib.hid (tLay h1 x v)
        clear h1 h B PS hl
        rw [R.out.1, R.out.2.1, R.out.2.2]
        clear R
        go_enter Try.func8, Try.ntmps8
        go_wp2_with fail
        refine C.out.mono ?_
        rintro e V ⟨rfl, X⟩
        have X := Lib.hid (PA.out _ _ X)
        clear PA c0 c1 c2 C
        go_wp2_with fail
        go_returns
        exact ⟨rfl, X.out⟩
      · by_cases d3 : d = 3
        · subst d3
          have R : Hid (doN t ⟨3, x, v⟩ = 0 ∧ doE t ⟨3, x, v⟩ = goesE t x ∧ doT t ⟨3, x, v⟩ = goesT t x) := Lib.hid ⟨rfl, rfl, rfl⟩
          have C := Lib.hid (tGoes h1 x)
          clear h1 h B PS hl
          rw [R.out.1, R.out.2.1, R.out.2.2]
          clear R
          go_enter Try.func8, Try.ntmps8
          go_wp2_with fail
          refine C.out.mono ?_
          rintro e V ⟨rfl, X⟩
          have X := Lib.hid (PA.out _ _ X)
          clear PA c0 c1 c2 C
          go_wp2_with fail
          go_returns
          exact ⟨rfl, X.out⟩
        · have R : Hid (doN t ⟨d, x, v⟩ = 0 ∧ doE t ⟨d, x, v⟩ = 0 ∧ doT t ⟨d, x, v⟩ = t) := Lib.hid (by simp [doN, doE, doT, d0, d1, d2, d3])
          have X := Lib.hid PS
          clear h1 h B PS hl
          rw [R.out.1, R.out.2.1, R.out.2.2]
          clear R PA
          go_enter Try.func8, Try.ntmps8
          go_wp2
          go_returns
          exact ⟨rfl, X.out⟩
end Go.Proofs.Ytlimfgmmbkgeeaa
