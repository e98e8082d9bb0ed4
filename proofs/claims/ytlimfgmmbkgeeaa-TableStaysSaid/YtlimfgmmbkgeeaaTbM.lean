/-
  What a table is, and what its calls answer (mathematics alone).
-/
import Derived.Test.YtlimfgmmbkgeeaaTbLib
import Derived.Lib.Hide
namespace Go.Proofs.Ytlimfgmmbkgeeaa
set_option linter.unusedVariables false

/-- A table: handles with their values, rising; the handle that is given next. -/
structure Tb where
  l : List (Int × Int)
  n : Int
def Tb.h (t : Tb) : List Int := t.l.map Prod.fst
structure Tb.Ok (t : Tb) : Prop where
  many : t.l.length ≤ 16
  n0 : 0 ≤ t.n
  n1 : t.n ≤ 2147483647
  up : t.h.Pairwise (· < ·)
  within : ∀ x ∈ t.h, 0 ≤ x ∧ x < t.n
theorem Tb.h_len (t : Tb) : t.h.length = t.l.length := by simp [Tb.h]
def putT (t : Tb) (h v : Int) : Tb := ⟨t.l ++ [(h, v)], h + 1⟩
def addE (t : Tb) : Int := if 16 ≤ t.l.length then 5 else if 2147483647 ≤ t.n then 10 else 0
def addN (t : Tb) : Int := if addE t = 0 then t.n else 0
def addT (t : Tb) (v : Int) : Tb := if addE t = 0 then putT t t.n v else t
def layE (t : Tb) (h : Int) : Int := if 16 ≤ t.l.length then 5 else if h < t.n ∨ 2147483647 ≤ h then 1 else 0
def layT (t : Tb) (h v : Int) : Tb := if layE t h = 0 then putT t h v else t
def goesE (t : Tb) (n : Int) : Int := if n < t.n ∨ 2147483647 < n then 1 else 0
def goesT (t : Tb) (n : Int) : Tb := if goesE t n = 0 then ⟨t.l, n⟩ else t
def hasT (t : Tb) (h : Int) : Bool := t.h.contains h
def dropT (t : Tb) (h : Int) : Tb := ⟨t.l.filter (fun x => x.1 != h), t.n⟩
def getT (t : Tb) (h : Int) : Int := match t.l.find? (fun x => x.1 == h) with | some x => x.2 | none => 0
/-- An act. -/
structure Ac where
  d : Int
  h : Int
  v : Int
def doN (t : Tb) (a : Ac) : Int := if a.d = 0 then addN t else if a.d = 1 then (if hasT t a.h = true then 1 else 0) else 0
def doE (t : Tb) (a : Ac) : Int := if a.d = 0 then addE t else if a.d = 1 then 0 else if a.d = 2 then layE t a.h else if a.d = 3 then goesE t a.h else 0
def doT (t : Tb) (a : Ac) : Tb := if a.d = 0 then addT t a.v else if a.d = 1 then dropT t a.h else if a.d = 2 then layT t a.h a.v else if a.d = 3 then goesT t a.h else t

theorem ok_new : Tb.Ok ⟨[], 0⟩ := ⟨by simp, by simp, by simp, by simp [Tb.h], by simp [Tb.h]⟩
theorem put_h (t : Tb) (h v : Int) : (putT t h v).h = t.h ++ [h] := by simp [putT, Tb.h]
theorem Tb.Ok.put {t : Tb} (k : t.Ok) {h v : Int} (hl : t.l.length < 16) (h0 : t.n ≤ h) (h1 : h < 2147483647) : (putT t h v).Ok := by
  have e := put_h t h v
  refine ⟨by simp [putT]; omega, ?_, ?_, ?_, ?_⟩
  · have := k.n0; show (0 : Int) ≤ h + 1; omega
  · show h + 1 ≤ 2147483647; omega
  · rw [e, List.pairwise_append]
    refine ⟨k.up, by simp, fun x hx y hy => ?_⟩
    rw [List.mem_singleton] at hy
    subst hy
    have := (k.within x hx).2
    omega
  · rw [e]
    intro x hx
    rcases List.mem_append.1 hx with hx | hx
    · have := k.within x hx; show 0 ≤ x ∧ x < h + 1; omega
    · rw [List.mem_singleton] at hx
      subst hx
      have := k.n0
      show 0 ≤ x ∧ x < x + 1; omega
theorem addE_zero {t : Tb} (h : addE t = 0) : t.l.length < 16 ∧ t.n < 2147483647 := by
  unfold addE at h
  split at h
  · cases h
  · split at h
    · cases h
    · omega
theorem layE_zero {t : Tb} {x : Int} (h : layE t x = 0) : t.l.length < 16 ∧ t.n ≤ x ∧ x < 2147483647 := by
  unfold layE at h
  split at h
  · cases h
  · split at h
    · cases h
    · omega
theorem Tb.Ok.add {t : Tb} (k : t.Ok) (v : Int) : (addT t v).Ok := by
  unfold addT
  split
  · rename_i h
    have := addE_zero h
    exact k.put this.1 (Int.le_refl _) this.2
  · exact k
theorem Tb.Ok.lay {t : Tb} (k : t.Ok) (h v : Int) : (layT t h v).Ok := by
  unfold layT
  split
  · rename_i e
    have := layE_zero e
    exact k.put this.1 this.2.1 this.2.2
  · exact k
theorem Tb.Ok.goes {t : Tb} (k : t.Ok) (n : Int) : (goesT t n).Ok := by
  unfold goesT
  split
  · rename_i e
    unfold goesE at e
    split at e
    · cases e
    · have h0 := k.n0
      refine ⟨k.many, ?_, ?_, k.up, fun x hx => ?_⟩
      · show 0 ≤ n; omega
      · show n ≤ 2147483647; omega
      · have := k.within x hx
        show 0 ≤ x ∧ x < n; omega
  · exact k
theorem drop_h (t : Tb) (h : Int) : (dropT t h).h = t.h.filter (fun x => x != h) := by
  simp only [dropT, Tb.h, List.filter_map]
  rfl
theorem Tb.Ok.drop {t : Tb} (k : t.Ok) (h : Int) : (dropT t h).Ok := by
  refine ⟨Nat.le_trans (List.length_filter_le _ _) k.many, k.n0, k.n1, ?_, fun x hx => ?_⟩
  · rw [drop_h]; exact k.up.filter _
  · rw [drop_h] at hx
    exact k.within x (List.mem_filter.1 hx).1
theorem Tb.Ok.do {t : Tb} (k : t.Ok) (a : Ac) : (doT t a).Ok := by
  unfold doT
  split
  · exact k.add _
  · split
    · exact k.drop _
    · split
      · exact k.lay _ _
      · split
        · exact k.goes _
        · exact k
/-- Where a handle stands. -/
theorem cut_at {t : Tb} (k : t.Ok) {h : Int} (hm : hasT t h = true) : ∃ a v b, t.l = a ++ (h, v) :: b ∧ t.h.countP (fun x => decide (x < h)) = a.length ∧ (dropT t h).l = a ++ b ∧ getT t h = v := by
  have hm' : h ∈ t.h := by simpa [hasT] using hm
  obtain ⟨⟨x, v⟩, hx, rfl⟩ := List.mem_map.1 hm'
  obtain ⟨a, b, e⟩ := List.append_of_mem hx
  have up := k.up
  unfold Tb.h at up
  rw [e, List.map_append, List.map_cons, List.pairwise_append] at up
  obtain ⟨_, u2, u3⟩ := up
  rw [List.pairwise_cons] at u2
  have ha : ∀ p ∈ a, p.1 < x := fun p hp => u3 p.1 (List.mem_map_of_mem hp) x (by simp)
  have hb : ∀ p ∈ b, x < p.1 := fun p hp => u2.1 p.1 (List.mem_map_of_mem hp)
  refine ⟨a, v, b, e, ?_, ?_, ?_⟩
  · unfold Tb.h
    rw [e, List.map_append, List.map_cons, List.countP_append, List.countP_cons]
    have e1 : (a.map Prod.fst).countP (fun y => decide (y < x)) = a.length := by
      rw [List.countP_eq_length.2 (fun y hy => ?_), List.length_map]
      obtain ⟨p, hp, rfl⟩ := List.mem_map.1 hy
      exact decide_eq_true (ha p hp)
    have e2 : (b.map Prod.fst).countP (fun y => decide (y < x)) = 0 := by
      rw [List.countP_eq_zero]
      intro y hy
      obtain ⟨p, hp, rfl⟩ := List.mem_map.1 hy
      have := hb p hp
      simp; omega
    rw [e1, e2]; simp
  · show (t.l.filter _) = _
    rw [e, List.filter_append, List.filter_cons]
    have e1 : a.filter (fun p => p.1 != x) = a := List.filter_eq_self.2 fun p hp => by have := ha p hp; simp; omega
    have e2 : b.filter (fun p => p.1 != x) = b := List.filter_eq_self.2 fun p hp => by have := hb p hp; simp; omega
    rw [e1, e2]; simp
  · unfold getT
    rw [e, List.find?_append]
    have e1 : a.find? (fun p => p.1 == x) = none := List.find?_eq_none.2 fun p hp => by have := ha p hp; simp; omega
    rw [e1]; simp
theorem drop_none {t : Tb} {h : Int} (hm : hasT t h = false) : dropT t h = t := by
  have hm' : h ∉ t.h := by simpa [hasT] using hm
  have : t.l.filter (fun x => x.1 != h) = t.l := List.filter_eq_self.2 fun p hp => by
    have : p.1 ≠ h := fun e => hm' (e ▸ List.mem_map_of_mem hp)
    simpa using this
  unfold dropT
  rw [this]
theorem get_none {t : Tb} {h : Int} (hm : hasT t h = false) : getT t h = 0 := by
  have hm' : h ∉ t.h := by simpa [hasT] using hm
  have : t.l.find? (fun x => x.1 == h) = none := List.find?_eq_none.2 fun p hp => by
    have : p.1 ≠ h := fun e => hm' (e ▸ List.mem_map_of_mem hp)
    simpa using this
  unfold getT
  rw [this]
theorem up_le {t : Tb} (k : t.Ok) : (t.h.take t.l.length).Pairwise (· ≤ ·) := by
  rw [← t.h_len, List.take_length]
  exact k.up.imp fun h => Int.le_of_lt h
end Go.Proofs.Ytlimfgmmbkgeeaa
