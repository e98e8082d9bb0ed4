/-
  Lists of bools, where no massey is: a slice that holds them, a new row that is filled, one that grows; and the comparison of the document's answer. (Where massey is: import MsyF, MsyR, MsyT in its place.)
-/
import Derived.Test.YthohgleklcoglaaGfpTc
import Derived.Test.YthohgleklcoglaaGfdA
import Derived.Laws.OwnMore
namespace Go.Proofs.Ythohgleklcoglaa
open Go.RowKit G
set_option linter.unusedVariables false

/-- A slice (its address, its capacity) that holds these bools. -/
structure Brs (w : World) (A : Option Addr) (cap : Nat) (l : List Bool) : Prop where
  cap1 : l.length ≤ cap
  cap2 : cap ≤ 9223372036854775807
  cell : ∀ i, i < l.length → ∃ b o, A = some ⟨b, o, none⟩ ∧ w.cell? ⟨b, o + i, none⟩ = some (.bool (l.getD i false))
theorem Brs.below {w w' : World} {A : Option Addr} {cap : Nat} {l : List Bool} (h : Brs w A cap l) (hb : Below w.heap.size w w') : Brs w' A cap l :=
  ⟨h.cap1, h.cap2, fun i hi => by
    obtain ⟨b, o, e, hc⟩ := h.cell i hi
    exact ⟨b, o, e, (hb.cell (p := ⟨b, o + i, none⟩) (World.block_lt_of_cell? w _ hc)).trans hc⟩⟩
theorem Brs.nil (w : World) (A : Option Addr) (cap : Nat) (h : cap ≤ 9223372036854775807) : Brs w A cap [] := ⟨Nat.zero_le _, h, fun i hi => (by cases hi)⟩
theorem Brs.take {w : World} {A : Option Addr} {cap : Nat} {l : List Bool} (h : Brs w A cap l) (n : Nat) : Brs w A cap (l.take n) :=
  ⟨by rw [List.length_take]; exact Nat.le_trans (Nat.min_le_right _ _) h.cap1, h.cap2, fun i hi => by
    rw [List.length_take] at hi
    obtain ⟨b, o, e, hc⟩ := h.cell i (by omega)
    refine ⟨b, o, e, ?_⟩
    rw [hc]
    simp only [List.getD_eq_getElem?_getD, List.getElem?_take]
    rw [if_pos (by omega)]⟩
theorem getD_append_at (l : List Bool) (v : Bool) (i : Nat) : (l ++ [v]).getD i false = if i = l.length then v else l.getD i false := by
  simp only [List.getD_eq_getElem?_getD, List.getElem?_append]
  by_cases h : i < l.length
  · rw [if_pos h, if_neg (by omega)]
  · rw [if_neg h]
    by_cases h2 : i = l.length
    · subst h2; simp
    · rw [if_neg h2, List.getElem?_eq_none (by simp; omega), List.getElem?_eq_none (by omega)]
def BRow (w : World) (g n : Nat) (l : List Bool) : Prop := w.rowIs g 4 n (fun i => .bool (l.getD i false))
theorem BRow.full {w : World} {g n : Nat} {l : List Bool} (h : BRow w g n l) (hl : l.length = n) (hn : n ≤ 9223372036854775807) : Brs w (some ⟨g, 0, none⟩) n l :=
  ⟨by omega, hn, fun i hi => ⟨g, 0, rfl, by rw [Nat.zero_add]; exact World.rowIs.cell h (by omega)⟩⟩
theorem BRow.next {w : World} {g n : Nat} {l : List Bool} (h : BRow w g n l) (t : Nat) (v : Bool) (ht : l.length = t) : BRow (w.setCell ⟨g, t, none⟩ (.bool v)) g n (l ++ [v]) := by
  subst ht
  refine (World.rowIs.set h l.length (.bool v)).congr (fun i hi => ?_)
  show (if i = l.length then Value.bool v else .bool (l.getD i false)) = _
  rw [getD_append_at]
  split <;> rfl
theorem BRow.below {w w' : World} {g n : Nat} {l : List Bool} (h : BRow w g n l) (hb : Below w.heap.size w w') : BRow w' g n l := World.rowIs.of_block h (hb.block g (World.rowIs.lt h))
theorem BRow.drew {w : World} {g n : Nat} {l : List Bool} (h : BRow w g n l) (q : Nat) : BRow (w.drewN q) g n l := h
theorem infoB : (Try.prog.info? 4).map (fun i => (i.zero, i.size, i.bytes)) = some (some (.bool false), 1, 1) := by kernel_rfl
theorem infoB1 : (Try.prog.info? 4).map (·.size) = some 1 := by kernel_rfl
/-- Are two rows the same? -/
def sameB (a b : List Bool) : Bool := decide (a = b)
theorem sameB_false {us vs : List Bool} {k : Nat} (h : us.getD k false ≠ vs.getD k false) : sameB us vs = false := by
  unfold sameB; exact decide_eq_false (fun e => h (by rw [e]))
theorem sameB_true {us vs : List Bool} (hl : us.length = vs.length) (h : ∀ j, j < us.length → us.getD j false = vs.getD j false) : sameB us vs = true := by
  unfold sameB
  refine decide_eq_true (List.ext_getElem hl (fun i h1 h2 => ?_))
  have := h i h1
  simpa [List.getD_eq_getElem?_getD, List.getElem?_eq_getElem h1, List.getElem?_eq_getElem h2] using this
set_option maxRecDepth 100000 in
set_option maxHeartbeats 1000000 in
theorem sameLenB (A B : Option Addr) (ca cb n m : Nat) (hne : n ≠ m) (w : World) :
    Calls Try.prog 15 #[.slice A n ca, .slice B m cb] w (fun e w' => e = .returned (.bool false) ∧ ∃ n, w' = w.drewN n) := by
  have h1 : (n != m) = true := by simpa using hne
  have h2 : ((n : Int) != (m : Int)) = true := by simp; omega
  have h3 : (n == m) = false := by simpa using hne
  go_enter Try.func15, Try.ntmps15
  go_wp2
  go_ret
  exact ⟨rfl, 0, rfl⟩
set_option maxRecDepth 100000 in
set_option maxHeartbeats 1000000 in
theorem sameWalkB (A B : Option Addr) (ca cb n : Nat) (us vs : List Bool) (hu : us.length = n) (hv : vs.length = n) (hn : n ≤ 1000000) (w : World) (P : Brs w A ca us) (Q : Brs w B cb vs) :
    Calls Try.prog 15 #[.slice A n ca, .slice B n cb] w (fun e w' => e = .returned (.bool (sameB us vs)) ∧ ∃ n, w' = w.drewN n) := by
  have HP := Lib.hid P
  have HQ := Lib.hid Q
  have HU := Lib.hid hu
  have HV := Lib.hid hv
  clear P Q hu hv
  go_enter Try.func15, Try.ntmps15
  go_wp2_with fail
  go_loopw [5] (fun i wr => ∃ k q : Nat, k ≤ n ∧ i = .int .i64 k ∧ wr = w.drewN q ∧ Hid (∀ j, j < k → us.getD j false = vs.getD j false)) (fun i _ => n - (intOf i).toNat)
  case atStart => exact ⟨0, 0, by omega, rfl, rfl, Lib.hid (fun j hj => by omega)⟩
  case round =>
    obtain ⟨k, q, hk, rfl, rfl, hs⟩ := hrel
    by_cases hlt : k < n
    · have kl : (k : Int) < (n : Int) := by omega
      have k0 : (0 : Int) ≤ (k : Int) := by omega
      obtain ⟨b, o, rfl, q1⟩ := HP.out.cell k (by rw [HU.out]; exact hlt)
      obtain ⟨b', o', rfl, q2⟩ := HQ.out.cell k (by rw [HV.out]; exact hlt)
      by_cases he : us.getD k false = vs.getD k false
      · rw [← he] at q2
        have HE := Lib.hid he
        clear he
        generalize us.getD k false = y at q1 q2
        go_wp2_with fail
        go_quiet (fail)
        go_wp2_with fail
        go_roundw
        case rel => exact ⟨k + 1, _, by omega, by go_num, rfl, Lib.hid (fun j hj => by
          by_cases e : j = k
          · rw [e]; exact HE.out
          · exact hs.out j (by omega))⟩
        case measure => simp [intOf]; omega
      · have E := Lib.hid (sameB_false he)
        generalize us.getD k false = y at q1 he
        generalize vs.getD k false = z at q2 he
        cases y <;> cases z
        · exact (he rfl).elim
        · clear he
          go_wp2_with fail
          go_quiet (fail)
          go_wp2_with fail
          go_ret
          exact ⟨by rw [E.out]; rfl, _, World.drewN_drewN _ _ _⟩
        · clear he
          go_wp2_with fail
          go_quiet (fail)
          go_wp2_with fail
          go_ret
          exact ⟨by rw [E.out]; rfl, _, World.drewN_drewN _ _ _⟩
        · exact (he rfl).elim
    · have kl : ¬ ((k : Int) < (n : Int)) := by omega
      have E := Lib.hid (sameB_true (us := us) (vs := vs) (HU.out.trans HV.out.symm) (fun j hj => hs.out j (by rw [HU.out] at hj; omega)))
      go_wp2_with fail
      go_ret
      exact ⟨by rw [E.out]; rfl, q, rfl⟩
theorem gSameB {A B : Option Addr} {L K ca cb : Nat} {xs ys : List Bool} {w : World} (b : Bool) (P : Brs w A ca xs) (Q : Brs w B cb ys) (hL : xs.length = L) (hK : ys.length = K) (hb : sameB xs ys = b) (hl : L ≤ 1000000) :
    Calls Try.prog 15 #[.slice A L ca, .slice B K cb] w (Bl b w) := by
  subst hL hK hb
  by_cases h : xs.length = ys.length
  · rw [← h]
    exact (sameWalkB A B ca cb _ xs ys rfl h.symm hl w P Q).mono fun _ _ ⟨a, b⟩ => ⟨a, below_of_drawn b⟩
  · have e : sameB xs ys = false := decide_eq_false (fun e => h (by rw [e]))
    rw [e]
    exact (sameLenB A B ca cb _ _ h w).mono fun _ _ ⟨a, b⟩ => ⟨a, below_of_drawn b⟩

/-- A list of bools that grows: a slice of the call's own. -/
structure GrowB (w : World) (v : Value) (l : List Bool) (wr : World) : Prop where
  own : wr.ownsRow w.heap.size 4 1 v l.length (l.map Value.bool)
  below : Below w.heap.size w wr
theorem GrowB.start (w : World) : GrowB w (.slice (some ⟨w.heap.size, 0, none⟩) 0 0) [] (w.alloc (.cells #[] 4)) :=
  ⟨World.ownsRow_made w #[] 0 (Nat.le_refl _) (by decide) rfl, below_alloc (Below.refl _ _) _⟩
theorem GrowB.far {w wr w' : World} {v : Value} {l : List Bool} (h : GrowB w v l wr) (hb : Below wr.heap.size wr w') : GrowB w v l w' := ⟨owns_below h.own hb, below_then h.below hb⟩
theorem GrowB.step {w wr w' : World} {v v' : Value} {l k : List Bool} (h : GrowB w v l wr) (hown : w'.ownsRow w.heap.size 4 1 v' (l.length + k.length) (l.map Value.bool ++ k.map Value.bool)) (hg : wr.grownBy w' v.ownBlock) : GrowB w v' (l ++ k) w' :=
  ⟨by rw [List.length_append, List.map_append]; exact hown, h.below.grown hg h.below.size (fun j hj => (h.own.lt j hj).1)⟩
theorem GrowB.brs {w wr : World} {v : Value} {l : List Bool} (h : GrowB w v l wr) : ∃ A cap, v = .slice A l.length cap ∧ Brs wr A cap l := by
  have own := h.own
  obtain ⟨hl, h2⟩ := id own
  rcases h2 with ⟨rfl, hn⟩ | ⟨g, cap, cur, rfl, hg, hh, hc, hm, rest⟩
  · have e : l = [] := List.eq_nil_of_length_eq_zero hn
    subst e
    exact ⟨none, 0, rfl, Brs.nil _ _ _ (by omega)⟩
  · refine ⟨some ⟨g, 0, none⟩, cap, rfl, hc, hm, fun i hi => ⟨g, 0, rfl, ?_⟩⟩
    have := own.cells (g := g) rfl i (.bool (l.getD i false)) (by simp [List.getElem?_eq_getElem hi])
    rw [Addr.add_lit] at this
    exact this
theorem one_bools (l : List Bool) : ∀ u ∈ l.map Value.bool, u.oneCell' = true := by
  intro u hu
  obtain ⟨n, _, rfl⟩ := List.mem_map.1 hu
  rfl
theorem newsB {w : World} {a : Addr} {cap : Nat} {l : List Bool} (h : Brs w (some a) cap l) : ∀ (j : Nat) (u : Value), (l.map Value.bool)[j]? = some u → w.cell? (a.add j) = some u := by
  intro j u hu
  rw [List.getElem?_map] at hu
  by_cases hj : j < l.length
  · obtain ⟨b, o, ea, hc⟩ := h.cell j hj
    obtain rfl : a = ⟨b, o, none⟩ := by simpa using ea
    rw [Addr.add_lit, hc]
    rw [List.getElem?_eq_getElem hj] at hu
    simp only [Option.map_some, Option.some.injEq] at hu
    rw [← hu, List.getD_eq_getElem?_getD, List.getElem?_eq_getElem hj]; rfl
  · rw [List.getElem?_eq_none (by omega)] at hu; cases hu
theorem Brs.alloc {w : World} {A : Option Addr} {cap : Nat} {l : List Bool} (h : Brs w A cap l) (o : Obj) : Brs (w.alloc o) A cap l := h.below (below_alloc (Below.refl _ _) o)
/-- An answer that is a row of bits. -/
def AnsL (g : List Bool) (n : Nat) (w : World) (e : Ending) (w' : World) : Prop :=
  ∃ (A : Option Addr) (cap : Nat), e = .returned (.slice A n cap) ∧ Brs w' A cap g ∧ Below w.heap.size w w'
end Go.Proofs.Ythohgleklcoglaa
