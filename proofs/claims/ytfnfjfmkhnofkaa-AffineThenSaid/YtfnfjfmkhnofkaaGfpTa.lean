/-
  Lists of bits as the reference of layer 2 keeps them; what its calls At and Trim, and Bits and Word of the reference of layer 1, answer.
-/
import Derived.Test.YtfnfjfmkhnofkaaGfpI
import Derived.Test.YtfnfjfmkhnofkaaGfpN
import Derived.Laws.OwnMore
namespace Go.Proofs.Ytfnfjfmkhnofkaa
open Go.RowKit G
set_option linter.unusedVariables false

/-- A slice of ints that holds these bits. -/
structure Lst (w : World) (A : Option Addr) (cap : Nat) (xs : List Nat) : Prop where
  bit : Bts xs
  cap1 : xs.length ≤ cap
  cap2 : cap ≤ 9223372036854775807
  cell : ∀ i, i < xs.length → ∃ b o, A = some ⟨b, o, none⟩ ∧ w.cell? ⟨b, o + i, none⟩ = some (.int .i64 ((xs.getD i 0 : Nat) : Int))
theorem Lst.below {w w' : World} {A : Option Addr} {cap : Nat} {xs : List Nat} (h : Lst w A cap xs) (hb : Below w.heap.size w w') : Lst w' A cap xs :=
  ⟨h.bit, h.cap1, h.cap2, fun i hi => by
    obtain ⟨b, o, e, hc⟩ := h.cell i hi
    exact ⟨b, o, e, (hb.cell (p := ⟨b, o + i, none⟩) (World.block_lt_of_cell? w _ hc)).trans hc⟩⟩
theorem Lst.alloc {w : World} {A : Option Addr} {cap : Nat} {xs : List Nat} (h : Lst w A cap xs) (o : Obj) : Lst (w.alloc o) A cap xs := h.below (below_alloc (Below.refl _ _) o)
theorem Lst.nil (w : World) (A : Option Addr) (cap : Nat) (h : cap ≤ 9223372036854775807) : Lst w A cap [] := ⟨fun x hx => (by cases hx), Nat.zero_le _, h, fun i hi => (by cases hi)⟩
theorem infoI : (Try.prog.info? 3).map (fun i => (i.zero, i.size, i.bytes)) = some (some (.int .i64 0), 1, 8) := by kernel_rfl
abbrev ints (xs : List Nat) : List Value := xs.map fun x : Nat => Value.int .i64 (x : Int)
theorem one_ints (xs : List Nat) : ∀ u ∈ ints xs, u.oneCell' = true := by
  intro u hu
  obtain ⟨n, _, rfl⟩ := List.mem_map.1 hu
  rfl
/-- A list that grows: a slice of the call's own. -/
structure Grow (w : World) (v : Value) (xs : List Nat) (wr : World) : Prop where
  own : wr.ownsRow w.heap.size 3 1 v xs.length (ints xs)
  bit : Bts xs
  below : Below w.heap.size w wr
theorem Grow.start (w : World) : Grow w (.slice (some ⟨w.heap.size, 0, none⟩) 0 0) [] (w.alloc (.cells #[] 3)) :=
  ⟨World.ownsRow_made w #[] 0 (Nat.le_refl _) (by decide) rfl, fun x hx => (by cases hx), below_alloc (Below.refl _ _) _⟩
theorem owns_below {w w' : World} {base : Nat} {e : TypeId} {size : Nat} {v : Value} {n : Nat} {xs : List Value} (h : w.ownsRow base e size v n xs) (hb : Below w.heap.size w w') : w'.ownsRow base e size v n xs := by
  refine ⟨h.1, ?_⟩
  rcases h.2 with hn | ⟨g, cap, cur, rfl, hg, hh, rest⟩
  · exact .inl hn
  · exact .inr ⟨g, cap, cur, rfl, hg, by rw [hb.block g (Array.getElem?_eq_some_iff.1 hh).1]; exact hh, rest⟩
theorem Grow.far {w wr w' : World} {v : Value} {xs : List Nat} (h : Grow w v xs wr) (hb : Below wr.heap.size wr w') : Grow w v xs w' := ⟨owns_below h.own hb, h.bit, below_then h.below hb⟩
theorem Grow.step {w wr w' : World} {v v' : Value} {xs ys : List Nat} (h : Grow w v xs wr) (hy : Bts ys) (hown : w'.ownsRow w.heap.size 3 1 v' (xs.length + ys.length) (ints xs ++ ints ys)) (hg : wr.grownBy w' v.ownBlock) : Grow w v' (xs ++ ys) w' :=
  ⟨by rw [List.length_append, ints, List.map_append]; exact hown, h.bit.append hy, h.below.grown hg h.below.size (fun j hj => (h.own.lt j hj).1)⟩
theorem Grow.lst {w wr : World} {v : Value} {xs : List Nat} (h : Grow w v xs wr) : ∃ A cap, v = .slice A xs.length cap ∧ Lst wr A cap xs := by
  have own := h.own
  obtain ⟨hl, h2⟩ := id own
  rcases h2 with ⟨rfl, hn⟩ | ⟨g, cap, cur, rfl, hg, hh, hc, hm, rest⟩
  · have e : xs = [] := List.eq_nil_of_length_eq_zero hn
    subst e
    exact ⟨none, 0, rfl, Lst.nil _ _ _ (by omega)⟩
  · refine ⟨some ⟨g, 0, none⟩, cap, rfl, h.bit, hc, hm, fun i hi => ⟨g, 0, rfl, ?_⟩⟩
    have := own.cells (g := g) rfl i (.int .i64 ((xs.getD i 0 : Nat) : Int)) (by simp [List.getElem?_eq_getElem hi])
    rw [Addr.add_lit] at this
    exact this
theorem Lst.news {w : World} {a : Addr} {cap : Nat} {xs : List Nat} (h : Lst w (some a) cap xs) (n : Nat) : ∀ (j : Nat) (u : Value), (ints (xs.take n))[j]? = some u → w.cell? (a.add j) = some u := by
  intro j u hu
  rw [List.getElem?_map] at hu
  cases hy : (xs.take n)[j]? with
  | none => rw [hy] at hu; cases hu
  | some y =>
    rw [hy] at hu
    obtain rfl : Value.int .i64 (y : Int) = u := by simpa using hu
    obtain ⟨hj, hyy⟩ := List.getElem?_eq_some_iff.1 hy
    rw [List.length_take] at hj
    obtain ⟨b, o, ea, hc⟩ := h.cell j (by omega)
    obtain rfl : a = ⟨b, o, none⟩ := by simpa using ea
    rw [Addr.add_lit, hc]
    have : (xs.take n)[j]? = xs[j]? := by rw [List.getElem?_take]; split; rfl; omega
    rw [hy] at this
    rw [List.getD_eq_getElem?_getD, ← this]; rfl
theorem new1 (wr : World) (x : Value) (t : TypeId) : ∀ (j : Nat) (u : Value), [x][j]? = some u → (wr.alloc (.cells #[x] t)).cell? ((⟨wr.heap.size, 0, none⟩ : Addr).add j) = some u := by
  intro j u h
  cases j with
  | zero => simp at h; subst h; simp [Addr.add]
  | succ j => simp at h
/-- An answer that is the bits of a number, in a list of its own. -/
def AnsB (xs : List Nat) (w : World) (e : Ending) (w' : World) : Prop :=
  ∃ (A : Option Addr) (cap : Nat), e = .returned (.slice A xs.length cap) ∧ Lst w' A cap xs ∧ Below w.heap.size w w'
theorem Grow.ans {w wr : World} {v : Value} {xs : List Nat} (h : Grow w v xs wr) : AnsB xs w (.returned v) wr := by
  obtain ⟨A, c, rfl, l⟩ := h.lst
  exact ⟨A, c, rfl, l, h.below⟩

set_option maxHeartbeats 1000000 in
theorem rBitsG (n : Nat) (hn : n < 18446744073709551616) (w : World) :
    Calls Try.prog 40 #[.int .u64 (n : Int)] w (fun e w' => ∃ v, e = .returned v ∧ Grow w v (bitsK 64 n) w') := by
  obtain ⟨i0, hi, hz0, hz1, hz2⟩ := info_parts infoI
  have HI := Lib.hid hi
  have HZ0 := Lib.hid hz0
  have HZ1 := Lib.hid hz1
  have HZ2 := Lib.hid hz2
  clear hi hz0 hz1 hz2
  go_enter Try.func40, Try.ntmps40
  go_wp2
  go_loopg [3, 0, 4] 64 (fun g v u i wr => ∃ k m : Nat, k + g = 64 ∧ i = .int .i64 k ∧ u = .int .u64 (m : Int) ∧ Hid (m = n / 2 ^ k) ∧ m < 18446744073709551616 ∧ Hid (Grow w v (bitsK k n) wr))
  case atStart => exact ⟨0, n, by omega, rfl, rfl, Lib.hid (by simp), hn, Lib.hid (Grow.start w)⟩
  case round =>
    obtain ⟨k, m, hk, rfl, rfl, HM, m1, G⟩ := hrel
    by_cases hlt : k < 64
    · have hlt' : (k : Int) < 64 := by omega
      have sz := G.out.below.size
      go_wp2_with (at_builtin; refine wpList_append_own _ rfl _ _ 62 rfl w.heap.size 3 i0 (.int .i64 0) 1 8 Try.underlying62 HI.out HZ0.out HZ1.out HZ2.out rfl (by decide) _ _ _ rfl (G.out.own.alloc _) ⟨wr.heap.size, 0, none⟩ 1 1 [.int .i64 ((m % 2 : Nat) : Int)] rfl rfl ?c1 ?c2 ?c3 ?c4 ?c5 ?_)
      case c1 => exact new1 wr _ _
      case c2 => simp [Value.oneCell']
      case c3 => rw [bitsK_length]; unfold maxLen; omega
      case c4 => rw [bitsK_length]; omega
      case c5 => simp; omega
      intro v' w1 hown hgrow _
      have G1 := Lib.hid ((G.out.far (w' := wr.alloc _) (below_alloc (Below.refl _ _) (.cells #[.int .i64 ((m % 2 : Nat) : Int)] 3))).step (ys := [m % 2]) (fun x hx => by rw [List.mem_singleton.1 hx]; omega) (by simpa using hown) hgrow)
      rw [HM.out, ← bitsK_succ] at G1
      clear hown hgrow
      go_wp2
      go_roundg (gk - 1)
      case measure => omega
      case rel => exact ⟨k + 1, m / 2, by omega, by go_num, by simp, Lib.hid (by rw [HM.out, Nat.pow_succ, Nat.div_div_eq_div_mul]), by omega, G1⟩
    · obtain rfl : k = 64 := by omega
      go_wp2
      go_ret
      exact ⟨_, rfl, G.out⟩
theorem rBits (n : Nat) (hn : n < 18446744073709551616) (w : World) :
    Calls Try.prog 40 #[.int .u64 (n : Int)] w (AnsB (bitsK 64 n) w) :=
  (rBitsG n hn w).mono fun _ _ ⟨_, e, G⟩ => by rw [e]; exact G.ans
end Go.Proofs.Ytfnfjfmkhnofkaa
