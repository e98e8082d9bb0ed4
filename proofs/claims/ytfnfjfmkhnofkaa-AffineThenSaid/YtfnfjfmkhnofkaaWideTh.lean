/-
  What Left of the reference of layer 1 answers.
-/
import Derived.Test.YtfnfjfmkhnofkaaWideTg
namespace Go.Proofs.Ytfnfjfmkhnofkaa.Wd
open Go.RowKit
set_option linter.unusedVariables false

theorem owns_cap {w : World} {base g n cap : Nat} {e : TypeId} {xs : List Value} (h : w.ownsRow base e 1 (.slice (some ⟨g, 0, none⟩) n cap) n xs) : n ≤ cap := by
  rcases h.2 with ⟨q, _⟩ | ⟨g', c', cur, q, _, _, hc, _⟩
  · cases q
  · injection q with _ _ q
    omega
/-- Behind k rounds: k zeros, and what else lies there. -/
structure LeftInv (w W0 : World) (n : Int) (k : Nat) (v : Value) (wr : World) : Prop where
  own : wr.ownsRow W0.heap.size 3 1 v k (List.replicate k (Value.int .i64 0))
  far : Below W0.heap.size W0 wr
theorem left_start (w W0 : World) (n : Int) : LeftInv w W0 n 0 (.slice (some ⟨W0.heap.size, 0, none⟩) 0 0) (W0.alloc (.cells #[] 3)) :=
  ⟨World.ownsRow_made W0 #[] 0 (Nat.le_refl _) (by decide) rfl, below_alloc (Below.refl _ _) _⟩
theorem left_step {w W0 : World} {n : Int} {k : Nat} {v v' : Value} {wr w1 : World} {o : Obj} (inv : LeftInv w W0 n k v wr)
    (hown' : w1.ownsRow W0.heap.size 3 1 v' (k + 1) (List.replicate k (Value.int .i64 0) ++ [.int .i64 0])) (hgrow : (wr.alloc o).grownBy w1 v.ownBlock) : LeftInv w W0 n (k + 1) v' w1 := by
  refine ⟨?_, (below_alloc inv.far o).grown hgrow (by have := inv.far.size; simp; omega) (fun j hj => (inv.own.lt j hj).1)⟩
  rw [List.replicate_succ']
  exact hown'

theorem rOfAs (b off cap : Nat) (xs : List Int) (hb : AreBits xs) (L : Nat) (hl : xs.length = L ∧ L ≤ 1000) (w : World) (hlt : b < w.heap.size) (hc : Ints w b off xs) :
    Calls Try.prog 39 #[.slice (some ⟨b, off, none⟩) L cap] w (N1 (md (leB xs)) w) := by
  obtain ⟨rfl, h2⟩ := hl
  exact rOfN b off cap xs hb h2 w hlt hc
theorem left_list (k : Nat) (xs : List Int) (bx : AreBits xs) (lx : xs.length = 128) {w : World} {base g n cap : Nat} (h : w.ownsRow base 3 1 (.slice (some ⟨g, 0, none⟩) n cap) n (List.replicate k (Value.int .i64 0) ++ xs.map (Value.int .i64))) :
    AreBits ((List.replicate k 0 ++ xs).take 128) ∧ (((List.replicate k 0 ++ xs).take 128).length = 128 ∧ 128 ≤ 1000) ∧ Ints w g 0 ((List.replicate k 0 ++ xs).take 128) := by
  have hm : List.replicate k (Value.int .i64 0) ++ xs.map (Value.int .i64) = (List.replicate k (0 : Int) ++ xs).map (Value.int .i64) := by rw [List.map_append, List.map_replicate]
  rw [hm] at h
  refine ⟨AreBits.take (fun x hx => ?_) _, ⟨?_, by omega⟩, fun i hi => ?_⟩
  · rcases List.mem_append.1 hx with q | q
    · have := List.eq_of_mem_replicate q; omega
    · exact bx x q
  · rw [List.length_take, List.length_append, lx]; omega
  · have hi2 : i < 128 := by rw [List.length_take] at hi; omega
    have hi3 : i < (List.replicate k (0 : Int) ++ xs).length := by rw [List.length_append, lx]; omega
    rw [ints_of_owns h i hi3]
    simp [hi2]

set_option maxRecDepth 100000 in
set_option maxHeartbeats 2000000 in
theorem rLeftIn (n : Int) (xs : List Int) (hx : Hid (bits128 n = xs)) (bx : Hid (AreBits xs)) (lx : Hid (xs.length = 128)) (m : Int) (K : Nat) (hK : K ≤ 128)
    (yes : ∀ k : Nat, k < K → (decide ((k : Int) < m) = true ∧ decide ((k : Int) < 128) = true)) (no : decide ((K : Int) < m) = false ∨ (decide ((K : Int) < m) = true ∧ decide ((K : Int) < 128) = false)) (h : Rng n) (w : World) :
    Calls Try.prog 28 #[.agg #[.int .u64 (hi n), .int .u64 (lo n)], .int .i64 m] w (N1 (md (leB ((List.replicate K 0 ++ xs).take 128))) w) := by
  obtain ⟨i0, hi0', hz0, hz1, hz2⟩ := info_parts infoInt
  have HI := Lib.hid hi0'
  have HZ0 := Lib.hid hz0
  have HZ1 := Lib.hid hz1
  have HZ2 := Lib.hid hz2
  have YES := Lib.hid yes
  have NO := Lib.hid no
  clear hi0' hz0 hz1 hz2 yes no
  go_enter Try.func28, Try.ntmps28
  go_wp2_with fail
  have st := left_start w ((w.alloc (.cells #[.int .u64 (hi n), .int .u64 (lo n)] 31)).alloc (.cells #[.int .u64 0, .int .u64 0] 31)) n
  have KA := (Has.fresh w (hi n) (lo n) 31).alloc (.cells #[.int .u64 0, .int .u64 0] 31)
  have KR := Own.fresh (w.alloc (.cells #[.int .u64 (hi n), .int .u64 (lo n)] 31)) (.int .u64 0) (.int .u64 0) 31
  have hB : Below w.heap.size w ((w.alloc (.cells #[.int .u64 (hi n), .int .u64 (lo n)] 31)).alloc (.cells #[.int .u64 0, .int .u64 0] 31)) := by go_grown
  have hs : ((w.alloc (.cells #[.int .u64 (hi n), .int .u64 (lo n)] 31)).alloc (.cells #[.int .u64 0, .int .u64 0] 31)).heap.size = w.heap.size + 1 + 1 := by simp
  simp only [World.size_alloc] at KR
  generalize hW0 : (w.alloc (.cells #[.int .u64 (hi n), .int .u64 (lo n)] 31)).alloc (.cells #[.int .u64 0, .int .u64 0] 31) = W0 at st KA KR hB hs ⊢
  clear hW0
  rw [hs] at st
  have HS := Lib.hid hs
  clear hs
  have ST := Lib.hid st
  clear st
  go_loopw [5, 6] (fun v i wr => ∃ k : Nat, k ≤ K ∧ i = .int .i64 k ∧ LeftInv w W0 n k v wr) (fun _ i _ => K - (intOf i).toNat)
  case atStart => exact ⟨0, by omega, rfl, ST.out⟩
  case round =>
    obtain ⟨k, hk, rfl, inv⟩ := hrel
    have INV := Lib.hid inv
    have hsz := inv.far.size
    clear inv
    by_cases hlt : k < K
    · obtain ⟨y1, y2⟩ := YES.out k hlt
      go_wp2_with (at_builtin; refine wpList_append_own _ rfl _ _ 62 rfl W0.heap.size 3 i0 (.int .i64 0) 1 8 Try.underlying62 HI.out HZ0.out HZ1.out HZ2.out rfl (by decide) _ _ _ rfl (INV.out.own.alloc _) ⟨wr.heap.size, 0, none⟩ 1 1 [.int .i64 0] rfl rfl ?c1 ?c2 ?c3 ?c4 ?c5 ?_)
      case c1 => exact new1 wr _ _
      case c2 => simp [Value.oneCell']
      case c3 => unfold maxLen; omega
      case c4 => omega
      case c5 => simp; omega
      intro v' w1 hown' hgrow _
      have INV' := Lib.hid (left_step INV.out hown' hgrow)
      clear hown' hgrow
      go_wp2
      go_roundw
      case rel => exact ⟨k + 1, by omega, by go_num, INV'.out⟩
      case measure => simp [intOf]; omega
    · obtain rfl : k = K := by omega
      have KAr := KA.below INV.out.far
      have KRr := KR.below INV.out.far
      obtain ⟨sa, ca0, ca1⟩ := id KAr
      have hBr := below_then hB INV.out.far
      rcases NO.out with q | ⟨q, q2⟩
      all_goals
        go_wp2_with fail
        refine (rListN n xs hx.out h _).mono ?_
        rintro e w1 ⟨g, cap, rfl, l1, l2, l3, own, hb⟩
        have l4 : xs.length = 128 := lx.out
        have OWN0 := Lib.hid (owns_below INV.out.own hb)
        have OWN := Lib.hid own
        have hX := below_then INV.out.far hb
        have sx := hX.size
        have c3 : k + xs.length ≤ maxLen := by unfold maxLen; omega
        have c4 : (k + xs.length) * 8 ≤ 140737488355328 := by omega
        have c5 : 0 < xs.length := by omega
        have c6 : 128 ≤ k + xs.length := by omega
        clear own hb l4 sa ca0 ca1 KAr KRr hBr
        go_wp2_with (at_builtin; refine wpList_append_lies _ rfl _ _ 62 rfl W0.heap.size 3 i0 (.int .i64 0) 1 8 Try.underlying62 HI.out HZ0.out HZ1.out HZ2.out rfl (by decide) _ _ _ rfl OWN0.out ⟨g, 0, none⟩ xs.length cap (xs.map (Value.int .i64)) rfl (by simp) (OWN.out.cells rfl) (one_cells xs) c5 c3 c4 sx w1.heap.size rfl ?_; intro gg cap' w2 hown2 hgrow hat hlt2; have cc := owns_cap hown2; have OWN2 := Lib.hid hown2; have GR := Lib.hid hgrow; clear hown2 hgrow hat)
        have hY := hX.grown GR.out sx (fun j hj => (OWN0.out.lt j hj).1)
        obtain ⟨i1, i2, i3⟩ := left_list k xs bx.out lx.out OWN2.out
        refine (rOfAs gg 0 cap' _ i1 128 i2 w2 hlt2 i3).mono ?_
        rintro e w3 ⟨rfl, hb⟩
        have hZ := below_then hY hb
        obtain ⟨z0, c0, c1, f0, f1⟩ := KR.below hZ
        have hBz := below_then hB hZ
        clear hb i1 i2 i3 hX hY hZ sx c3 c4 c5 c6 l1 l2 l3 cc hlt2
        generalize hz : md (leB ((List.replicate k 0 ++ xs).take 128)) = z
        have HZ := Lib.hid hz
        clear hz
        go_wp2
        refine bodyPost_ret (v := .agg #[.int .u64 (hi z), .int .u64 (lo z)]) (by simp [results, Try.results28, go_sem, c0, c1]) rfl ⟨by rw [HZ.out], ?_⟩
        go_grown
end Go.Proofs.Ytfnfjfmkhnofkaa.Wd
