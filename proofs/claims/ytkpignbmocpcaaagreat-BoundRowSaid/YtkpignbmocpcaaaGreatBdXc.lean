/-
  What the call Perm of package bound answers, where the statements' awake asks it.
-/
import Derived.Test.YtkpignbmocpcaaaGreatBdXb
namespace Go.Proofs.YtkpignbmocpcaaaGreat
open Go.RowKit
set_option linter.unusedVariables false
set_option maxRecDepth 100000

/-- A row of ints in a block. -/
def Ir (w : World) (g n : Nat) : Prop := ∃ l : List Int, l.length = n ∧ Blk 3 w g (l.map fun z : Int => Value.int .i64 z).toArray
theorem Ir.below {w w' : World} {g n : Nat} (h : Ir w g n) (hb : Below w.heap.size w w') : Ir w' g n := by
  obtain ⟨l, e, b⟩ := h
  exact ⟨l, e, b.below hb⟩
theorem Ir.only {w w' : World} {g n c : Nat} (h : Ir w g n) (ho : Only c w w') (hn : g ≠ c) : Ir w' g n := by
  obtain ⟨l, e, b⟩ := h
  exact ⟨l, e, b.only ho hn⟩
theorem Ir.lt {w : World} {g n : Nat} (h : Ir w g n) : g < w.heap.size := by
  obtain ⟨l, e, b⟩ := h
  exact b.lt
theorem Ir.cell {w : World} {g n : Nat} (h : Ir w g n) (i : Nat) (hi : i < n) : ∃ z : Int, w.cell? ⟨g, i, none⟩ = some (.int .i64 z) ∧ w.frozen? ⟨g, i, none⟩ = false := by
  obtain ⟨l, e, b⟩ := h
  exact ⟨l.getD i 0, b.cell i _ (by simp [List.getElem?_eq_getElem (show i < l.length by omega)]), b.free i⟩
theorem Ir.set {w : World} {g n : Nat} (h : Ir w g n) (i : Nat) (z : Int) : Ir (w.setCell ⟨g, i, none⟩ (.int .i64 z)) g n := by
  obtain ⟨l, e, b⟩ := h
  refine ⟨l.set i z, by rw [List.length_set]; exact e, ?_⟩
  have := b.set i (.int .i64 z)
  simpa [List.map_set] using this
theorem Ir.new (w : World) (n : Nat) : Ir (w.alloc (.cells (madeCells #[.int .i64 0] n) 3)) w.heap.size n := by
  refine ⟨List.replicate n 0, List.length_replicate, ?_⟩
  have e : madeCells #[.int .i64 0] n = ((List.replicate n (0 : Int)).map fun z : Int => Value.int .i64 z).toArray := by
    apply Array.toList_inj.1
    rw [toList_madeCells_one, List.map_replicate]
  rw [e]
  exact Blk.new _ _ _
theorem infoI : (Tryz.prog.info? 3).map (fun i => (i.zero, i.size, i.bytes)) = some (some (.int .i64 0), 1, 8) := by kernel_rfl
/-- What the first loop keeps: the row, and its first number. -/
structure Pr (w : World) (g n k : Nat) (wr : World) : Prop where
  r : Ir wr g n
  z : 0 < k → wr.cell? ⟨g, 0, none⟩ = some (.int .i64 0)
  b : Below w.heap.size w wr
  new : w.heap.size ≤ g
theorem Pr.start (w : World) (n : Nat) : Pr w w.heap.size n 0 (w.alloc (.cells (madeCells #[.int .i64 0] n) 3)) := ⟨Ir.new w n, fun h => absurd h (by decide), below_allocs _ _, Nat.le_refl _⟩
theorem cell_set {w : World} {g n i : Nat} {z : Int} (h : Ir w g n) (hi : i < n) : (w.setCell ⟨g, i, none⟩ (.int .i64 z)).cell? ⟨g, i, none⟩ = some (.int .i64 z) := by
  obtain ⟨l, e, b⟩ := h
  have c := (b.set i (.int .i64 z)).cell i (.int .i64 z) (by simp [e, hi])
  exact c
theorem cell_far {w : World} {g i j : Nat} {v : Value} (hij : i ≠ j) {u : Value} (h : w.cell? ⟨g, i, none⟩ = some u) : (w.setCell ⟨g, j, none⟩ v).cell? ⟨g, i, none⟩ = some u := by
  rw [← h]
  have hne : (⟨g, j, none⟩ : Addr) ≠ ⟨g, i, none⟩ := fun e => hij (by injection e with _ e2; exact e2.symm)
  first | exact World.cell?_setCell_other _ _ _ _ hne | exact World.cell?_setCell_other _ _ _ hne | exact World.cell?_setCell_other _ _ hne
theorem Pr.set {w wr : World} {g n k : Nat} (h : Pr w g n k wr) (hk : k < n) : Pr w g n (k + 1) (wr.setCell ⟨g, k, none⟩ (.int .i64 (k : Int))) := by
  refine ⟨h.r.set k _, fun _ => ?_, h.b.setCell h.new _, h.new⟩
  rcases Nat.eq_zero_or_pos k with rfl | h0
  · exact cell_set h.r hk
  · exact cell_far (by omega) (h.z h0)
theorem bPermLong (d : Nat) (w : World) : Calls Tryz.prog 15 #[.pointer (some ⟨d, 0, none⟩), .int .i64 257] w (fun e w' => e = .returned (.tuple #[.slice none 0 0, .int .i64 12]) ∧ Below w.heap.size w w') := by
  go_enter Tryz.func15, Tryz.ntmps15
  go_wp2
  go_returns
  exact ⟨rfl, Below.refl _ _⟩
set_option maxHeartbeats 4000000 in
theorem bPermOne' {n : Nat} (hn : n = 1) (d : Nat) (w : World) : Calls Tryz.prog 15 #[.pointer (some ⟨d, 0, none⟩), .int .i64 (n : Int)] w (fun e w' => ∃ (g cap : Nat), e = .returned (.tuple #[.slice (some ⟨g, 0, none⟩) n cap, .int .i64 0]) ∧ w'.cell? ⟨g, 0, none⟩ = some (.int .i64 0) ∧ Below w.heap.size w w') := by
  have hmk := run_make_row' (P := Tryz.prog) 45 3 (.int .i64 0) 8 Tryz.underlying45 infoI rfl .i64 .i64 n (by omega) (by omega)
  have h0 : ¬ (n : Int) < 0 := by omega
  have h1 : ¬ (n : Int) > 256 := by omega
  have n256 : n ≤ 256 := by omega
  have HN := Lib.hid hn
  clear hn
  go_enter Tryz.func15, Tryz.ntmps15
  go_wp2
  clear hmk h0 h1
  have F0 := Lib.hid (Pr.start w n)
  generalize w.alloc _ = W1 at F0 ⊢
  go_loopg [25] n (fun gk i wr => ∃ k : Nat, k + gk = n ∧ i = .int .i64 k ∧ Hid (Pr w w.heap.size n k wr))
  case atStart => exact ⟨0, by omega, rfl, F0⟩
  case round =>
    obtain ⟨k, hk, rfl, F⟩ := hrel
    clear F0
    by_cases hlt : k < n
    · have kl : (k : Int) < (n : Int) := by omega
      have k0 : (0 : Int) ≤ (k : Int) := by omega
      obtain ⟨z, c1, c2⟩ := F.out.r.cell k hlt
      have F2 := Lib.hid (F.out.set hlt)
      clear F
      go_wp2
      go_roundg (gk - 1)
      case measure => omega
      case rel => exact ⟨k + 1, by omega, by go_num, F2⟩
    · obtain rfl : k = n := by omega
      have kl : ¬ (k : Int) < (k : Int) := by omega
      have m1 : IntKind.i64.wrap ((k : Int) - 1) = 0 := by rw [HN.out]; rfl
      have HZ := Lib.hid (And.intro (F.out.z (by have := HN.out; omega)) F.out.b)
      clear F
      go_wp2
      go_loopg [8] 0 (fun gk i wv => i = .int .i64 0 ∧ wv = wr)
      case atStart => exact ⟨rfl, rfl⟩
      case round =>
        obtain ⟨rfl, rfl⟩ := hrel
        go_wp2
        go_returns
        exact ⟨_, _, rfl, HZ.out.1, HZ.out.2⟩
/-- What the second loop keeps. -/
structure Only2 (c : Nat) (w wr : World) : Prop where
  o : Only c w wr
theorem Only2.setNew {c : Nat} {w wr : World} (h : Only2 c w wr) {g : Nat} (hg : w.heap.size ≤ g) (i : Nat) (u : Value) : Only2 c w (wr.setCell ⟨g, i, none⟩ u) :=
  ⟨h.o.os, h.o.tape, h.o.output, by simpa [World.setCell] using h.o.size, fun b hb hn => (Below.heap_setCell wr ⟨g, i, none⟩ u b (by show b ≠ g; omega)).trans (h.o.block b hb hn)⟩
theorem Only2.trans {c : Nat} {w V w' : World} (h : Only2 c w V) (k : Only c V w') : Only2 c w w' := ⟨h.o.trans k⟩
set_option maxHeartbeats 4000000 in
theorem bPermFive' {n : Nat} (hn : n = 5) {d c nn f s : Nat} {w : World} (hS : Sm w d c nn f s (f + 1)) (hp : f + 8 ≤ 9223372036854775808) (hk : takenB N64 (mixN (stepN s)) 5 = true) : Calls Tryz.prog 15 #[.pointer (some ⟨d, 0, none⟩), .int .i64 (n : Int)] w (fun e w' => e = .returned (.tuple #[.slice none 0 0, .int .i64 7]) ∧ Sz w' d c (f + 1) (f + 1) ∧ Only c w w') := by
  have hmk := run_make_row' (P := Tryz.prog) 45 3 (.int .i64 0) 8 Tryz.underlying45 infoI rfl .i64 .i64 n (by omega) (by omega)
  have h0 : ¬ (n : Int) < 0 := by omega
  have h1 : ¬ (n : Int) > 256 := by omega
  have n256 : n ≤ 256 := by omega
  have HN := Lib.hid hn
  clear hn
  have HS := Lib.hid hS
  have HK := Lib.hid (And.intro hp hk)
  clear hS hp hk
  go_enter Tryz.func15, Tryz.ntmps15
  go_wp2
  clear hmk h0 h1
  have F0 := Lib.hid (Pr.start w n)
  generalize w.alloc _ = W1 at F0 ⊢
  go_loopg [25] n (fun gk i wr => ∃ k : Nat, k + gk = n ∧ i = .int .i64 k ∧ Hid (Pr w w.heap.size n k wr))
  case atStart => exact ⟨0, by omega, rfl, F0⟩
  case round =>
    obtain ⟨k, hk, rfl, F⟩ := hrel
    clear F0
    by_cases hlt : k < n
    · have kl : (k : Int) < (n : Int) := by omega
      have k0 : (0 : Int) ≤ (k : Int) := by omega
      obtain ⟨z, c1, c2⟩ := F.out.r.cell k hlt
      have F2 := Lib.hid (F.out.set hlt)
      clear F
      go_wp2
      go_roundg (gk - 1)
      case measure => omega
      case rel => exact ⟨k + 1, by omega, by go_num, F2⟩
    · obtain rfl : k = n := by omega
      have kl : ¬ (k : Int) < (k : Int) := by omega
      have m1 : IntKind.i64.wrap ((k : Int) - 1) = 4 := by rw [HN.out]; rfl
      have HP := Lib.hid F.out
      have R5 : Hid (Ir wr w.heap.size 5) := Lib.hid (by have := F.out.r; rwa [HN.out] at this)
      have hdg : d ≠ w.heap.size := Nat.ne_of_lt HS.out.b.lt
      have hcg : c ≠ w.heap.size := Nat.ne_of_lt HS.out.k.lt
      have hnew : w.heap.size ≤ w.heap.size := Nat.le_refl _
      have S0 := Lib.hid (HS.out.below F.out.b)
      have O0 : Hid (Only2 c w wr) := Lib.hid ⟨Only.of_below F.out.b⟩
      have h5 := HN.out
      clear F HS HP HN kl
      subst h5
      rw [show ((5 : Nat) : Int) = 5 from rfl] at m1 ⊢
      go_wp2
      clear m1
      go_loopg [8] 2 (fun gk i wv => (gk = 2 ∧ i = .int .i64 4 ∧ wv = wr) ∨ (gk = 1 ∧ i = .int .i64 3 ∧ Hid (Sz wv d c (f + 1) (f + 1) ∧ Ir wv w.heap.size 5 ∧ Only2 c w wv)))
      case atStart => exact Or.inl ⟨rfl, rfl, rfl⟩
      case round =>
        rcases hrel with ⟨rfl, rfl, rfl⟩ | ⟨rfl, rfl, K⟩
        · have CT := Lib.hid (bNextTake (b := 5) S0.out (Nat.lt_succ_self f) HK.out.1 (by have := HK.out.1; omega) (by decide) (by decide) HK.out.2)
          have hv : tellB N64 (mixN (stepN s)) 5 < 5 := tell_lt (mix_lt _) (by decide)
          generalize tellB N64 (mixN (stepN s)) 5 = v at CT hv
          go_wp2_with fail
          refine CT.out.mono ?_
          rintro e V ⟨rfl, hs, ho⟩
          have K3 : Hid (Sz V d c (f + 1) (f + 1) ∧ Ir V w.heap.size 5 ∧ Only2 c w V) := Lib.hid ⟨hs.z, R5.out.only ho (Ne.symm hcg), O0.out.trans ho⟩
          clear hs ho CT S0 R5 O0
          have hv5 : v = 0 ∨ v = 1 ∨ v = 2 ∨ v = 3 ∨ v = 4 := by omega
          clear hv
          rcases hv5 with rfl | rfl | rfl | rfl | rfl
          · obtain ⟨za, a1, a2⟩ := K3.out.2.1.cell 4 (by decide)
            obtain ⟨zb, b1, b2⟩ := K3.out.2.1.cell 0 (by decide)
            have S1 := Lib.hid ((K3.out.2.1.set 4 zb).set 0 za)
            have S2 := Lib.hid ((K3.out.1.far hdg hcg 4 (.int .i64 zb)).far hdg hcg 0 (.int .i64 za))
            have S3 := Lib.hid ((K3.out.2.2.setNew hnew 4 (.int .i64 zb)).setNew hnew 0 (.int .i64 za))
            clear K3
            go_wp2
            go_region
            go_wp2
            go_roundg 1
            case measure => omega
            case rel => exact Or.inr ⟨rfl, rfl, Lib.hid ⟨S2.out.below (below_drew _), S1.out.below (below_drew _), S3.out.trans (Only.of_below (below_drew _))⟩⟩
          · obtain ⟨za, a1, a2⟩ := K3.out.2.1.cell 4 (by decide)
            obtain ⟨zb, b1, b2⟩ := K3.out.2.1.cell 1 (by decide)
            have S1 := Lib.hid ((K3.out.2.1.set 4 zb).set 1 za)
            have S2 := Lib.hid ((K3.out.1.far hdg hcg 4 (.int .i64 zb)).far hdg hcg 1 (.int .i64 za))
            have S3 := Lib.hid ((K3.out.2.2.setNew hnew 4 (.int .i64 zb)).setNew hnew 1 (.int .i64 za))
            clear K3
            go_wp2
            go_region
            go_wp2
            go_roundg 1
            case measure => omega
            case rel => exact Or.inr ⟨rfl, rfl, Lib.hid ⟨S2.out.below (below_drew _), S1.out.below (below_drew _), S3.out.trans (Only.of_below (below_drew _))⟩⟩
          · obtain ⟨za, a1, a2⟩ := K3.out.2.1.cell 4 (by decide)
            obtain ⟨zb, b1, b2⟩ := K3.out.2.1.cell 2 (by decide)
            have S1 := Lib.hid ((K3.out.2.1.set 4 zb).set 2 za)
            have S2 := Lib.hid ((K3.out.1.far hdg hcg 4 (.int .i64 zb)).far hdg hcg 2 (.int .i64 za))
            have S3 := Lib.hid ((K3.out.2.2.setNew hnew 4 (.int .i64 zb)).setNew hnew 2 (.int .i64 za))
            clear K3
            go_wp2
            go_region
            go_wp2
            go_roundg 1
            case measure => omega
            case rel => exact Or.inr ⟨rfl, rfl, Lib.hid ⟨S2.out.below (below_drew _), S1.out.below (below_drew _), S3.out.trans (Only.of_below (below_drew _))⟩⟩
          · obtain ⟨za, a1, a2⟩ := K3.out.2.1.cell 4 (by decide)
            obtain ⟨zb, b1, b2⟩ := K3.out.2.1.cell 3 (by decide)
            have S1 := Lib.hid ((K3.out.2.1.set 4 zb).set 3 za)
            have S2 := Lib.hid ((K3.out.1.far hdg hcg 4 (.int .i64 zb)).far hdg hcg 3 (.int .i64 za))
            have S3 := Lib.hid ((K3.out.2.2.setNew hnew 4 (.int .i64 zb)).setNew hnew 3 (.int .i64 za))
            clear K3
            go_wp2
            go_region
            go_wp2
            go_roundg 1
            case measure => omega
            case rel => exact Or.inr ⟨rfl, rfl, Lib.hid ⟨S2.out.below (below_drew _), S1.out.below (below_drew _), S3.out.trans (Only.of_below (below_drew _))⟩⟩
          · obtain ⟨za, a1, a2⟩ := K3.out.2.1.cell 4 (by decide)
            have S1 := Lib.hid ((K3.out.2.1.set 4 za).set 4 za)
            have S2 := Lib.hid ((K3.out.1.far hdg hcg 4 (.int .i64 za)).far hdg hcg 4 (.int .i64 za))
            have S3 := Lib.hid ((K3.out.2.2.setNew hnew 4 (.int .i64 za)).setNew hnew 4 (.int .i64 za))
            clear K3
            go_wp2
            go_region
            go_wp2
            go_roundg 1
            case measure => omega
            case rel => exact Or.inr ⟨rfl, rfl, Lib.hid ⟨S2.out.below (below_drew _), S1.out.below (below_drew _), S3.out.trans (Only.of_below (below_drew _))⟩⟩
        · have CT := Lib.hid (bNextNone (b := 4) K.out.1 (by have := HK.out.1; omega) (by decide) (by decide))
          go_wp2_with fail
          refine CT.out.mono ?_
          rintro e V ⟨rfl, hb⟩
          have F := Lib.hid (And.intro (K.out.1.below hb) (K.out.2.2.o.trans (Only.of_below hb)))
          clear K hb CT
          go_wp2
          go_returns
          exact ⟨rfl, F.out.1, F.out.2⟩
end Go.Proofs.YtkpignbmocpcaaaGreat
