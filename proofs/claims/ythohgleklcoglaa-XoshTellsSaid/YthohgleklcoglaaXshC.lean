/-
  What the call Bits of package xosh answers, for all states and numbers.
-/
import Derived.Test.YthohgleklcoglaaXshB
namespace Go.Proofs.Ythohgleklcoglaa
open Go.RowKit G
set_option linter.unusedVariables false

theorem bit_and {s : St} {m : Nat} (h : s.Ok) (hm : s.a % 2 = m) : bits .and .u64 (s.a : Int) 1 = (m : Int) := by
  have := u64_and_nat s.a 1 h.a (by decide)
  rw [Nat.and_one_is_mod, hm] at this
  exact this
/-- No bits, and why. -/
def NoB (n : Int) (w : World) (e : Ending) (w' : World) : Prop := e = .returned (.tuple #[.slice none 0 0, .int .i64 n]) ∧ Below w.heap.size w w'
/-- The answer of Bits: a list, and OK. -/
def AnsBS (l : List Bool) (w : World) (e : Ending) (w' : World) : Prop := ∃ (A : Option Addr) (cap : Nat), e = .returned (.tuple #[.slice A l.length cap, .int .i64 0]) ∧ Brs w' A cap l ∧ Below w.heap.size w w'
theorem bitsArg (s : St) (many : Int) (h : many < 0 ∨ 2048 < many) (w : World) : Calls Try.prog 14 #[s.val, .int .i64 many] w (NoB 1 w) := by
  obtain ⟨a, b, c, d⟩ := s
  go_enter Try.func14, Try.ntmps14
  by_cases h0 : many < 0
  · clear h
    go_wp2
    go_returns
    exact ⟨rfl, below_alloc (Below.refl _ _) _⟩
  · have h1 : many > 2048 := by omega
    clear h
    go_wp2
    go_returns
    exact ⟨rfl, below_alloc (Below.refl _ _) _⟩
set_option maxHeartbeats 4000000 in
theorem bitsYesW (q : St) (a b c d n : Nat) (hq : Hid (q = ⟨a, b, c, d⟩)) (hs : Hid (∀ k, (iterS q k).Ok)) (hn : n ≤ 2048) (w : World) : Calls Try.prog 14 #[.agg #[.int .u64 (a : Int), .int .u64 (b : Int), .int .u64 (c : Int), .int .u64 (d : Int)], .int .i64 n] w (AnsBS (bitsS q n) w) := by
  have CF : Hid (∀ w, Calls Try.prog 21 #[.agg #[.int .u64 (a : Int), .int .u64 (b : Int), .int .u64 (c : Int), .int .u64 (d : Int)]] w (fun e w' => e = .returned (.func (.func 23) #[] #[.pointer (some ⟨w.heap.size, 0, none⟩)]) ∧ Bx 24 w' w.heap.size q ∧ Below w.heap.size w w')) := Lib.hid (fun w => by rw [hq.out]; exact cFrom ⟨a, b, c, d⟩ w)
  have HN := Lib.hid (fun k => cNext (iterS q k) (hs.out k))
  have hmk := run_make_row' (P := Try.prog) 32 4 (.bool false) 1 Try.underlying32 infoB rfl .i64 .i64 n (by omega) (by omega)
  have n0 : ¬ (n : Int) < 0 := by omega
  have n1 : ¬ (n : Int) > 2048 := by omega
  clear hq
  have B1 := Bx.new w ⟨a, b, c, d⟩ 24
  have L1 := below_alloc (Below.refl w.heap.size w) (.cells #[.int .u64 (a : Int), .int .u64 (b : Int), .int .u64 (c : Int), .int .u64 (d : Int)] 24)
  change Bx _ (w.alloc (.cells #[.int .u64 (a : Int), .int .u64 (b : Int), .int .u64 (c : Int), .int .u64 (d : Int)] 24)) _ _ at B1
  have HB := Lib.hid (And.intro B1 L1)
  clear B1 L1
  go_enter Try.func14, Try.ntmps14
  go_wp2_with fail
  generalize hW : w.alloc _ = w1 at HB ⊢
  clear hW
  obtain ⟨p0, p1, p2, p3⟩ := HB.out.1.cells
  have lt := HB.out.1.lt
  go_cut [6, 7] (CutK w1 n 4 q (fB []))
  case first =>
    go_region_with (go_at_call 21; (with_reducible refine (CF.out _).mono ?_); rintro e x1 ⟨rfl, BX, hb⟩; have HX := Lib.hid (And.intro BX hb); clear BX hb)
    all_goals
      go_wp2_with fail
      go_meet
      first
        | exact CutK.first (W := w1.drew) (.bool false) (fun _ _ => rfl) (Below.refl _ _).drew (Nat.le_refl _) HX.out.1 HX.out.2
        | exact CutK.last (W := w1) (.bool false) (fun _ _ => rfl) (Below.refl _ _) HX.out.1 (below_undrew HX.out.2)
  obtain ⟨bB, g, rfl, rfl, K⟩ := hcut
  have HK := Lib.hid K
  clear K p0 p1 p2 p3 lt
  go_wp2_with fail
  go_loopg [21] n (fun g' i wr => ∃ k : Nat, k + g' = n ∧ i = .int .i64 k ∧ Hid (KSt w1 bB g n 4 (iterS q k) (fB (bitsS q k)) wr))
  case atStart => exact ⟨0, by omega, rfl, HK⟩
  case round =>
    obtain ⟨k, hk, rfl, K⟩ := hrel
    clear HK
    by_cases hlt : k < n
    · have kl : (k : Int) < (n : Int) := by omega
      have k0 : (0 : Int) ≤ (k : Int) := by omega
      rcases Nat.mod_two_eq_zero_or_one (iterS q k).a with hm | hm
      · skip
        have C1 := Lib.hid (HN.out k bB wr K.out.bx)
        have hl := bitsS_len q k
        have E1 := Lib.hid (show bitsS q (k + 1) = bitsS q k ++ [bitS (iterS q k)] from rfl)
        have E2 := Lib.hid (show iterS q (k + 1) = stepS (iterS q k) from rfl)
        have hx : bitS (iterS q k) = false := by unfold bitS; rw [hm]; rfl
        rw [hx] at E1
        have e0 := bit_and (hs.out k) hm
        clear hx hm
        generalize iterS q k = S at C1 E2 K e0
        generalize bitsS q k = us at K hl E1
        generalize stepS S = S' at C1 E2
        obtain ⟨i0, i1, i2, i3⟩ := S
        go_wp2_with fail
        refine (C1.out).mono ?_
        rintro e w2 ⟨rfl, bx2, hb2⟩
        have K3 := Lib.hid (K.out.next bx2 hb2)
        clear bx2 hb2 C1 K
        have I0 := (idx (i0 : Int) i1 i2 i3 w2).1.1
        have c1 := World.rowIs.cell K3.out.row hlt
        have c2 := World.rowIs.frozen K3.out.row k
        have K4 := Lib.hid (K3.out.set k (.bool false) (fun j _ => fB_next us false k hl j))
        clear K3
        generalize fB us k = old at c1
        go_wp2_with fail
        go_roundg (gk - 1)
        case measure => omega
        case rel => exact ⟨k + 1, by omega, by go_num, by rw [E1.out, E2.out]; exact K4⟩
      · skip
        have C1 := Lib.hid (HN.out k bB wr K.out.bx)
        have hl := bitsS_len q k
        have E1 := Lib.hid (show bitsS q (k + 1) = bitsS q k ++ [bitS (iterS q k)] from rfl)
        have E2 := Lib.hid (show iterS q (k + 1) = stepS (iterS q k) from rfl)
        have hx : bitS (iterS q k) = true := by unfold bitS; rw [hm]; rfl
        rw [hx] at E1
        have e0 := bit_and (hs.out k) hm
        clear hx hm
        generalize iterS q k = S at C1 E2 K e0
        generalize bitsS q k = us at K hl E1
        generalize stepS S = S' at C1 E2
        obtain ⟨i0, i1, i2, i3⟩ := S
        go_wp2_with fail
        refine (C1.out).mono ?_
        rintro e w2 ⟨rfl, bx2, hb2⟩
        have K3 := Lib.hid (K.out.next bx2 hb2)
        clear bx2 hb2 C1 K
        have I0 := (idx (i0 : Int) i1 i2 i3 w2).1.1
        have c1 := World.rowIs.cell K3.out.row hlt
        have c2 := World.rowIs.frozen K3.out.row k
        have K4 := Lib.hid (K3.out.set k (.bool true) (fun j _ => fB_next us true k hl j))
        clear K3
        generalize fB us k = old at c1
        go_wp2_with fail
        go_roundg (gk - 1)
        case measure => omega
        case rel => exact ⟨k + 1, by omega, by go_num, by rw [E1.out, E2.out]; exact K4⟩
    · obtain rfl : k = n := by omega
      have kl : ¬ (k : Int) < (k : Int) := by omega
      have hl := bitsS_len q k
      go_wp2_with fail
      go_returns
      refine ⟨some ⟨g, 0, none⟩, k, by rw [hl]; rfl, K.out.brs hl (by omega), below_then HB.out.2 K.out.below⟩
theorem bitsYes (s : St) (hs : s.Ok) (n : Nat) (hn : n ≤ 2048) (w : World) : Calls Try.prog 14 #[s.val, .int .i64 n] w (AnsBS (bitsS s n) w) := by
  obtain ⟨a, b, c, d⟩ := s
  exact bitsYesW ⟨a, b, c, d⟩ a b c d n (Lib.hid rfl) (Lib.hid hs.iter) hn w
end Go.Proofs.Ythohgleklcoglaa
