/-
  What the statements' own call open answers: a stream of the kind Mix from its first place on.
-/
import Derived.Test.YtkpignbmocpcaaaGreatBdR
import Derived.Test.YtkpignbmocpcaaaGreatGnR
namespace Go.Proofs.YtkpignbmocpcaaaGreat
open Go.RowKit
set_option linter.unusedVariables false
set_option maxRecDepth 100000

theorem st15 {t : TypeId} {w : World} {b : Nat} {s : Int} (h : Blk t w b (stC s)) : w.cell? ⟨b, 0, none⟩ = some (.int .i64 1) ∧ w.cell? ⟨b, 1, none⟩ = some (.int .u64 s) ∧ w.cell? ⟨b, 2, none⟩ = some (.int .u64 0) ∧ w.cell? ⟨b, 3, none⟩ = some (.int .u64 0) ∧ w.cell? ⟨b, 4, none⟩ = some (.int .u64 0) ∧ w.cell? ⟨b, 5, none⟩ = some (.int .u64 0) ∧ w.cell? ⟨b, 6, none⟩ = some (.int .u64 0) ∧ w.cell? ⟨b, 7, none⟩ = some (.int .u64 0) ∧ w.cell? ⟨b, 8, none⟩ = some (.int .u64 0) ∧ w.cell? ⟨b, 9, none⟩ = some (.int .u64 0) ∧ w.cell? ⟨b, 10, none⟩ = some (.int .u64 0) ∧ w.cell? ⟨b, 11, none⟩ = some (.int .u64 0) ∧ w.cell? ⟨b, 12, none⟩ = some (.int .u32 0) ∧ w.cell? ⟨b, 13, none⟩ = some (.int .u32 0) ∧ w.cell? ⟨b, 14, none⟩ = some (.bool false) := ⟨h.cell 0 _ rfl, h.cell 1 _ rfl, h.cell 2 _ rfl, h.cell 3 _ rfl, h.cell 4 _ rfl, h.cell 5 _ rfl, h.cell 6 _ rfl, h.cell 7 _ rfl, h.cell 8 _ rfl, h.cell 9 _ rfl, h.cell 10 _ rfl, h.cell 11 _ rfl, h.cell 12 _ rfl, h.cell 13 _ rfl, h.cell 14 _ rfl⟩
/-- The answer of open. -/
def AnsOp (n m : Nat) (w : World) (e : Ending) (w' : World) : Prop :=
  ∃ (d c : Nat) (x : Value), e = .returned (.tuple #[.pointer (some ⟨d, 0, none⟩), x]) ∧ Sm w' d c n 0 n m ∧ w.heap.size ≤ d ∧ w.heap.size ≤ c ∧ Below w.heap.size w w'
set_option maxHeartbeats 4000000 in
theorem lOpen {n m : Nat} (hn : n < 18446744073709551616) (hm : m < 256) (w : World) : Calls Tryz.prog 13 #[.int .i64 1, .int .u64 (n : Int), .int .u8 (m : Int)] w (AnsOp n m w) := by
  have hw : IntKind.u64.wrap (m : Int) = (m : Int) := by rw [IntKind.wrap_u64]; omega
  have CO := Lib.hid (cOfL (L := m) (by omega))
  have CS := Lib.hid (smNew (n := n) (f := 0) (t := m) hn (Nat.zero_le _) (by omega))
  rw [jump_zero hn] at CS
  have CR := Lib.hid (rSeedNew n hn)
  go_enter Tryz.func13, Tryz.ntmps13
  go_wp2_with fail
  refine (CO.out _).mono ?_
  rintro e V ⟨rfl, hb⟩
  have B1 := Lib.hid hb
  clear hb CO
  go_wp2_with fail
  refine (CS.out _).mono ?_
  rintro e V2 ⟨d, c, rfl, S2, hd, hc, hb⟩
  have K2 := Lib.hid (And.intro S2 (And.intro (show w.heap.size ≤ d from Nat.le_trans B1.out.size hd) (And.intro (show w.heap.size ≤ c from Nat.le_trans B1.out.size hc) (below_then B1.out hb))))
  clear hb CS S2 hd hc B1
  go_wp2_with fail
  refine (CR.out _).mono ?_
  rintro e V3 ⟨rfl, hb⟩
  have K3 := Lib.hid (And.intro (K2.out.1.below hb) (And.intro K2.out.2.1 (And.intro K2.out.2.2.1 (below_then K2.out.2.2.2 hb))))
  clear hb CR K2
  go_wp2_with (first | (refine list_storeR rfl _ _ rfl _ rfl rfl rfl (Blk.new _ stZ _) ?_; intro w5 N0 NL NF NS; have B5 := NL _ (Nat.le_refl _) _ (below_allocs V3 _); clear NL NF NS) | fail)
  have K5 := Lib.hid (And.intro (K3.out.1.below B5) (And.intro K3.out.2.1 (And.intro K3.out.2.2.1 (below_then K3.out.2.2.2 B5))))
  clear B5 K3
  generalize V3.heap.size = bl at N0 ⊢
  try dsimp only [Act.put]
  go_cut [6, 7] (fun u x wr => u = .pointer (some ⟨d, 0, none⟩) ∧ Below w5.heap.size w5 wr)
  case first =>
    have b0 := below_drew w5
    obtain ⟨p0, p1, p2, p3, p4, p5, p6, p7, p8, p9, p10, p11, p12, p13, p14⟩ := st15 N0
    go_region_with (first
      | (go_at_call 26; (with_reducible refine (rLimit _).mono ?_); rintro e x1 ⟨rfl, hb⟩; have b1 := below_then b0 hb; obtain ⟨q0, q1, q2, q3, q4, q5, q6, q7, q8, q9, q10, q11, q12, q13, q14⟩ := st15 (N0.below b1)))
    all_goals
      go_wp2_with fail
      go_meet
      exact ⟨rfl, below_alloc (below_alloc b1 _) _⟩
  obtain ⟨rfl, hB⟩ := hcut
  have F := Lib.hid (And.intro (K5.out.1.below hB) (And.intro K5.out.2.1 (And.intro K5.out.2.2.1 (below_then K5.out.2.2.2 hB))))
  clear K5 N0 hB
  go_wp2_with fail
  go_returns
  exact ⟨d, c, _, rfl, F.out⟩
end Go.Proofs.YtkpignbmocpcaaaGreat
