/-
  What the call Mul of the reference of layer 2 answers.
-/
import Derived.Test.YtmhglbnoddimhaaGfpTc
import Derived.ChangeAlike
namespace Go.Proofs.Ytmhglbnoddimhaa
open Go.RowKit G
set_option linter.unusedVariables false

theorem zeros_next (n : Nat) : List.replicate n 0 ++ [0] = List.replicate (n + 1) 0 := by rw [List.replicate_succ']
theorem none_appendI (v : Value) (n c base : Nat) (xs : List Value) (w : World) (hown : w.ownsRow base 3 1 v n xs) : (Builtin.append_ #[34, 34] 34 #[v, .slice none 0 c]).run Try.prog w = .ok v w := by
  obtain ⟨i0, hi, hz0, hz1, hz2⟩ := info_parts infoI
  rcases hown.2 with ⟨rfl, rfl⟩ | ⟨g, cap, cur, rfl, _, _, hnc, _⟩
  · simp [Builtin.append_, run_underlying Try.underlying34, sizeOf, typeInfo, hi, Builtin.lenOf, Builtin.firstCells]
  · simp [Builtin.append_, run_underlying Try.underlying34, sizeOf, typeInfo, hi, Builtin.lenOf, Builtin.firstCells, hnc, storeCells]
theorem wpList_none {ops : Array Oper} {rest : List Oper} {o : Oper} {a : Act} {Q : Exit → Act → World → Prop} (w : World) (hgd : o.guard = none) (s x : Operand)
    (ho : o.op = .call { callee := .builtin .append, args := #[s, x], argTypes := #[34, 34] }) (hty : o.type = 34) (v : Value) (n c base : Nat) (xs : List Value) (hs : a.eval s = v) (hx : a.eval x = .slice none 0 c) (hown : w.ownsRow base 3 1 v n xs)
    (h : wpList Try.prog ops Q rest (a.put o.dst v) w) : wpList Try.prog ops Q (o :: rest) a w := by
  refine wpList_plain hgd fun _ hK => ?_
  have hrun := none_appendI v n c base xs w hown
  unfold Oper.wp execOp
  simp only [ho, hty, resolve, invoke, builtin, Sem.run_bind, Sem.run_pure, Result.andThen_ok, List.map_toArray, List.map_cons, List.map_nil, hs, hx, hrun]
  exact hK _ _ h
/-- A list of the call's own, that is written. -/
structure FillB (w : World) (g cap n : Nat) (ps : List Nat) (wr : World) : Prop where
  own : wr.ownsRow w.heap.size 3 1 (.slice (some ⟨g, 0, none⟩) n cap) n (ints ps)
  bit : Bts ps
  len : ps.length = n
  new : w.heap.size ≤ g
  below : Below w.heap.size w wr
theorem FillB.set {w : World} {g cap n : Nat} {ps : List Nat} {wr : World} (h : FillB w g cap n ps wr) (k v : Nat) (hv : v < 2) : FillB w g cap n (ps.set k v) (wr.setCell ⟨g, k, none⟩ (.int .i64 (v : Int))) := by
  obtain ⟨a, b⟩ := h.own.stored k (.int .i64 (v : Int))
  refine ⟨by rw [ints, List.map_set]; exact a, h.bit.set k v hv, by rw [List.length_set]; exact h.len, h.new, h.below.setCell h.new _⟩
theorem FillB.cell {w : World} {g cap n : Nat} {ps : List Nat} {wr : World} (h : FillB w g cap n ps wr) (k : Nat) (hk : k < n) : wr.cell? ⟨g, k, none⟩ = some (.int .i64 ((ps.getD k 0 : Nat) : Int)) ∧ wr.frozen? ⟨g, k, none⟩ = false := by
  refine ⟨?_, h.own.frozenAt k⟩
  rw [h.own.cellAt k (by omega)]
  have : k < ps.length := by rw [h.len]; exact hk
  simp [List.getElem?_eq_getElem this]
theorem FillB.drew {w : World} {g cap n : Nat} {ps : List Nat} {wr : World} (h : FillB w g cap n ps wr) : FillB w g cap n ps wr.drew := ⟨h.own, h.bit, h.len, h.new, h.below.drew⟩
theorem FillB.lst {w : World} {g cap n : Nat} {ps : List Nat} {wr : World} (h : FillB w g cap n ps wr) : Lst wr (some ⟨g, 0, none⟩) cap ps := by
  obtain ⟨hl, h2⟩ := id h.own
  rcases h2 with ⟨e, _⟩ | ⟨g', cap', cur, e, hg, hh, hc, hm, rest⟩
  · cases e
  · simp only [Value.slice.injEq, Option.some.injEq, Addr.mk.injEq, and_true, true_and] at e
    obtain ⟨rfl, rfl⟩ := e
    refine ⟨h.bit, by rw [h.len]; exact hc, hm, fun i hi => ⟨g, 0, rfl, ?_⟩⟩
    rw [Nat.zero_add]
    exact (h.cell i (by rw [← h.len]; exact hi)).1
/-- What the row of Mul holds after i parts, and k of the next one. -/
def MulB (i k : Nat) (X : Nat) (xs ys ps : List Nat) : Prop := leB ps = clm X (leB (ys.take i)) ^^^ leB (xs.take k) * 2 ^ i
theorem MulB.start (n X : Nat) (xs ys : List Nat) : MulB 0 0 X xs ys (List.replicate n 0) := by
  unfold MulB
  have z := leB_up [] n
  rw [List.append_nil] at z
  rw [z, List.take_zero, List.take_zero]
  show 0 * 2 ^ n = clm X 0 ^^^ 0 * 2 ^ 0
  rw [clm_zero]; simp
theorem MulB.zero {i : Nat} {X : Nat} {xs ys ps : List Nat} (h : MulB i 0 X xs ys ps) : leB ps = clm X (leB (ys.take i)) := by
  unfold MulB at h
  rw [h, List.take_zero]
  show _ ^^^ 0 * 2 ^ i = _
  rw [Nat.zero_mul, Nat.xor_zero]
theorem MulB.of {i : Nat} {X : Nat} {xs ys ps : List Nat} (h : leB ps = clm X (leB (ys.take i))) : MulB i 0 X xs ys ps := by
  unfold MulB
  rw [h, List.take_zero]
  show _ = _ ^^^ 0 * 2 ^ i
  rw [Nat.zero_mul, Nat.xor_zero]
theorem MulB.skip {i : Nat} {X : Nat} {xs ys ps : List Nat} (h : MulB i 0 X xs ys ps) (hy : Bts ys) (hi : i < ys.length) (h0 : ys.getD i 0 = 0) : MulB (i + 1) 0 X xs ys ps := by
  refine MulB.of ?_
  rw [h.zero, leB_take_succ ys i hy hi, h0, Nat.zero_mul, Nat.xor_zero]
theorem MulB.row {i : Nat} {X : Nat} {xs ys ps : List Nat} (h : MulB i xs.length X xs ys ps) (hX : leB xs = X) (hy : Bts ys) (hi : i < ys.length) (h0 : ys.getD i 0 = 1) : MulB (i + 1) 0 X xs ys ps := by
  refine MulB.of ?_
  unfold MulB at h
  rw [h, leB_take_succ ys i hy hi, h0, Nat.one_mul, clm_xor, clm_pow, List.take_length, hX]
theorem MulB.step {i k t : Nat} {X : Nat} {xs ys ps : List Nat} (h : MulB i k X xs ys ps) (hx : Bts xs) (hp : Bts ps) (hk : k < xs.length) (ht : t = i + k) (hl : t < ps.length) : MulB i (k + 1) X xs ys (ps.set t ((ps.getD t 0 + xs.getD k 0) % 2)) := by
  unfold MulB at *
  rw [leB_set ps t _ hp hl (hx.get k), h, leB_take_succ xs k hx hk, xor_shift, Nat.xor_assoc]
  congr 2
  rw [ht, Nat.mul_assoc, ← Nat.pow_add, Nat.add_comm]

set_option maxRecDepth 100000 in
set_option maxHeartbeats 4000000 in
theorem mulWalkB (A B : Option Addr) (ca cb L K M X N : Nat) (xs ys : List Nat) (hL : Hid (xs.length = L)) (hK : Hid (ys.length = K)) (hM : Hid (L + K = M)) (hX : Hid (leB xs = X)) (hN : Hid (clm X (leB ys) = N)) (hl : L ≤ 100000) (hk : K ≤ 100000) (w : World) (P : Hid (Lst w A ca xs)) (Q : Hid (Lst w B cb ys)) :
    Calls Try.prog 20 #[.slice A L ca, .slice B K cb] w (AnsB (bitsOf N) w) := by
  obtain ⟨i0, hi, hz0, hz1, hz2⟩ := info_parts infoI
  have HI := Lib.hid hi
  have HZ0 := Lib.hid hz0
  have HZ1 := Lib.hid hz1
  have HZ2 := Lib.hid hz2
  clear hi hz0 hz1 hz2
  have bM : M ≤ 200000 := by have := hM.out; omega
  have eM : (L : Int) + (K : Int) = (M : Int) := by have := hM.out; omega
  go_enter Try.func20, Try.ntmps20
  go_wp2
  go_loopg [5, 6] M (fun g v i wr => ∃ k : Nat, k + g = M ∧ i = .int .i64 k ∧ v ≠ .slice none 0 0 ∧ Hid (Grow w v (List.replicate k 0) wr))
  case atStart => exact ⟨0, by omega, rfl, by simp, Lib.hid (Grow.start w)⟩
  case round =>
    obtain ⟨k, hk, rfl, nn, GR⟩ := hrel
    have SZ := GR.out.below.size
    have NN := Lib.hid nn
    clear nn
    by_cases hlt : k < M
    · have kl : (k : Int) < (M : Int) := by omega
      go_wp2_with (at_builtin; refine wpList_append_own _ rfl _ _ 34 rfl w.heap.size 3 i0 (.int .i64 0) 1 8 Try.underlying34 HI.out HZ0.out HZ1.out HZ2.out rfl (by decide) _ _ _ rfl (GR.out.own.alloc _) ⟨wr.heap.size, 0, none⟩ 1 1 [.int .i64 0] rfl rfl (new1 wr _ _) (by simp [Value.oneCell']) (by rw [List.length_replicate]; unfold maxLen; omega) (by rw [List.length_replicate]; omega) (by simp; omega) ?_; intro v' w2 hown hgrow hnil; have G2 := Lib.hid ((GR.out.far (w' := wr.alloc _) (below_alloc (Below.refl _ _) (.cells #[.int .i64 0] 3))).step (ys := [0]) (fun z hz => by rw [List.mem_singleton.1 hz]; decide) hown hgrow); rw [zeros_next] at G2; have N2 := Lib.hid (show v' ≠ .slice none 0 0 from fun e => by have := (hnil.1 e).2; omega); clear hown hgrow hnil)
      go_roundg (gk - 1)
      case measure => omega
      case rel => exact ⟨k + 1, by omega, by go_num, N2.out, G2⟩
    · obtain rfl : k = M := by omega
      have kl : ¬ ((k : Int) < (k : Int)) := by omega
      obtain ⟨g, cap, rfl, F0⟩ : ∃ g cap, _ = Value.slice (some ⟨g, 0, none⟩) k cap ∧ FillB w g cap k (List.replicate k 0) wr := by
        have own := GR.out.own
        rw [List.length_replicate] at own
        rcases own.2 with ⟨e, _⟩ | ⟨g, cap, cur, e, hg, rest⟩
        · exact absurd e NN.out
        · refine ⟨g, cap, e, ?_⟩
          rw [e] at own
          exact ⟨own, GR.out.bit, List.length_replicate, hg, GR.out.below⟩
      clear NN GR SZ
      have Z0 := Lib.hid (MulB.start k X xs ys)
      generalize hps : List.replicate k 0 = ps0 at F0 Z0
      clear hps
      have F0 := Lib.hid F0
      go_wp2
      clear eM
      go_loopg [7] K (fun g' s wr => ∃ (i : Nat) (ps : List Nat), i + g' = K ∧ s = .int .i64 i ∧ Hid (MulB i 0 X xs ys ps) ∧ Hid (FillB w g cap k ps wr))
      case atStart => exact ⟨0, ps0, by omega, rfl, Z0, F0⟩
      case round =>
        clear F0 Z0
        obtain ⟨i, ps, hi, rfl, HP, F⟩ := hrel
        obtain ⟨go, rfl⟩ : ∃ go, go = gk := ⟨_, rfl⟩
        by_cases hlt2 : i < K
        · have il : (i : Int) < (K : Int) := by omega
          have i0' : (0 : Int) ≤ (i : Int) := by omega
          obtain ⟨bb, ob, rfl, qc⟩ := Q.out.cell i (by rw [hK.out]; exact hlt2)
          have yb := Q.out.bit.get i
          go_wp2
          go_loopg [8] L (fun g' s wr => ∃ (j : Nat) (ps : List Nat), j + g' = L ∧ s = .int .i64 j ∧ (ys.getD i 0 = 0 → j = 0) ∧ Hid (MulB i j X xs ys ps) ∧ Hid (FillB w g cap k ps wr))
          case atStart => exact ⟨0, ps, by omega, rfl, fun _ => rfl, HP, F⟩
          case round =>
            clear HP F ps
            obtain ⟨j, ps, hj, rfl, hj0, HP, F⟩ := hrel
            have HJ0 := Lib.hid hj0
            clear hj0
            have qc' := (F.out.below.cell (p := ⟨bb, ob + i, none⟩) (World.block_lt_of_cell? w _ qc)).trans qc
            by_cases hlt3 : j < L
            · have jl : (j : Int) < (L : Int) := by omega
              have j0 : (0 : Int) ≤ (j : Int) := by omega
              by_cases hy1 : ys.getD i 0 = 1
              · rw [hy1] at qc'
                obtain ⟨ba, oa, ea, pc⟩ := (P.out.below F.out.below).cell j (by rw [hL.out]; exact hlt3)
                obtain ⟨t, ht⟩ : ∃ t, t = i + j := ⟨_, rfl⟩
                have tM : t < k := by have := hM.out; omega
                obtain ⟨c1, c2⟩ := F.out.cell t tM
                have S1 := Lib.hid (HP.out.step P.out.bit F.out.bit (by rw [hL.out]; exact hlt3) ht (by rw [F.out.len]; exact tM))
                have b1 := P.out.bit.get j
                have b2 := F.out.bit.get t
                have F1 := Lib.hid (F.out.drew.set t ((ps.getD t 0 + xs.getD j 0) % 2) (Nat.mod_lt _ (by decide)))
                generalize ps.set t ((ps.getD t 0 + xs.getD j 0) % 2) = ps' at S1 F1
                generalize ps.getD t 0 = p at c1 b2 F1
                generalize xs.getD j 0 = x at pc b1 F1
                obtain ⟨s, hs⟩ : ∃ s, s = p + x := ⟨_, rfl⟩
                rw [← hs] at F1
                obtain ⟨q, hq⟩ : ∃ q, q = s % 2 := ⟨_, rfl⟩
                rw [← hq] at F1
                have r1 : IntKind.i64.wrap ((i : Int) + (j : Int)) = (t : Int) := by rw [IntKind.wrap_i64]; omega
                have r2 : IntKind.i64.wrap ((p : Int) + (x : Int)) = (s : Int) := by rw [IntKind.wrap_i64]; omega
                have r3 : (t : Int) < (k : Int) := by omega
                have r4 : (0 : Int) ≤ (t : Int) := by omega
                have r5 : Int.tmod (s : Int) 2 = (q : Int) := by rw [hq]; exact (Int.ofNat_tmod s 2).symm
                have bq : q < 2 := by omega
                have r6 : IntKind.i64.wrap (q : Int) = (q : Int) := by rw [IntKind.wrap_i64]; omega
                clear hs hq ht
                subst ea
                go_wp2_with fail
                go_region
                clear r1 r2 r3 r4 r5 r6
                go_wp2_with fail
                go_roundg (gk - 1)
                case measure => omega
                case rel => exact ⟨j + 1, ps', by omega, by go_num, Lib.hid (fun e => by rw [hy1] at e; cases e), S1, F1⟩
              · have hy0 : ys.getD i 0 = 0 := by omega
                obtain rfl : j = 0 := HJ0.out hy0
                have H2 := Lib.hid (HP.out.skip Q.out.bit (by rw [hK.out]; exact hlt2) hy0)
                rw [hy0] at qc'
                clear hy0 hy1 yb
                go_wp2
                go_roundg (go - 1)
                case measure => omega
                case rel => exact ⟨i + 1, ps, by omega, by go_num, H2, F⟩
            · have jl : ¬ ((j : Int) < (L : Int)) := by omega
              have H2 : Hid (MulB (i + 1) 0 X xs ys ps) := by
                by_cases hy1 : ys.getD i 0 = 1
                · obtain rfl : j = L := by omega
                  have h := HP.out
                  rw [← hL.out] at h
                  exact Lib.hid (h.row hX.out Q.out.bit (by rw [hK.out]; exact hlt2) hy1)
                · have hy0 : ys.getD i 0 = 0 := by omega
                  obtain rfl : j = 0 := HJ0.out hy0
                  exact Lib.hid (HP.out.skip Q.out.bit (by rw [hK.out]; exact hlt2) hy0)
              clear yb qc'
              go_wp2
              go_roundg (go - 1)
              case measure => omega
              case rel => exact ⟨i + 1, ps, by omega, by go_num, H2, F⟩
        · obtain rfl : i = K := by omega
          have il : ¬ ((i : Int) < (i : Int)) := by omega
          have e : leB ps = N := by
            rw [HP.out.zero, ← hK.out, List.take_length]; exact hN.out
          have T := Lib.hid (rTrim N F.out.lst F.out.len e (by omega))
          clear e
          go_wp2_with (go_at_call 39; ((with_reducible refine (T.out).mono ?_); rintro e w1 ⟨A1, c1, rfl, ls, hb⟩))
          go_ret
          exact ⟨A1, c1, rfl, ls, below_then F.out.below hb⟩
theorem rMul {A B : Option Addr} {ca cb L K : Nat} {xs ys : List Nat} {w : World} (N : Nat) (P : Lst w A ca xs) (Q : Lst w B cb ys) (hL : xs.length = L) (hK : ys.length = K) (hN : clm (leB xs) (leB ys) = N) (hl : L ≤ 100000) (hk : K ≤ 100000) :
    Calls Try.prog 20 #[.slice A L ca, .slice B K cb] w (AnsB (bitsOf N) w) :=
  mulWalkB A B ca cb L K _ _ N xs ys (Lib.hid hL) (Lib.hid hK) (Lib.hid rfl) (Lib.hid rfl) (Lib.hid hN) hl hk w (Lib.hid P) (Lib.hid Q)
end Go.Proofs.Ytmhglbnoddimhaa
