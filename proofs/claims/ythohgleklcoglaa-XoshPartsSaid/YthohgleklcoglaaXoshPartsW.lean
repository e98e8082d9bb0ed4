/-
  The statement's own walk: words in parts are those at once.
-/
import Derived.Test.YthohgleklcoglaaXshJ
import Derived.Test.YthohgleklcoglaaGfpTc
import Derived.Deep.AppendLies
namespace Go.Proofs.Ythohgleklcoglaa
open Go.RowKit G
set_option linter.unusedVariables false

/-- append at a guarded operation that runs. -/
theorem wpList_append_wanted {P : Program} (w : World) {ops : Array Oper} {rest : List Oper} {o : Oper} {a : Act} {Q : Exit → Act → World → Prop} (hw : Region.wanted o (yielded ops a.tmps) = true) (s x : Operand) (t : TypeId)
    (ho : o.op = .call { callee := .builtin .append, args := #[s, x], argTypes := #[t, t] })
    (base : Nat) (e : TypeId) (i : TypeInfo) (z : Value) (size bytes : Nat) (ht : P.underlying t = some (.slice e)) (hi : P.info? e = some i) (hz : i.zero = some z)
    (hsize : i.size = size) (hby : i.bytes = bytes) (hzs : z.cells.size = size) (hsz : 0 < size)
    (v : Value) (n : Nat) (xs : List Value) (hs : a.eval s = v) (hown : w.ownsRow base e size v n xs)
    (ad : Addr) (m c : Nat) (news : List Value) (hx : a.eval x = .slice (some ad) m c) (hl : news.length = m * size) (hnews : ∀ j u, news[j]? = some u → w.cell? (ad.add j) = some u) (h1 : ∀ u ∈ news, u.oneCell' = true)
    (h63 : n + m ≤ maxLen) (hbytes : (n + m) * bytes ≤ 140737488355328) (hbase : base ≤ w.heap.size)
    (h : ∀ v' w', w'.ownsRow base e size v' (n + m) (xs ++ news) → w.grownBy w' v.ownBlock → wpList P ops Q rest (a.put o.dst v') w') : wpList P ops Q (o :: rest) a w :=
  wpList_step fun K hK => by
    rw [if_pos hw]
    exact wp_append_own w s x t ho base e i z size bytes ht hi hz hsize hby hzs hsz v n xs hs hown ad m c news hx hl hnews h1 h63 hbytes hbase fun v' w' h2 h3 _ => hK _ _ (h v' w' h2 h3)
set_option maxHeartbeats 2000000 in
theorem partsBig (a b c d n m : Nat) (h : 128 < n ∨ 128 < m) (w : World) :
    Calls Try.prog 6 #[.agg #[.int .u64 (a : Int), .int .u64 (b : Int), .int .u64 (c : Int), .int .u64 (d : Int)], .int .u8 (n : Int), .int .u8 (m : Int)] w (Bl true w) := by
  have hB : Below w.heap.size w w := Below.refl _ _
  go_enter Try.func6, Try.ntmps6
  go_wp2_with fail
  replace hB := below_alloc hB (.cells #[.int .u64 (a : Int), .int .u64 (b : Int), .int .u64 (c : Int), .int .u64 (d : Int)] 24)
  generalize World.alloc _ _ = V at hB ⊢
  refine (awake7 _).mono ?_
  rintro e W0 ⟨rfl, hb⟩
  replace hB := below_then hB hb
  clear hb
  by_cases h1 : 128 < n
  · have n1 : (n : Int) > 128 := by omega
    clear h h1
    go_wp2
    go_ret
    exact ⟨rfl, hB⟩
  · have n1 : ¬ (n : Int) > 128 := by omega
    have m1 : (m : Int) > 128 := by omega
    clear h h1
    go_wp2
    go_ret
    exact ⟨rfl, hB⟩
set_option maxHeartbeats 2000000 in
theorem partsZero (n m : Nat) (hn : n ≤ 128) (hm : m ≤ 128) (w : World) :
    Calls Try.prog 6 #[.agg #[.int .u64 0, .int .u64 0, .int .u64 0, .int .u64 0], .int .u8 (n : Int), .int .u8 (m : Int)] w (Bl true w) := by
  have hB : Below w.heap.size w w := Below.refl _ _
  have q : ∀ W, Sem.run Try.prog (Op.equalIn 10000 24 (.agg #[.int .u64 0, .int .u64 0, .int .u64 0, .int .u64 0]) (.agg #[.int .u64 0, .int .u64 0, .int .u64 0, .int .u64 0])) W = .ok true W := fun W => sameS St.zero St.zero W
  go_enter Try.func6, Try.ntmps6
  go_wp2_with fail
  have U1 := C4.new w 0 0 0 0 24
  replace hB := below_alloc hB (.cells #[.int .u64 0, .int .u64 0, .int .u64 0, .int .u64 0] 24)
  generalize World.alloc _ _ = V at U1 hB ⊢
  refine (awake7 _).mono ?_
  rintro e W0 ⟨rfl, hb⟩
  replace U1 := U1.below hb
  replace hB := below_then hB hb
  clear hb
  have n1 : ¬ (n : Int) > 128 := by omega
  have m1 : ¬ (m : Int) > 128 := by omega
  obtain ⟨x1, x2, x3, x4⟩ := U1
  go_wp2
  go_ret
  exact ⟨rfl, hB⟩
set_option maxHeartbeats 4000000 in
theorem partsSome (a b c d n m : Nat) (hn : n ≤ 128) (hm : m ≤ 128) (hs : (⟨a, b, c, d⟩ : St).Ok) (h0 : (⟨a, b, c, d⟩ : St) ≠ St.zero) (w : World) :
    Calls Try.prog 6 #[.agg #[.int .u64 (a : Int), .int .u64 (b : Int), .int .u64 (c : Int), .int .u64 (d : Int)], .int .u8 (n : Int), .int .u8 (m : Int)] w (Bl true w) := by
  have hB : Below w.heap.size w w := Below.refl _ _
  have q : ∀ W, Sem.run Try.prog (Op.equalIn 10000 24 (.agg #[.int .u64 (a : Int), .int .u64 (b : Int), .int .u64 (c : Int), .int .u64 (d : Int)]) (.agg #[.int .u64 0, .int .u64 0, .int .u64 0, .int .u64 0])) W = .ok false W := fun W => by
    have := sameZ ⟨a, b, c, d⟩ W
    rwa [decide_eq_false h0] at this
  have J1 := Lib.hid (wordsYes ⟨a, b, c, d⟩ hs n h0 (by omega))
  have J2 := Lib.hid (wordsYes (iterS ⟨a, b, c, d⟩ n) (hs.iter n) m (fun e => h0 ((iter_right hs n).1 e)) (by omega))
  have J3 : Hid (∀ W, Calls Try.prog 13 #[.agg #[.int .u64 (a : Int), .int .u64 (b : Int), .int .u64 (c : Int), .int .u64 (d : Int)], .int .i64 ((n : Int) + (m : Int))] W (AnsRS (rowS ⟨a, b, c, d⟩ n ++ rowS (iterS ⟨a, b, c, d⟩ n) m) (iterS (iterS ⟨a, b, c, d⟩ n) m) W)) := Lib.hid (fun W => by
    have := wordsYes ⟨a, b, c, d⟩ hs (n + m) h0 (by omega) W
    rw [rowS_add, iterS_add, Int.natCast_add] at this
    exact this)
  have L1 := Lib.hid (And.intro (rowS_len ⟨a, b, c, d⟩ n) (And.intro (rowS_len (iterS ⟨a, b, c, d⟩ n) m) (And.intro (rowS_wds ⟨a, b, c, d⟩ n) (rowS_wds (iterS ⟨a, b, c, d⟩ n) m))))
  go_enter Try.func6, Try.ntmps6
  go_wp2_with fail
  have U1 := C4.new w a b c d 24
  replace hB := below_alloc hB (.cells #[.int .u64 (a : Int), .int .u64 (b : Int), .int .u64 (c : Int), .int .u64 (d : Int)] 24)
  generalize World.alloc _ _ = V at U1 hB ⊢
  refine (awake7 _).mono ?_
  rintro e W0 ⟨rfl, hb⟩
  replace U1 := U1.below hb
  replace hB := below_then hB hb
  clear hb hs h0
  have n1 : ¬ (n : Int) > 128 := by omega
  have m1 : ¬ (m : Int) > 128 := by omega
  have n0 : (0 : Int) ≤ (n : Int) := by omega
  have m0 : (0 : Int) ≤ (m : Int) := by omega
  obtain ⟨x1, x2, x3, x4⟩ := id U1
  go_wp2_with fail
  refine (J1.out _).mono ?_
  rintro e w1 ⟨A1, k1, rfl, P1, hb⟩
  replace U1 := U1.below hb
  replace hB := below_then hB hb
  clear hb x1 x2 x3 x4 q
  generalize iterS ⟨a, b, c, d⟩ n = S1 at J2 J3 L1 ⊢
  generalize rowS ⟨a, b, c, d⟩ n = us at P1 J3 L1 ⊢
  generalize rowS S1 m = vs at J2 J3 L1
  generalize iterS S1 m = Y at J2 J3
  obtain ⟨a1, b1, c1, d1⟩ := S1
  obtain ⟨a2, b2, c2, d2⟩ := Y
  go_wp2_with fail
  have U2 := C4.new w1 a1 b1 c1 d1 24
  have LB : Below w1.heap.size w1 (w1.alloc (.cells #[.int .u64 (a1 : Int), .int .u64 (b1 : Int), .int .u64 (c1 : Int), .int .u64 (d1 : Int)] 24)) := below_alloc (Below.refl _ _) _
  replace U1 := U1.below LB
  replace P1 := P1.below LB
  replace hB := below_then hB LB
  clear LB
  generalize World.alloc _ _ = V1 at U1 U2 P1 hB ⊢
  refine (J2.out _).mono ?_
  rintro e w2 ⟨A2, k2, rfl, P2, hb⟩
  replace U1 := U1.below hb
  replace P1 := P1.below hb
  replace hB := below_then hB hb
  clear hb U2
  go_upto_region 7 with fail
  have U2 := C4.new w2 a2 b2 c2 d2 24
  have LB : Below w2.heap.size w2 (w2.alloc (.cells #[.int .u64 (a2 : Int), .int .u64 (b2 : Int), .int .u64 (c2 : Int), .int .u64 (d2 : Int)] 24)) := below_alloc (Below.refl _ _) _
  replace P1 := P1.below LB
  replace P2 := P2.below LB
  replace U1 := U1.below LB
  replace hB := below_then hB LB
  clear LB
  generalize World.alloc _ _ = V2 at U1 U2 P1 P2 hB ⊢
  obtain ⟨x1, x2, x3, x4⟩ := id U1
  go_wp2_with fail
  clear x1 x2 x3 x4
  refine (J3.out _).mono ?_
  rintro e w3 ⟨A3, k3, rfl, P3, hb⟩
  replace U2 := U2.below hb
  replace P1 := P1.below hb
  replace P2 := P2.below hb
  replace hB := below_then hB hb
  clear hb U1
  have q : ∀ W, Sem.run Try.prog (Op.equalIn 10000 24 (.agg #[.int .u64 (a2 : Int), .int .u64 (b2 : Int), .int .u64 (c2 : Int), .int .u64 (d2 : Int)]) (.agg #[.int .u64 (a2 : Int), .int .u64 (b2 : Int), .int .u64 (c2 : Int), .int .u64 (d2 : Int)])) W = .ok true W := fun W => by
    have := sameS ⟨a2, b2, c2, d2⟩ ⟨a2, b2, c2, d2⟩ W
    rwa [decide_eq_true rfl] at this
  have hz := C4.new w3 a2 b2 c2 d2 24
  go_upto_region 8 with fail
  have LB : Below w3.heap.size w3 (w3.alloc (.cells #[.int .u64 (a2 : Int), .int .u64 (b2 : Int), .int .u64 (c2 : Int), .int .u64 (d2 : Int)] 24)) := below_alloc (Below.refl _ _) _
  replace P1 := P1.below LB
  replace P2 := P2.below LB
  replace P3 := P3.below LB
  replace U2 := U2.below LB
  replace hB := below_then hB LB
  clear LB
  generalize World.alloc _ _ = V3 at U2 hz P1 P2 P3 hB ⊢
  obtain ⟨x1, x2, x3, x4⟩ := id U2
  obtain ⟨z1, z2, z3, z4⟩ := hz
  obtain ⟨i0, hi, hz0, hz1, hz2⟩ := info_parts infoW
  have HI := Lib.hid hi
  have HZ0 := Lib.hid hz0
  have HZ1 := Lib.hid hz1
  have HZ2 := Lib.hid hz2
  clear hi hz0 hz1 hz2
  have HP1 := Lib.hid P1
  have HP2 := Lib.hid P2
  have HP3 := Lib.hid P3
  have HB := Lib.hid hB
  clear P1 P2 P3 hB
  generalize hlu : us.length = lu at L1
  generalize hlv : vs.length = lv at L1
  obtain ⟨l1, l2, l3, l4⟩ := L1.out
  have kb : lu ≤ 128 ∧ lv ≤ 128 := by omega
  have W1 := Lib.hid l3
  have W2 := Lib.hid l4
  clear l1 l2 l3 l4 L1
  have HLU := Lib.hid hlu
  have HLV := Lib.hid hlv
  clear hlu hlv
  go_wp2_with (first
    | (at_builtin; refine wpList_append_wanted _ (by rfl) _ _ 31 rfl V3.heap.size 22 i0 (.int .u64 0) 1 8 Try.underlying31 HI.out HZ0.out HZ1.out HZ2.out rfl (by decide) _ _ _ rfl (GrowW.start V3).own A1 lu k1 (u64s us) rfl (by rw [List.length_map, HLU.out, Nat.mul_one]) ((HP1.out.alloc _).news us lu (by rw [← HLU.out, List.take_length])) (one_cells us) (by unfold maxLen; simp; omega) (by simp; omega) (by simp) ?_; intro v4 w4 hown hgrow; have GR := Lib.hid ((GrowW.start V3).step (ys := us) W1.out (by rw [HLU.out]; exact hown) hgrow); rw [List.nil_append] at GR; clear hown hgrow; have SZ4 := GR.out.below.size)
    | (at_builtin; refine wpList_append_wanted _ (by rfl) _ _ 31 rfl V3.heap.size 22 i0 (.int .u64 0) 1 8 Try.underlying31 HI.out HZ0.out HZ1.out HZ2.out rfl (by decide) _ _ _ rfl GR.out.own A2 lv k2 (u64s vs) rfl (by rw [List.length_map, HLV.out, Nat.mul_one]) ((HP2.out.below GR.out.below).news vs lv (by rw [← HLV.out, List.take_length])) (one_cells vs) (by rw [HLU.out]; unfold maxLen; omega) (by rw [HLU.out]; omega) SZ4 ?_; intro v5 w5 hown hgrow; have G2 := Lib.hid (GR.out.step (ys := vs) W2.out (by rw [HLV.out]; exact hown) hgrow); clear hown hgrow)
    | fail)
  obtain ⟨A5, k5, rfl, P5⟩ := Pol.of_owns G2.out.wds G2.out.own
  have hl : (us ++ vs).length = lu + lv := by rw [List.length_append, HLU.out, HLV.out]
  have P3 := HP3.out.below G2.out.below
  have hB := below_then HB.out G2.out.below
  clear G2 GR HP1 HP2 HP3
  rw [hl]
  refine (gWords true P5 P3 hl hl (by unfold sameL; simp) (by omega)).mono ?_
  rintro e w6 ⟨rfl, hb⟩
  replace hB := below_then hB hb
  clear hb P3 P5
  go_wp2
  go_ret
  exact ⟨rfl, hB⟩
theorem xoshParts (s : St) (n m : Nat) (hs : s.Ok) (hn : n < 256) (hm : m < 256) (w : World) : Calls Try.prog 6 #[s.val, .int .u8 (n : Int), .int .u8 (m : Int)] w (Bl true w) := by
  by_cases h : 128 < n ∨ 128 < m
  · exact partsBig s.a s.b s.c s.d n m h w
  · by_cases h0 : s = St.zero
    · subst h0
      exact partsZero n m (by omega) (by omega) w
    · exact partsSome s.a s.b s.c s.d n m (by omega) (by omega) hs h0 w
end Go.Proofs.Ythohgleklcoglaa
