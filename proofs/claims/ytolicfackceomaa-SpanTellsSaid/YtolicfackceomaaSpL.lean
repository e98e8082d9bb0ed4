/-
  Lists of spans in memory: one that came in or that a callee laid, and one that grows.
-/
import Derived.Test.YtolicfackceomaaSpB
import Derived.Laws.OwnMore
import Derived.Deep.Slices
namespace Go.Proofs.Ytolicfackceomaa
open Go.RowKit
set_option linter.unusedVariables false

/-- A slice that holds these spans (of whichever of both types). -/
structure SL (w : World) (A : Option Addr) (cap : Nat) (l : List Sp) : Prop where
  ok : ∀ s ∈ l, s.Ok
  cap1 : l.length ≤ cap
  cap2 : cap ≤ 9223372036854775807
  cell : ∀ i, i < l.length → ∃ b o, A = some ⟨b, o, none⟩ ∧ b < w.heap.size ∧ ∀ c v, (enc (l.getD i default))[c]? = some v → w.cell? ⟨b, o + i * 4 + c, none⟩ = some v
theorem SL.below {w w' : World} {A : Option Addr} {cap : Nat} {l : List Sp} (h : SL w A cap l) (hb : Below w.heap.size w w') : SL w' A cap l :=
  ⟨h.ok, h.cap1, h.cap2, fun i hi => by
    obtain ⟨b, o, e, hl, hc⟩ := h.cell i hi
    exact ⟨b, o, e, Nat.lt_of_lt_of_le hl hb.size, fun c v hv => (hb.cell (p := ⟨b, o + i * 4 + c, none⟩) hl).trans (hc c v hv)⟩⟩
theorem SL.drewN {w : World} {A : Option Addr} {cap : Nat} {l : List Sp} (h : SL w A cap l) (n : Nat) : SL (w.drewN n) A cap l := ⟨h.ok, h.cap1, h.cap2, h.cell⟩
theorem SL.drew {w : World} {A : Option Addr} {cap : Nat} {l : List Sp} (h : SL w A cap l) : SL w.drew A cap l := ⟨h.ok, h.cap1, h.cap2, h.cell⟩
theorem SL.nil (w : World) (A : Option Addr) (cap : Nat) (h : cap ≤ 9223372036854775807) : SL w A cap [] := ⟨fun x hx => (by cases hx), Nat.zero_le _, h, fun i hi => (by cases hi)⟩
theorem SL.get {w : World} {A : Option Addr} {cap : Nat} {l : List Sp} (h : SL w A cap l) {i : Nat} (hi : i < l.length) : (l.getD i default).Ok := by
  rw [List.getD_eq_getElem?_getD, List.getElem?_eq_getElem hi]
  exact h.ok _ (List.getElem_mem hi)
/-- The four words of one of a list, in memory. -/
structure At4 (w : World) (b o : Nat) (s : Sp) : Prop where
  c0 : w.cell? ⟨b, o, none⟩ = some (.int .u64 ((hiW s.f : Nat) : Int))
  c1 : w.cell? ⟨b, o + 1, none⟩ = some (.int .u64 ((loW s.f : Nat) : Int))
  c2 : w.cell? ⟨b, o + 2, none⟩ = some (.int .u64 ((hiW s.t : Nat) : Int))
  c3 : w.cell? ⟨b, o + 3, none⟩ = some (.int .u64 ((loW s.t : Nat) : Int))
theorem SL.at {w : World} {A : Option Addr} {cap : Nat} {l : List Sp} (h : SL w A cap l) {i : Nat} (hi : i < l.length) : ∃ b o, A = some ⟨b, o, none⟩ ∧ b < w.heap.size ∧ At4 w b (o + i * 4) (l.getD i default) := by
  obtain ⟨b, o, e, hl, hc⟩ := h.cell i hi
  exact ⟨b, o, e, hl, hc 0 _ rfl, hc 1 _ rfl, hc 2 _ rfl, hc 3 _ rfl⟩
theorem At4.below {w w' : World} {b o : Nat} {s : Sp} (h : At4 w b o s) (hl : b < w.heap.size) (hb : Below w.heap.size w w') : At4 w' b o s :=
  ⟨(hb.cell (p := ⟨b, _, none⟩) hl).trans h.c0, (hb.cell (p := ⟨b, _, none⟩) hl).trans h.c1, (hb.cell (p := ⟨b, _, none⟩) hl).trans h.c2, (hb.cell (p := ⟨b, _, none⟩) hl).trans h.c3⟩
/-- The four words of a span. -/
structure Ws (p q r t : Int) (s : Sp) : Prop where
  f : Wn p q s.f
  t : Wn r t s.t
theorem Ws.enc {p q r t : Int} {s : Sp} (h : Ws p q r t s) : enc s = [.int .u64 p, .int .u64 q, .int .u64 r, .int .u64 t] := by
  obtain ⟨h1, h2⟩ := h
  obtain ⟨rfl, rfl⟩ := h1.of
  obtain ⟨rfl, rfl⟩ := h2.of
  rfl
theorem Ws.val {p q r t : Int} {s : Sp} (h : Ws p q r t s) : s.val = .agg #[.int .u64 p, .int .u64 q, .int .u64 r, .int .u64 t] := by
  obtain ⟨h1, h2⟩ := h
  obtain ⟨rfl, rfl⟩ := h1.of
  obtain ⟨rfl, rfl⟩ := h2.of
  rfl
theorem Ws.ok {p q r t : Int} {s : Sp} (h : Ws p q r t s) : s.Ok := ⟨h.f.lt, h.t.lt⟩
theorem ws_of {s : Sp} (h : s.Ok) : Ws ((hiW s.f : Nat) : Int) ((loW s.f : Nat) : Int) ((hiW s.t : Nat) : Int) ((loW s.t : Nat) : Int) s := ⟨wn_of h.1, wn_of h.2⟩
theorem SL.at4 {w : World} {A : Option Addr} {cap : Nat} {l : List Sp} (h : SL w A cap l) {i : Nat} (hi : i < l.length) : ∃ (b o : Nat) (p q r t : Int), A = some ⟨b, o, none⟩ ∧ b < w.heap.size ∧ Hid (Ws p q r t (l.getD i default)) ∧
    w.cell? ⟨b, o + i * 4, none⟩ = some (.int .u64 p) ∧ w.cell? ⟨b, o + i * 4 + 1, none⟩ = some (.int .u64 q) ∧ w.cell? ⟨b, o + i * 4 + 2, none⟩ = some (.int .u64 r) ∧ w.cell? ⟨b, o + i * 4 + 3, none⟩ = some (.int .u64 t) := by
  obtain ⟨b, o, e, hl, c⟩ := h.at hi
  exact ⟨b, o, _, _, _, _, e, hl, Lib.hid (ws_of (h.get hi)), c.c0, c.c1, c.c2, c.c3⟩
/-- The cells of a list, one behind the other. -/
def encs : List Sp → List Value
  | [] => []
  | s :: l => enc s ++ encs l
theorem encs_append : ∀ a b : List Sp, encs (a ++ b) = encs a ++ encs b
  | [], _ => rfl
  | s :: a, b => by rw [List.cons_append, encs, encs_append a b, encs, List.append_assoc]
theorem encs_length : ∀ l : List Sp, (encs l).length = l.length * 4
  | [] => rfl
  | s :: l => by rw [encs, List.length_append, encs_length l, List.length_cons]; show 4 + _ = _; omega
theorem encs_get : ∀ (l : List Sp) (i c : Nat) (v : Value), i < l.length → (enc (l.getD i default))[c]? = some v → (encs l)[i * 4 + c]? = some v
  | [], i, _, _, h, _ => absurd h (Nat.not_lt_zero _)
  | s :: l, 0, c, v, _, hv => by
    have hc : c < (enc s).length := (List.getElem?_eq_some_iff.1 hv).1
    rw [encs, Nat.zero_mul, Nat.zero_add, List.getElem?_append_left hc]; exact hv
  | s :: l, i + 1, c, v, h, hv => by
    rw [encs, List.getElem?_append_right (by show 4 ≤ _; omega), show (i + 1) * 4 + c - (enc s).length = i * 4 + c from by show (i + 1) * 4 + c - 4 = _; omega]
    exact encs_get l i c v (by simpa using h) hv
theorem encs_get' (l : List Sp) (j : Nat) (v : Value) (h : (encs l)[j]? = some v) : j / 4 < l.length ∧ (enc (l.getD (j / 4) default))[j % 4]? = some v := by
  have hj : j < (encs l).length := (List.getElem?_eq_some_iff.1 h).1
  rw [encs_length] at hj
  have h1 : j / 4 < l.length := by omega
  refine ⟨h1, ?_⟩
  have hlt : j % 4 < (enc (l.getD (j / 4) default)).length := by show _ < 4; omega
  have := encs_get l (j / 4) (j % 4) _ h1 (List.getElem?_eq_getElem hlt)
  rw [show j / 4 * 4 + j % 4 = j from by omega, h] at this
  rw [List.getElem?_eq_getElem hlt]; exact this.symm
theorem encs_one (l : List Sp) : ∀ u ∈ encs l, u.oneCell' = true := by
  induction l with
  | nil => intro u h; cases h
  | cons s l ih =>
    intro u h
    rcases List.mem_append.1 h with h | h
    · simp only [enc, List.mem_cons, List.not_mem_nil, or_false] at h
      rcases h with rfl | rfl | rfl | rfl <;> rfl
    · exact ih u h
theorem SL.news {w : World} {b o cap : Nat} {l : List Sp} (h : SL w (some ⟨b, o, none⟩) cap l) : ∀ (j : Nat) (u : Value), (encs l)[j]? = some u → w.cell? ⟨b, o + j, none⟩ = some u := by
  intro j u hu
  obtain ⟨h1, h2⟩ := encs_get' l j u hu
  obtain ⟨b', o', e, hl, hc⟩ := h.cell _ h1
  simp only [Option.some.injEq, Addr.mk.injEq, and_true] at e
  obtain ⟨rfl, rfl⟩ := e
  have := hc _ _ h2
  rwa [Nat.add_assoc, show j / 4 * 4 + j % 4 = j from by omega] at this
theorem infoS : (Try.prog.info? 26).map (fun i => (i.zero, i.size, i.bytes)) = some (some (.agg #[.int .u64 0, .int .u64 0, .int .u64 0, .int .u64 0]), 4, 32) := by kernel_rfl
theorem infoR : (Try.prog.info? 34).map (fun i => (i.zero, i.size, i.bytes)) = some (some (.agg #[.int .u64 0, .int .u64 0, .int .u64 0, .int .u64 0]), 4, 32) := by kernel_rfl
/-- A list that grows: a slice of the call's own. -/
structure Grow (t : TypeId) (B : Nat) (w : World) (v : Value) (l : List Sp) (wr : World) : Prop where
  own : wr.ownsRow B t 4 v l.length (encs l)
  ok : ∀ s ∈ l, s.Ok
  below : Below B w wr
  le : B ≤ w.heap.size
theorem owns_below {w w' : World} {base : Nat} {e : TypeId} {size : Nat} {v : Value} {n : Nat} {xs : List Value} (h : w.ownsRow base e size v n xs) (hb : Below w.heap.size w w') : w'.ownsRow base e size v n xs := by
  refine ⟨h.1, ?_⟩
  rcases h.2 with hn | ⟨g, cap, cur, rfl, hg, hh, rest⟩
  · exact .inl hn
  · exact .inr ⟨g, cap, cur, rfl, hg, by rw [hb.block g (Array.getElem?_eq_some_iff.1 hh).1]; exact hh, rest⟩
theorem Grow.far {t : TypeId} {B : Nat} {w wr w' : World} {v : Value} {l : List Sp} (h : Grow t B w v l wr) (hb : Below wr.heap.size wr w') : Grow t B w v l w' :=
  ⟨owns_below h.own hb, h.ok, h.below.trans (hb.mono (Nat.le_trans h.le h.below.size)), h.le⟩
theorem Grow.step {t : TypeId} {B : Nat} {w wr w' : World} {v v' : Value} {l k : List Sp} (h : Grow t B w v l wr) (hy : ∀ s ∈ k, s.Ok) (hown : w'.ownsRow B t 4 v' (l.length + k.length) (encs l ++ encs k)) (hg : wr.grownBy w' v.ownBlock) : Grow t B w v' (l ++ k) w' :=
  ⟨by rw [List.length_append, encs_append]; exact hown, fun s hs => (List.mem_append.1 hs).elim (h.ok s) (hy s), h.below.grown hg (Nat.le_trans h.le h.below.size) (fun j hj => (h.own.lt j hj).1), h.le⟩
theorem Grow.sl {t : TypeId} {B : Nat} {w wr : World} {v : Value} {l : List Sp} (h : Grow t B w v l wr) : ∃ A cap, v = .slice A l.length cap ∧ SL wr A cap l := by
  have own := h.own
  obtain ⟨hl, h2⟩ := id own
  rcases h2 with ⟨rfl, hn⟩ | ⟨g, cap, cur, rfl, hg, hh, hc, hm, rest⟩
  · have e : l = [] := List.eq_nil_of_length_eq_zero hn
    subst e
    exact ⟨none, 0, rfl, SL.nil _ _ _ (by omega)⟩
  · refine ⟨some ⟨g, 0, none⟩, cap, rfl, h.ok, hc, hm, fun i hi => ⟨g, 0, rfl, (Array.getElem?_eq_some_iff.1 hh).1, fun c v hv => ?_⟩⟩
    have := own.cells (g := g) rfl (i * 4 + c) v (encs_get l i c v hi hv)
    rw [Addr.add_lit] at this
    simpa using this
/-- An answer that is a list of spans. -/
def AnsL (l : List Sp) (w : World) (e : Ending) (w' : World) : Prop := ∃ A cap, e = .returned (.slice A l.length cap) ∧ SL w' A cap l ∧ Below w.heap.size w w'
theorem Grow.ans {t : TypeId} {w wr : World} {v : Value} {l : List Sp} (h : Grow t w.heap.size w v l wr) : AnsL l w (.returned v) wr := by
  obtain ⟨A, c, rfl, k⟩ := h.sl
  exact ⟨A, c, rfl, k, h.below⟩
/-- A block of one span, just laid, holds its cells. -/
theorem new4 (wr : World) (s : Sp) (t : TypeId) (a b c d : Int) (h : enc s = [.int .u64 a, .int .u64 b, .int .u64 c, .int .u64 d]) : ∀ (j : Nat) (u : Value), (encs [s])[j]? = some u → (wr.alloc (.cells #[.int .u64 a, .int .u64 b, .int .u64 c, .int .u64 d] t)).cell? ((⟨wr.heap.size, 0, none⟩ : Addr).add j) = some u := by
  intro j u hu
  rw [encs, encs, List.append_nil, h] at hu
  rw [Addr.add_lit, Nat.zero_add]
  have : (wr.alloc (.cells #[.int .u64 a, .int .u64 b, .int .u64 c, .int .u64 d] t)).heap[wr.heap.size]? = some (.cells #[.int .u64 a, .int .u64 b, .int .u64 c, .int .u64 d] t (0, 0)) := show (wr.heap.push _)[wr.heap.size]? = some _ by simp
  simp only [World.cell?, this, Option.isSome_none, Bool.false_eq_true, if_false]
  rw [← hu]; simp
end Go.Proofs.Ytolicfackceomaa
