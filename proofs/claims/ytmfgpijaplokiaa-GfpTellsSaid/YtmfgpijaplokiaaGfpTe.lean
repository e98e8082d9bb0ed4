/-
  GfpTells of layer 2 answers true for every two polynomials and every place: words for it, and the lists that are too long. Made by wip/gen/gfptells.py.
-/
import Derived.Test.YtmfgpijaplokiaaGfpTd
import Derived.Deep.RegionHeld3
import Derived.Deep.DeepCutAuto
namespace Go.Proofs.Ytmfgpijaplokiaa
open Go.RowKit G
set_option linter.unusedVariables false

theorem sameL_self (us : List Nat) : sameL us us = true := by unfold sameL; simp
theorem lst1 (w : World) : Lst (w.alloc (.cells #[.int .i64 1] 3)) (some ⟨w.heap.size, 0, none⟩) 1 [1] :=
  ⟨fun x hx => (by rw [List.mem_singleton.1 hx]; decide), Nat.le_refl _, by decide, fun i hi => ⟨w.heap.size, 0, rfl, by
    obtain rfl : i = 0 := by simpa using hi
    simp⟩⟩
theorem lst0 (w : World) (N : Nat) (hN : N = 0) : Lst (w.alloc (.cells #[] 3)) (some ⟨w.heap.size, 0, none⟩) 0 (bitsOf N) := by
  subst hN
  rw [bitsOf_zero]
  exact Lst.nil _ _ _ (by decide)
theorem Lst.drewN {w : World} {A : Option Addr} {cap : Nat} {xs : List Nat} (h : Lst w A cap xs) (n : Nat) : Lst (w.drewN n) A cap xs := ⟨h.bit, h.cap1, h.cap2, h.cell⟩
/-- What is kept over a part of the walk. -/
structure KpT0 (w : World) (Aa Ab : Option Addr) (ca cb : Nat) (xs ys : List Nat) (Ax Ay : Option Addr) (cx cy X Y : Nat) (Az : Option Addr) (cz : Nat) (Au : Option Addr) (cu Z U : Nat) (wc : World) : Prop where
  pa : Pol wc Aa ca xs
  pb : Pol wc Ab cb ys
  px : Lst wc Ax cx (bitsOf X)
  py : Lst wc Ay cy (bitsOf Y)
  pz : Lst wc Az cz (bitsOf Z)
  pu : Lst wc Au cu (bitsOf U)
  hB : Below w.heap.size w wc
def KpT (w : World) (Aa Ab : Option Addr) (ca cb : Nat) (xs ys : List Nat) (Ax Ay : Option Addr) (cx cy X Y : Nat) (Az : Option Addr) (cz : Nat) (Au : Option Addr) (cu Z U : Nat) (_ : Value) (wc : World) : Prop := KpT0 w Aa Ab ca cb xs ys Ax Ay cx cy X Y Az cz Au cu Z U wc
section
variable {w : World} {Aa Ab : Option Addr} {ca cb : Nat} {xs ys : List Nat} {Ax Ay : Option Addr} {cx cy X Y : Nat} {Az : Option Addr} {cz : Nat} {Au : Option Addr} {cu Z U : Nat} {wc : World}
theorem KpT0.out {v : Value} (h : KpT0 w Aa Ab ca cb xs ys Ax Ay cx cy X Y Az cz Au cu Z U wc) : KpT w Aa Ab ca cb xs ys Ax Ay cx cy X Y Az cz Au cu Z U v wc := h
theorem KpT.all {v : Value} (h : KpT w Aa Ab ca cb xs ys Ax Ay cx cy X Y Az cz Au cu Z U v wc) : KpT0 w Aa Ab ca cb xs ys Ax Ay cx cy X Y Az cz Au cu Z U wc := h
theorem KpT0.below {w' : World} (h : KpT0 w Aa Ab ca cb xs ys Ax Ay cx cy X Y Az cz Au cu Z U wc) (hb : Below wc.heap.size wc w') : KpT0 w Aa Ab ca cb xs ys Ax Ay cx cy X Y Az cz Au cu Z U w' :=
  ⟨h.pa.below hb, h.pb.below hb, h.px.below hb, h.py.below hb, h.pz.below hb, h.pu.below hb, below_then h.hB hb⟩
theorem KpT0.drewN (h : KpT0 w Aa Ab ca cb xs ys Ax Ay cx cy X Y Az cz Au cu Z U wc) (n : Nat) : KpT0 w Aa Ab ca cb xs ys Ax Ay cx cy X Y Az cz Au cu Z U (wc.drewN n) := h.below (below_drewN n)
end
/-- A test's answer, the world as it was. -/
structure CutB (b : Bool) (V : World) (s : Value) (wc : World) : Prop where
  val : s = .bool b
  same : V = wc
theorem CutB.of {b c : Bool} {V : World} (h : c = b) : CutB b V (.bool c) V := ⟨by rw [h], rfl⟩
theorem rPartsK {A : Option Addr} {cap L : Nat} {xs : List Nat} {w : World} (N K : Nat) (hK : (bitsOf N).length = K) (P : Pol w A cap xs) (hL : xs.length = L) (hN : leN xs = N) (hl : L ≤ 10000) :
    Calls Try.prog 9 #[.slice A L cap] w (fun e w' => ∃ (A : Option Addr) (cap : Nat), e = .returned (.slice A K cap) ∧ Lst w' A cap (bitsOf N) ∧ Below w.heap.size w w') := by
  subst hK
  exact rParts N P hL hN hl
theorem take1 (xs : List Nat) (x : Nat) (h : 0 < xs.length) (hx : xs.getD 0 0 = x) : xs.take 1 = [x] := by
  have := take_next xs 0 x h hx
  simpa using this
theorem leN_one (x : Nat) : leN [x] = x := by simp [leN]
theorem words_join (x y : Nat) : leN [clm x y % 18446744073709551616, clm x y / 18446744073709551616] = clm x y := by simp only [leN]; omega
theorem polN2 (w : World) (l h : Nat) (hl : l < 18446744073709551616) (hh : h < 18446744073709551616) : Pol (w.alloc (.cells #[.int .u64 (l : Int), .int .u64 (h : Int)] 29)) (some ⟨w.heap.size, 0, none⟩) 2 [l, h] := pol2 w l h _ _ rfl rfl hl hh
theorem xIn (n Z : Nat) (e : 2 ^ n = Z) (hn : n ≤ 2048) (w : World) : Calls Try.prog 19 #[.int .i64 (n : Int)] w (Ans Z w) := by subst e; exact cX n hn w
theorem xOut (n : Int) (Z : Nat) (e : 0 = Z) (hn : n < 0 ∨ 2048 < n) (w : World) : Calls Try.prog 19 #[.int .i64 n] w (Ans Z w) := by subst e; exact cXout n hn w
theorem upOut (A : Option Addr) (L ca : Nat) (n : Int) (Z : Nat) (e : 0 = Z) (hn : n < 0 ∨ 2048 < n) (w : World) : Calls Try.prog 22 #[.slice A L ca, .int .i64 n] w (Ans Z w) := by subst e; exact upNone A L ca n hn w
set_option maxRecDepth 100000 in
set_option maxHeartbeats 4000000 in
theorem tellsLarge (Aa Ab : Option Addr) (ca cb La Lb : Nat) (n : Int) (w : World) (h : 16 < La ∨ 16 < Lb) :
    Calls Try.prog 3 #[.slice Aa La ca, .slice Ab Lb cb, .int .i64 n] w (Bl true w) := by
  go_enter Try.func3, Try.ntmps3
  have hB : Below w.heap.size w w := Below.refl _ _
  go_wp2_with fail
  refine (awake _).mono ?_
  rintro e w1 ⟨rfl, hb⟩
  replace hB := below_then hB hb
  clear hb
  go_wp2_with fail
  refine (large2Yes Aa Ab La ca Lb cb h _).mono ?_
  rintro e wL ⟨rfl, rfl⟩
  replace hB := below_alloc hB (.cells #[.slice Aa La ca, .slice Ab Lb cb] 23)
  generalize hVL : World.alloc _ _ = VL at hB ⊢
  clear hVL
  go_wp2_with fail
  go_ret
  exact ⟨rfl, hB⟩
end Go.Proofs.Ytmfgpijaplokiaa
