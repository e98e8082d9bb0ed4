/-
  Rows.WideTellsSaid: for every two numbers of package wide, every int and every list of bytes the statement WideTells answers true and leaves its arguments as they were. No condition.
-/
import Derived.Test.YtjgpmbgfcdckhaaWideTx
import Derived.Test.YtjgpmbgfcdckhaaWideTy
import Derived.Lib.SmallJoins
namespace Go.Proofs.Ytjgpmbgfcdckhaa.wideTells
open Go.ChangeShapes Go.WideShapes Go.ChangeAt Go.RowKit Go.Joins
set_option linter.unusedVariables false

theorem tellsAll (A B n : Int) (ha : Rng A) (hb : Rng B) (pa : Option Addr) (pl pc : Nat) (w : World) (i : Is16 w pa pl pc) :
    Calls Try.prog 3 #[.agg #[.int .u64 (hi A), .int .u64 (lo A)], .agg #[.int .u64 (hi B), .int .u64 (lo B)], .int .i64 n, .slice pa pl pc] w (fun e w' => e = .returned (.bool true) ∧ Below w.heap.size w w') := by
  by_cases h1 : (100 : Int) < (pl : Int)
  · exact tellsShort A B n pa pl pc w h1
  · by_cases h2 : pl = 16
    · obtain ⟨b, o, xs, rfl, hlt, hc, hl, h8, hby⟩ := i h2
      subst h2
      obtain ⟨S, T, M, F, L, R, l, b', c, c1, c2, str, t⟩ := tl_of A B n ha hb w (.slice (some ⟨b, o, none⟩) 16 pc) (le256 xs) 0
        (fun w' hw => wTakeL b o pc hc xs hl h8 w' (Nat.lt_of_lt_of_le hlt hw.size) (hby.below hlt hw))
        (fun w' hw => rTake b o pc xs (Lib.hid h8) (Lib.hid hl) w' (Nat.lt_of_lt_of_le hlt hw.size) (Lib.hid (hby.below hlt hw)))
      exact tellsWalk A B n _ 16 pc S T M (le256 xs) F L R l b' c c1 c2 0 str w (Lib.hid t) h1
    · obtain ⟨S, T, M, F, L, R, l, b', c, c1, c2, str, t⟩ := tl_of A B n ha hb w (.slice pa pl pc) 0 11
        (fun w' _ => (wTakeNo pa pl pc h2 w').mono fun _ _ q => n3_no q)
        (fun w' _ => (rTakeNo pa pl pc h2 w').mono fun _ _ q => n3_no q)
      exact tellsWalk A B n pa pl pc S T M 0 F L R l b' c c1 c2 11 str w (Lib.hid t) h1

set_option maxRecDepth 100000 in
theorem lifted (os : Os) (started : os.Started) (H : Type) (enc : TypeId × Value → H) :
    ReturnsInHanded {} Try.checked os 3 .any (Rows.wideTellsSpec.pre6 enc Try.prog Try.f3 Rows.wideTellsRow.domain false) (Rows.wideTellsSpec.post enc Try.prog Try.f3 false true false false) := by
  refine returnsInHanded_of_change (C := Try.checked) own started (by kernel_rfl) Try.func3
    (ChangeSpec.witness6 (enc := enc) (C := Try.checked) false ⟨#[], #[.agg #[.int .u64 0, .int .u64 0], .agg #[.int .u64 0, .int .u64 0], .int .i64 0, .slice none 0 0], []⟩ 8 (by kernel_rfl) (by kernel_rfl) (by kernel_rfl) (by kernel_rfl)) ?_
  intro W base args ds gs before hval0 hW hcnd _
  have hval : ∀ (j : Nat) t v, Try.f3.params[j]? = some t → args[j]? = some v → Value.okWide Try.prog W .any base t v := hval0
  have hW' := hW
  obtain ⟨p, q, hA0, hV, rfl, hfz, hnd⟩ := hW
  have hA : DataW.TrodAll enc Try.prog W 0 (fun _ => true) true Try.f3.params.toList args.toList ds p := hA0
  rw [Try.params3] at hA hval
  obtain ⟨v0, v1, v2, v3, d0, d1, d2, d3, p0, p1, p2, p3, rfl, rfl, rfl, h0, h1, h2, h3⟩ := trodAll_four hA
  obtain ⟨rfl, rfl⟩ := trodVars_none hV
  obtain ⟨A, ra, rfl, rfl, rfl, sa⟩ := openU (hval 0 24 v0 rfl rfl) h0
  obtain ⟨B, rb, rfl, rfl, rfl, sb⟩ := openU (hval 1 24 v1 rfl rfl) h1
  obtain ⟨n, rfl, rfl, rfl, wn⟩ := open_int Try.underlying3 (hval 2 3 v2 rfl rfl) h2
  obtain ⟨pa, pl, pc, rfl, is⟩ := openB Try.underlying25 (hval 3 25 v3 rfl rfl) h3
  clear hA0 hval0
  simp only [List.append_nil] at hW'
  refine (tellsAll A B n ra rb pa pl pc W is).mono fun e W' ⟨he, hb⟩ => ?_
  subst he
  have again : ∀ sp : Nat → Bool, (∀ q ∈ ([] : List MemPlace) ++ (([] : List MemPlace) ++ (([] : List MemPlace) ++ p3)), sp q.block = true) → DataW.TrodAll enc Try.prog W' 0 sp true [24, 24, 3, 25] [.agg #[.int .u64 (hi A), .int .u64 (lo A)], .agg #[.int .u64 (hi B), .int .u64 (lo B)], .int .i64 n, .slice pa pl pc] [.agg [.lit (.int .u64 (hi A)), .lit (.int .u64 (lo A))], .agg [.lit (.int .u64 (hi B)), .lit (.int .u64 (lo B))], .lit (.int .i64 n), d3] (([] : List MemPlace) ++ (([] : List MemPlace) ++ (([] : List MemPlace) ++ p3))) := fun sp hs =>
    trodAll_mk4 (sa _ sp) (sb _ sp) (shut_int Try.underlying3 wn) (trod_below (by kernel_rfl) (of_decide_eq_true (by kernel_rfl)) h3 hb (fun q hq => hs q (by simp [hq])))
  exact ⟨_, rfl, post_of_below (pa := ([] : List MemPlace) ++ (([] : List MemPlace) ++ (([] : List MemPlace) ++ p3))) (pv := []) hW' (fun _ _ _ => trodAll_mk1 (shut_bool Try.underlying4 _)) (fun sp hs => again sp (fun q hq => hs q (by simpa using hq))) (fun _ _ => rfl) (by simp)
    hb (ok_one (by kernel_rfl) rfl (okWide_bool_mk Try.underlying4 _))⟩

theorem over : Rows.wideTellsRow.holds Try.pinned (OpenSpec.ofChange Rows.wideTellsSpec) :=
  OpenClaim.holds_of_wide 3 Try.f3 rfl rfl rfl rfl rfl rfl rfl ⟨rfl, rfl, rfl, rfl, rfl⟩ rfl rfl rfl rfl rfl (by kernel_rfl) Try.func3 (by kernel_rfl)
    (of_decide_eq_true (by kernel_rfl)) (by unfold Func.isWrapper; first | (rw [if_pos (by decide +kernel)]; kernel_rfl) | (rw [if_neg (by decide +kernel)]; exact ⟨rfl, rfl⟩))
    (fun os started H enc _ => lifted os started H enc)
end Go.Proofs.Ytjgpmbgfcdckhaa.wideTells
namespace Go.Proofs.Ytjgpmbgfcdckhaa
theorem wideTells_holds : Rows.WideTellsSaid := wideTells.over
#print axioms wideTells_holds
end Go.Proofs.Ytjgpmbgfcdckhaa
