/-
  HalfTells answers true, from what half's calls answer.
-/
import Derived.Test.YtdmoedjjbhkdmaaHfTellsW
namespace Go.Proofs.Ytdmoedjjbhkdmaa
open Go.RowKit G
set_option linter.unusedVariables false
set_option maxRecDepth 100000

theorem halfTells (X : HF) (aw : Hid (∀ W, Calls Try.prog 8 #[] W (Bl true W))) (x : Hs) (hx : x.Ok) (many : Int) {a b : Int} {n : Nat} (i : Wn a b n) (w : World) :
    Calls Try.prog 3 #[x.val, .int .i64 many, .agg #[.int .u64 a, .int .u64 b]] w (Bl true w) := by
  have li := i.lt
  obtain ⟨rfl, rfl⟩ := i.of
  refine phtellsMain aw x.w (stepH x).w (jumpH x n).w many _ _ _ (blockH x.C) (fun j => (iterH x j).w) (rowH x) w (Lib.hid (X.word x hx)) (Lib.hid (yWordH x hx)) (Lib.hid (X.step x hx)) (Lib.hid (yStepH x hx))
    (Lib.hid (X.jump x n hx li)) (Lib.hid (yFarH x n hx li)) (Lib.hid (X.block x.C hx.c)) (Lib.hid (yBlock x.C hx.c)) (Lib.hid yOwnH) (Lib.hid rfl) (Lib.hid rfl) (Lib.hid (rowH_len x)) (Lib.hid fun j => ?_) (Lib.hid ?_)
  · exact ⟨wordH (iterH x j), wordH_lt (iterH_ok hx j), yWordH _ (iterH_ok hx j), yStepH _ (iterH_ok hx j), rfl⟩
  · by_cases h : many < 0 ∨ 256 < many
    · exact .arg h (Lib.hid fun W => X.wordsN x many W hx h)
    · obtain ⟨k, rfl⟩ := Int.eq_ofNat_of_zero_le (show 0 ≤ many by omega)
      exact .some k (by omega) rfl (Lib.hid fun W => X.wordsY x k W hx (by omega))
end Go.Proofs.Ytdmoedjjbhkdmaa
