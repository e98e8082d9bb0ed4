/-
  HalfJumps and HalfApart over the words of numbers.
-/
import Derived.Test.YtdmoedjjbhkdmaaHfJumpsW
import Derived.Test.YtdmoedjjbhkdmaaHfApartV
namespace Go.Proofs.Ytdmoedjjbhkdmaa
open Go.RowKit

theorem halfJumpsU (X : HF) (aw : Hid (∀ W, Calls Try.prog 8 #[] W (Bl true W))) (x : Hs) (hx : x.Ok) {a b c d : Int} {n m : Nat} (i : Wn a b n) (j : Wn c d m) (w : World) :
    Calls Try.prog 6 #[x.val, .agg #[.int .u64 a, .int .u64 b], .agg #[.int .u64 c, .int .u64 d]] w (Bl true w) := by
  have li := i.lt
  have lj := j.lt
  obtain ⟨rfl, rfl⟩ := i.of
  obtain ⟨rfl, rfl⟩ := j.of
  exact halfJumps X aw x n m hx li lj w
theorem halfApartU (X : HF) (aw : Hid (∀ W, Calls Try.prog 8 #[] W (Bl true W))) (x : Hs) (hx : x.Ok) {a b c d : Int} {n m : Nat} (i : Wn a b n) (j : Wn c d m) (w : World) :
    Calls Try.prog 7 #[x.val, .agg #[.int .u64 a, .int .u64 b], .agg #[.int .u64 c, .int .u64 d]] w (Bl true w) := by
  have li := i.lt
  have lj := j.lt
  obtain ⟨rfl, rfl⟩ := i.of
  obtain ⟨rfl, rfl⟩ := j.of
  exact halfApart X aw x n m hx li lj w
end Go.Proofs.Ytdmoedjjbhkdmaa
