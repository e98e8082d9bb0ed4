/-
  What math/bits.Len64 and math/bits.LeadingZeros64 answer in this program: the library's contracts at this program's numbers.
-/
import Derived.Test.YtolicfackceomaaProg
namespace Go.Proofs.Ytolicfackceomaa.Wd
open Go

end Go.Proofs.Ytolicfackceomaa.Wd
