/-
  What math/bits.Len64 and math/bits.LeadingZeros64 answer in this program: the library's contracts at this program's numbers.
-/
import Derived.Shelf.Small.Bits
import Derived.Shelf.Strconv.Itoa0
import Derived.Test.YtdmoedjjbhkdmaaProg
namespace Go.Proofs.Ytdmoedjjbhkdmaa.Wd
open Go.Shelf

end Go.Proofs.Ytdmoedjjbhkdmaa.Wd
