/-
  The document's Whole: how many octets stand ahead, what it is, and the error. Over this seat's translation; a text is no longer than a slice may be.
-/
import Derived.Test.YtaljenjnedijgaaHra
import Derived.Test.YtaljenjnedijgaaHrb
import Derived.Test.YtaljenjnedijgaaHcs
import Derived.Test.YtaljenjnedijgaaHch
namespace Go.Proofs.Ytaljenjnedijgaa
open Go.RowKit

theorem run_index_oct (s : ByteArray) (i : Nat) (h : i < s.size) : ((s[i]'h).toNat : Int) = oct s i := oct_at s i h
end Go.Proofs.Ytaljenjnedijgaa
