/-
  The document's Whole, of what begins as a header of the first kind does. Over this seat's translation; a text is no longer than a slice may be.
-/
import Derived.Test.YtaljenjnedijgaaHwd
namespace Go.Proofs.Ytaljenjnedijgaa
open Go.RowKit

end Go.Proofs.Ytaljenjnedijgaa
