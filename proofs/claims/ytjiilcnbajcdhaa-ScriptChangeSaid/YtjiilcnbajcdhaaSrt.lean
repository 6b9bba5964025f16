/-
  This seat sorts nothing.
-/
import Derived.Test.YtjiilcnbajcdhaaSeq
import Derived.Sort.QuietTacIn
import Derived.BigRegionIn
import Derived.Shelf.SlicesG.Cmp
namespace Go.Proofs.Ytjiilcnbajcdhaa
end Go.Proofs.Ytjiilcnbajcdhaa
