/-
  Whether two policies are the same, as the document tells it. Over this seat's translation; no condition.
-/
import Derived.Test.YtjiilcnbajcdhaaDoorPck
import Derived.Test.YtjiilcnbajcdhaaDoorRgb
namespace Go.Proofs.YtjiilcnbajcdhaaDoor
open Go.RowKit

end Go.Proofs.YtjiilcnbajcdhaaDoor
