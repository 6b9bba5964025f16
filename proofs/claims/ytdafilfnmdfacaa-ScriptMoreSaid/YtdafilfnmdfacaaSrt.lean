/-
  This seat sorts nothing.
-/
import Derived.Test.YtdafilfnmdfacaaSeq
import Derived.Sort.QuietTacIn
import Derived.BigRegionIn
import Derived.Shelf.SlicesG.Cmp
namespace Go.Proofs.Ytdafilfnmdfacaa
end Go.Proofs.Ytdafilfnmdfacaa
