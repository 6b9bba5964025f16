/-
  Contracts of the document's plain answers that read cells, and of the laws' own helpers: whether two are the same, whether ranges may be, and no more than are looked at. Over this seat's translation; no condition.
-/
import Derived.Test.YtfceifmhlmiiiaaGreatDoorRgb
import Derived.Lib.QuietBelow
namespace Go.Proofs.YtfceifmhlmiiiaaGreatDoor
open Go.RowKit

/-! ### which ranges may be: the document's answer -/
def leastAt (l : List (Int × Int)) : Nat → Int
  | 0 => 0
  | k + 1 => (nthR l k).2 + 2
def wholeAt (l : List (Int × Int)) : Nat → Prop
  | 0 => True
  | k + 1 => wholeB (nthR l k) = true
end Go.Proofs.YtfceifmhlmiiiaaGreatDoor
