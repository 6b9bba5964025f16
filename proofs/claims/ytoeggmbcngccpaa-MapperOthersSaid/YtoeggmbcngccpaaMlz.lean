/-
  The walk of MapperOthers, put together. Over this seat's translation; octets are from 0 to 255, addresses from 0 to 65535.
-/
import Derived.Test.YtoeggmbcngccpaaMlo
namespace Go.Proofs.Ytoeggmbcngccpaa
open Go.RowKit
set_option linter.unusedSimpArgs false
set_option linter.unusedVariables false

theorem others_walk (c : Crt) (m : Mp) (a v u : Int) (b : Bool) (w : World) (ok : MpOk m) (a0 : 0 ≤ a) (a1 : a < 65536) (v0 : 0 ≤ v) (v1 : v < 256) :
    Calls Try.prog 5 #[.agg (askC c m a v u b)] w fun e w' => e = .returned (.bool true) ∧ Below w.heap.size w w' := by
  cases hm : mayB m
  · exact others_no c m a v u b w hm
  · rcases mapOk_of hm with hk | hk | hk | hk | hk | hk
    · exact others_0 c m a v u b w hm ok a0 a1 v0 v1 hk
    · exact others_1 c m a v u b w hm ok a0 a1 v0 v1 hk
    · exact others_2 c m a v u b w hm ok a0 a1 v0 v1 hk
    · exact others_3 c m a v u b w hm ok a0 a1 v0 v1 hk
    · exact others_4 c m a v u b w hm ok a0 a1 v0 v1 hk
    · exact others_7 c m a v u b w hm ok a0 a1 v0 v1 hk
end Go.Proofs.Ytoeggmbcngccpaa
