/-
  The walk of HeaderParses, for every text. Over this seat's translation; a text is no longer than a slice may be.
-/
import Derived.Test.YtmjadbljhnecbaaHlq
import Derived.Test.YtmjadbljhnecbaaHlr
namespace Go.Proofs.Ytmjadbljhnecbaa
open Go.RowKit

theorem parses5_walk (t : ByteArray) (n : Int) (w : World) (ht : t.size ≤ maxLen) (n0 : 0 ≤ n) (n1 : n < 4294967296) :
    Calls Try.prog 3 #[.string t, .int .u32 n] w fun e w' => e = .returned (.bool true) ∧ Below w.heap.size w w' := by
  have hz : (fewB t ++ zS (n % 1000000).toNat).size ≤ maxLen := by
    have := fewB_le t
    rw [ByteArray.size_append, zS_size]
    unfold maxLen
    omega
  by_cases hE : wholeE (fewB t ++ zS (n % 1000000).toNat) = 0
  · exact parses5_ok t n w ht n0 n1 _ rfl hz hE
  · exact parses5_err t n w ht n0 n1 _ rfl hz _ rfl hE
end Go.Proofs.Ytmjadbljhnecbaa
