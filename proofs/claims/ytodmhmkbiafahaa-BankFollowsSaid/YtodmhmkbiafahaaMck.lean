/-
  Package mapper's known and Check. Over this seat's translation; no condition.
-/
import Derived.Test.YtodmhmkbiafahaaMap
import Derived.Test.YtodmhmkbiafahaaHcb
namespace Go.Proofs.Ytodmhmkbiafahaa
open Go.RowKit

set_option maxHeartbeats 1000000 in
theorem mknown_ct (k : Int) (w : World) : Calls Try.prog 31 #[.int .i64 k] w fun e w' => e = .returned (.bool (mapOk k)) ∧ Below w.heap.size w w' := by
  have K := fun wr => hcheck_ct ⟨k, 0, 16384, 8192, false, false, false, false, false⟩ wr
  have e : chkN ⟨k, 0, 16384, 8192, false, false, false, false, false⟩ = if mapOk k = true then 0 else 6 := by
    unfold chkN chkV; cases mapOk k <;> rfl
  rw [e] at K
  unfold crtV at K
  simp only at K
  clear e
  cases hk : mapOk k
  · rw [hk] at K
    have HK := Lib.hid K
    clear K hk
    go_enter Try.func31, Try.ntmps31
    go_wp2_with fail
    ((refine (HK.out _).mono ?_))
    rintro e w1 ⟨rfl, hB⟩
    go_wp2
    go_ret
    exact ⟨rfl, hB⟩
  · rw [hk] at K
    have HK := Lib.hid K
    clear K hk
    go_enter Try.func31, Try.ntmps31
    go_wp2_with fail
    ((refine (HK.out _).mono ?_))
    rintro e w1 ⟨rfl, hB⟩
    go_wp2
    go_ret
    exact ⟨rfl, hB⟩
end Go.Proofs.Ytodmhmkbiafahaa
