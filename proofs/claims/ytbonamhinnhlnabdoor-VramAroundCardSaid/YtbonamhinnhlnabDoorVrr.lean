/-
  The document's Kind, Palette and Screen; layer 13's awake. Over this seat's translation; addresses are from 0 to 65535.
-/
import Derived.Test.YtbonamhinnhlnabDoorVrm
namespace Go.Proofs.YtbonamhinnhlnabDoor
open Go.RowKit
set_option linter.unusedSimpArgs false
set_option linter.unusedVariables false
set_option maxRecDepth 20000

theorem pl_by (a m : Int) (hm : a % 32 = m) (m0 : 0 ≤ m ∧ m < 32) : plV a = if m = 16 ∨ m = 20 ∨ m = 24 ∨ m = 28 then m - 16 else m := by
  unfold plV
  rw [hm]
  by_cases h : 16 ≤ m ∧ m % 4 = 0
  · rw [if_pos h, if_pos (by omega)]
  · rw [if_neg h, if_neg (by omega)]
set_option maxHeartbeats 2000000 in
theorem awake13_ct (w : World) (G : GlobV w) : Calls Tryd.prog 8 #[] w fun e w' => e = .returned (.bool true) ∧ Below w.heap.size w w' := by
  have K1 := fun wr (g : GlobV wr) => vscr_ct 10240 0 wr g (by decide) (by decide)
  rw [show scR 10240 0 = (1024, 0) by decide +kernel] at K1
  have K2 := fun wr (g : GlobV wr) => vscr_ct 10240 1 wr g (by decide) (by decide)
  rw [show scR 10240 1 = (0, 0) by decide +kernel] at K2
  have K3 := fun wr => vpal_ct 16144 wr (by decide) (by decide)
  rw [show plR 16144 = (0, 0) by decide +kernel] at K3
  have K4 := fun wr => vkind_ct 16127 wr (by decide) (by decide)
  rw [show kdV 16127 = 1 by decide +kernel] at K4
  have Q1 := Lib.hid K1
  have Q2 := Lib.hid K2
  have Q3 := Lib.hid K3
  have Q4 := Lib.hid K4
  clear K1 K2 K3 K4
  have GG := Lib.hid G
  clear G
  have H := Mem.start w
  go_enter Tryd.func8, Tryd.ntmps8
  go_wp2_with (first
    | (go_at_call 5; first
        | ((with_reducible refine (Q1.out _ (GG.out.mem H)).mono ?_); rintro e w2 ⟨rfl, hB⟩; replace H := H.next hB; clear hB)
        | ((with_reducible refine (Q2.out _ (GG.out.mem H)).mono ?_); rintro e w2 ⟨rfl, hB⟩; replace H := H.next hB; clear hB))
    | (go_at_call 6; (with_reducible refine (Q3.out _).mono ?_); rintro e w2 ⟨rfl, hB⟩; replace H := H.next hB; clear hB)
    | (go_at_call 7; (with_reducible refine (Q4.out _).mono ?_); rintro e w2 ⟨rfl, hB⟩; replace H := H.next hB; clear hB)
    | fail)
  go_ret
  exact ⟨rfl, H.toBelow⟩
end Go.Proofs.YtbonamhinnhlnabDoor
