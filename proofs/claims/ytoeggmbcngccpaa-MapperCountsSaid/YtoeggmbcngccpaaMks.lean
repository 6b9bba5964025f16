/-
  Package mapper's place, rise and Clock; the law's wired. Over this seat's translation; no condition but that octets are from 0 to 255.
-/
import Derived.Test.YtoeggmbcngccpaaMwr
import Derived.Outline
namespace Go.Proofs.Ytoeggmbcngccpaa
open Go.RowKit
set_option linter.unusedSimpArgs false
set_option linter.unusedVariables false

/-- A rise counts. -/
def riseM (m : Mp) : Mp :=
  let c := if m.cn = 0 ∨ m.rl = true then m.lt else (m.cn - 1) % 256
  { m with cn := c, rl := false, iq := if c = 0 ∧ m.en = true then true else m.iq }
def clockM (m : Mp) (a : Bool) : Mp :=
  if m.k = 4 then
    if a = true then { (if 8 ≤ m.lo then riseM m else m) with lo := 0 } else { m with lo := min (m.lo + 1) 100 }
  else m
set_option maxHeartbeats 1000000 in
theorem mrise_ct (m : Mp) (w : World) (R : Nat) (T : TypeId) (hR : w.heap[R]? = some (.cells (mpC m) T)) (c0 : 0 ≤ m.cn) (c1 : m.cn < 256) (hlt : 0 ≤ m.lt ∧ m.lt < 256) : Calls Try.prog 15 #[.pointer (some ⟨R, 0, none⟩)] w fun e w' => e = .returned (.tuple #[]) ∧ Mem w.heap.size [R] w w' [(R, mpC (riseM m))] := by
  have H := Mem.begin hR
  have cA := H.cell (i := 0) rfl (mp_at23 m)
  clear hR
  have hcase : ∀ (bz be : Bool), (m.cn == 0) = bz → m.en = be → ∀ c : Int, (if m.cn = 0 ∨ m.rl = true then m.lt else (m.cn - 1) % 256) = c → ∀ b0 : Bool, (c == 0) = b0 → riseM m = { m with cn := c, rl := false, iq := if b0 = true ∧ be = true then true else m.iq } := by
    intro bz be _ hbe c hc b0 hb0
    unfold riseM
    rw [hc]
    subst hbe hb0
    simp
  have hlt0 := hlt.1
  have hlt1 := hlt.2
  clear hlt
  cases hz : (m.cn == 0) <;> cases hr : m.rl <;> cases he : m.en
  all_goals
    have hz' := hz
    simp at hz'
    obtain ⟨c, hc⟩ : ∃ c, (if m.cn = 0 ∨ m.rl = true then m.lt else (m.cn - 1) % 256) = c := ⟨_, rfl⟩
    have hc' := hc
    simp [hz', hr] at hc'
    obtain ⟨b0, hb0⟩ : ∃ b0, (c == 0) = b0 := ⟨_, rfl⟩
    have E := hcase _ _ hz he c hc b0 hb0
    clear hcase hc
    rw [E]
    subst hc'
    clear E hz'
    cases b0
    all_goals
      simp only [Bool.false_eq_true, and_true, and_false, and_self, if_true, if_false]
      go_enter Try.func15, Try.ntmps15
      go_wp2_with (first
        | go_skip | (refine wpList_mboxA rfl _ _ rfl H _ rfl ?_; clear H; intro _ w1 _ H) | (refine gate_load _ _ rfl ?_; first | (refine wpList_mloadA rfl _ _ rfl _ rfl 0 H _ rfl (by decide +kernel) (by kernel_rfl) ?_) | (refine wpList_mload1 rfl _ _ rfl _ _ rfl 0 H _ (.int _ _) rfl rfl (by decide +kernel) ?_) | (refine wpList_mload1 rfl _ _ rfl _ _ rfl 0 H _ (.bool _) rfl rfl (by decide +kernel) ?_) | (refine wpList_mload1 rfl _ _ rfl _ _ rfl 0 H _ (.pointer _) rfl rfl (by decide +kernel) ?_) | (refine wpList_mload1 rfl _ _ rfl _ _ rfl 0 H _ (.string _) rfl rfl (by decide +kernel) ?_) | (refine wpList_mload1 rfl _ _ rfl _ _ rfl 0 H _ (.slice _ _ _) rfl rfl (by decide +kernel) ?_)) | (refine gate_store _ _ _ rfl ?_; (first | (refine wpList_mstoreA rfl _ _ _ rfl rfl _ rfl 0 H _ _ rfl rfl (by kernel_rfl) (by kernel_rfl) (by kernel_rfl) ?_) | (refine wpList_mstore rfl _ _ _ rfl rfl _ _ rfl 0 H _ _ rfl (.int _ _) rfl (by kernel_rfl) (of_decide_eq_true (by kernel_rfl)) (by kernel_rfl) rfl ?_) | (refine wpList_mstore rfl _ _ _ rfl rfl _ _ rfl 0 H _ _ rfl (.bool _) rfl (by kernel_rfl) (of_decide_eq_true (by kernel_rfl)) (by kernel_rfl) rfl ?_) | (refine wpList_mstore rfl _ _ _ rfl rfl _ _ rfl 0 H _ _ rfl (.pointer _) rfl (by kernel_rfl) (of_decide_eq_true (by kernel_rfl)) (by kernel_rfl) rfl ?_) | (refine wpList_mstore rfl _ _ _ rfl rfl _ _ rfl 0 H _ _ rfl (.string _) rfl (by kernel_rfl) (of_decide_eq_true (by kernel_rfl)) (by kernel_rfl) rfl ?_) | (refine wpList_mstore rfl _ _ _ rfl rfl _ _ rfl 0 H _ _ rfl (.slice _ _ _) rfl (by kernel_rfl) (of_decide_eq_true (by kernel_rfl)) (by kernel_rfl) rfl ?_)); clear H; intro w1 H; simp only [List.set_cons_zero, List.set_cons_succ, mp_set22, mp_set23, mp_set25] at H)
        | fail)
      go_end0
      exact ⟨rfl, H⟩
end Go.Proofs.Ytoeggmbcngccpaa
