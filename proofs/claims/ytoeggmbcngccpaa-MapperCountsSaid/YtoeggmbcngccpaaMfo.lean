/-
  Package mapper's writeFour. Over this seat's translation; octets are from 0 to 255, addresses from 0 to 65535.
-/
import Derived.Test.YtoeggmbcngccpaaMkc
import Derived.Test.YtoeggmbcngccpaaTas
import Derived.Test.YtoeggmbcngccpaaHbt
import Derived.Outline
namespace Go.Proofs.Ytoeggmbcngccpaa
open Go.RowKit
set_option linter.unusedSimpArgs false
set_option linter.unusedVariables false

/-- What a register of kind 4 is written to, but for R. -/
def fourM (m : Mp) (r v : Int) : Mp :=
  if r = 0 then { m with se := v } else if r = 2 then { m with mi := v } else if r = 4 then { m with lt := v } else if r = 5 then { m with cn := 0, rl := true }
  else if r = 6 then { m with en := false, iq := false } else if r = 7 then { m with en := true } else m
/-- A block as big as a mapper. -/
def Mpish (cs : Array Value) : Prop := cs.size = 27 ∧ cs.all (·.oneCell') = true
def FourP (n : Nat) (R : Nat) (w : World) (m : Mp) (r v : Int) (e : Ending) (w' : World) : Prop := e = .returned (.tuple #[]) ∧ ∃ cs, Mem n [R] w w' [(R, cs)] ∧ Mpish cs ∧ (r ≠ 1 → cs = mpC (fourM m r v))
theorem mpish (m : Mp) : Mpish (mpC m) := ⟨rfl, by kernel_rfl⟩
theorem mpish_put (m : Mp) (k : Nat) (hk : k < 27) (v : Value) (hv : v.oneCell' = true) : Mpish (splice (mpC m).toList k [v]).toArray := by
  obtain ⟨h1, h2⟩ := mpish m
  have hl : (mpC m).toList.length = 27 := by simpa using h1
  have h3 : ∀ x ∈ (mpC m).toList, x.oneCell' = true := fun x hx => Array.all_eq_true_iff_forall_mem.1 h2 x (by simpa using hx)
  generalize (mpC m).toList = l at hl h3
  refine ⟨by simp [splice, hl]; omega, Array.all_eq_true_iff_forall_mem.2 fun x hx => ?_⟩
  simp only [splice, List.mem_toArray, List.mem_append, List.mem_singleton] at hx
  rcases hx with (hx | hx) | hx
  · exact h3 x (List.mem_of_mem_take hx)
  · rw [hx]; exact hv
  · exact h3 x (List.mem_of_mem_drop hx)
set_option maxHeartbeats 2000000 in
theorem mfour_ct (m : Mp) (a v : Int) (w : World) (R : Nat) (T : TypeId) (hR : w.heap[R]? = some (.cells (mpC m) T)) (a0 : 0 ≤ a) (a1 : a < 65536) (s0 : 0 ≤ m.se) (s1 : m.se < 256) :
    Calls Try.prog 14 #[.pointer (some ⟨R, 0, none⟩), .int .u16 a, .int .u8 v] w (FourP w.heap.size R w m (2 * (a / 8192 % 4) + a % 2) v) := by
  have HP := fun wr => mplace_ct a wr a0 a1
  have hand := and_u16 a 1 1 2 (by decide) (by decide) a0 a1
  have h7 : bits .and .u8 m.se 7 = m.se % 8 := byte_all (p := fun x => bits .and .u8 x 7 = x % 8) (by decide +kernel) m.se s0 s1
  have i0 : 0 ≤ m.se % 8 := by omega
  have i1 : m.se % 8 < 8 := by omega
  obtain ⟨k, hk⟩ : ∃ k : Nat, m.se % 8 = k := ⟨(m.se % 8).toNat, by omega⟩
  rw [hk] at h7 i0 i1
  have i2 : k < 8 := by omega
  have H := Mem.begin hR
  clear hR hk
  have hp : a / 8192 % 4 = 0 ∨ a / 8192 % 4 = 1 ∨ a / 8192 % 4 = 2 ∨ a / 8192 % 4 = 3 := by omega
  have hb : a % 2 = 0 ∨ a % 2 = 1 := by omega
  rcases hp with hp | hp | hp | hp <;> rcases hb with hb | hb
  all_goals
    rw [hp] at HP ⊢
    rw [hb] at hand ⊢
    have HQ := Lib.hid HP
    clear HP hp hb
    simp only [Int.reduceMul, Int.reduceAdd]
    go_enter Try.func14, Try.ntmps14
    go_wp2_with (first
      | go_skip | (refine wpList_mboxA rfl _ _ rfl H _ rfl ?_; clear H; intro _ w1 _ H) | (refine gate_load _ _ rfl ?_; first | (refine wpList_mloadA rfl _ _ rfl _ rfl 0 H _ rfl (by decide +kernel) (by kernel_rfl) ?_) | (refine wpList_mload1 rfl _ _ rfl _ _ rfl 0 H _ (.int _ _) rfl rfl (by decide +kernel) ?_) | (refine wpList_mload1 rfl _ _ rfl _ _ rfl 0 H _ (.bool _) rfl rfl (by decide +kernel) ?_) | (refine wpList_mload1 rfl _ _ rfl _ _ rfl 0 H _ (.pointer _) rfl rfl (by decide +kernel) ?_) | (refine wpList_mload1 rfl _ _ rfl _ _ rfl 0 H _ (.string _) rfl rfl (by decide +kernel) ?_) | (refine wpList_mload1 rfl _ _ rfl _ _ rfl 0 H _ (.slice _ _ _) rfl rfl (by decide +kernel) ?_)) | (refine gate_store _ _ _ rfl ?_; (first | (refine wpList_mstoreA rfl _ _ _ rfl rfl _ rfl 0 H _ _ rfl rfl (by kernel_rfl) (by kernel_rfl) (by kernel_rfl) ?_) | (refine wpList_mstore rfl _ _ _ rfl rfl _ _ rfl 0 H _ _ rfl (.int _ _) rfl (by kernel_rfl) (of_decide_eq_true (by kernel_rfl)) (by kernel_rfl) rfl ?_) | (refine wpList_mstore rfl _ _ _ rfl rfl _ _ rfl 0 H _ _ rfl (.bool _) rfl (by kernel_rfl) (of_decide_eq_true (by kernel_rfl)) (by kernel_rfl) rfl ?_) | (refine wpList_mstore rfl _ _ _ rfl rfl _ _ rfl 0 H _ _ rfl (.pointer _) rfl (by kernel_rfl) (of_decide_eq_true (by kernel_rfl)) (by kernel_rfl) rfl ?_) | (refine wpList_mstore rfl _ _ _ rfl rfl _ _ rfl 0 H _ _ rfl (.string _) rfl (by kernel_rfl) (of_decide_eq_true (by kernel_rfl)) (by kernel_rfl) rfl ?_) | (refine wpList_mstore rfl _ _ _ rfl rfl _ _ rfl 0 H _ _ rfl (.slice _ _ _) rfl (by kernel_rfl) (of_decide_eq_true (by kernel_rfl)) (by kernel_rfl) rfl ?_)); clear H; intro w1 H; simp only [List.set_cons_zero, List.set_cons_succ, mp_set11, mp_set12, mp_set21, mp_set22, mp_set23, mp_set24, mp_set25] at H)
      | (go_at_call 18; refine (HQ.out _).mono ?_; rintro e w2 ⟨rfl, rfl⟩))
  all_goals
    first
      | (go_end0; exact ⟨rfl, _, H, mpish _, fun _ => rfl⟩)
      | skip
  (refine wp_region_tails_below 10 (by kernel_rfl) (by kernel_rfl) ?_); (simp only [List.take_succ_cons, List.take_zero, List.drop_succ_cons, List.drop_zero]); (repeat (first | (go_big_quiet_want; refine gate_qload _ _ rfl ?_; (first | (refine quiet_mloadA _ _ rfl _ rfl 0 H _ rfl (by decide +kernel) (by kernel_rfl) ?_) | (refine quiet_mload1 _ _ rfl _ _ rfl 0 H _ (.int _ _) rfl rfl (by decide +kernel) ?_) | (refine quiet_mload1 _ _ rfl _ _ rfl 0 H _ (.bool _) rfl rfl (by decide +kernel) ?_) | (refine quiet_mload1 _ _ rfl _ _ rfl 0 H _ (.pointer _) rfl rfl (by decide +kernel) ?_) | (refine quiet_mload1 _ _ rfl _ _ rfl 0 H _ (.string _) rfl rfl (by decide +kernel) ?_) | (refine quiet_mload1 _ _ rfl _ _ rfl 0 H _ (.slice _ _ _) rfl rfl (by decide +kernel) ?_)); simp only [Act.put, List.setIfInBounds_toArray, List.set_cons_succ, List.set_cons_zero]; go_big_quiet_on) | go_big_quiet_step (fail))); (refine wpQuiet_nil ?_); intro _ hw'; obtain ⟨⟨dq, osq⟩, hw''⟩ := hw'; (subst hw''); have hq := below_regrown w2 dq osq; replace H := H.next hq; generalize Go.Sort.grow (redrawn w2 dq) osq = wq at *
  refine wpList_mstore rfl _ _ _ rfl rfl _ _ rfl 0 H _ _ rfl (.int _ _) rfl (by kernel_rfl) (by show 13 + k + 1 ≤ 27; omega) (by kernel_rfl) rfl ?_
  clear H
  intro w3 H
  simp only [List.set_cons_zero] at H
  go_wp2
  go_end0
  exact ⟨rfl, _, H, mpish_put m _ (by omega) _ rfl, fun h => absurd rfl h⟩
end Go.Proofs.Ytoeggmbcngccpaa
