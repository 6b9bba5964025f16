/-
  Package mapper's writeBit. Over this seat's translation; octets are from 0 to 255, addresses from 0 to 65535.
-/
import Derived.Test.YtoeggmbcngccpaaMfi
namespace Go.Proofs.Ytoeggmbcngccpaa
open Go.RowKit
set_option linter.unusedSimpArgs false
set_option linter.unusedVariables false

/-- Bit k of a number is b. -/
def putN (s : Int) (k : Nat) (b : Int) : Int := s - s / ((2 ^ k : Nat) : Int) % 2 * ((2 ^ k : Nat) : Int) + b * ((2 ^ k : Nat) : Int)
def bitM (m : Mp) (p v u : Int) : Mp :=
  if 128 ≤ v then { m with la := u, sh := 0, ct := 0, cl := m.cl % 4 + 12 + m.cl / 16 * 16 }
  else
    let m1 := { m with la := u, sh := putN m.sh m.ct.toNat (v % 2), ct := m.ct + 1 }
    if m.ct = 4 then fillM m1 p else m1
theorem byte5 {p : Int → Prop} (h : ∀ x : Fin 32, p (x.val : Int)) (x : Int) (h0 : 0 ≤ x) (h1 : x < 32) : p x := by
  have := h ⟨x.toNat, by omega⟩
  simpa [Int.toNat_of_nonneg h0] using this
theorem put0 (s : Int) (s0 : 0 ≤ s) (s1 : s < 32) (b : Int) (hb : b = 0 ∨ b = 1) : bits .or .u8 (bits .andNot .u8 s 1) b = putN s 0 b := by
  rcases hb with rfl | rfl
  · exact byte5 (p := fun s => bits .or .u8 (bits .andNot .u8 s 1) 0 = putN s 0 0) (by decide +kernel) s s0 s1
  · exact byte5 (p := fun s => bits .or .u8 (bits .andNot .u8 s 1) 1 = putN s 0 1) (by decide +kernel) s s0 s1
theorem put1 (s : Int) (s0 : 0 ≤ s) (s1 : s < 32) (b : Int) (hb : b = 0 ∨ b = 1) : bits .or .u8 (bits .andNot .u8 s 2) (b * 2) = putN s 1 b := by
  rcases hb with rfl | rfl
  · exact byte5 (p := fun s => bits .or .u8 (bits .andNot .u8 s 2) (0 * 2) = putN s 1 0) (by decide +kernel) s s0 s1
  · exact byte5 (p := fun s => bits .or .u8 (bits .andNot .u8 s 2) (1 * 2) = putN s 1 1) (by decide +kernel) s s0 s1
theorem put2 (s : Int) (s0 : 0 ≤ s) (s1 : s < 32) (b : Int) (hb : b = 0 ∨ b = 1) : bits .or .u8 (bits .andNot .u8 s 4) (b * 4) = putN s 2 b := by
  rcases hb with rfl | rfl
  · exact byte5 (p := fun s => bits .or .u8 (bits .andNot .u8 s 4) (0 * 4) = putN s 2 0) (by decide +kernel) s s0 s1
  · exact byte5 (p := fun s => bits .or .u8 (bits .andNot .u8 s 4) (1 * 4) = putN s 2 1) (by decide +kernel) s s0 s1
theorem put3 (s : Int) (s0 : 0 ≤ s) (s1 : s < 32) (b : Int) (hb : b = 0 ∨ b = 1) : bits .or .u8 (bits .andNot .u8 s 8) (b * 8) = putN s 3 b := by
  rcases hb with rfl | rfl
  · exact byte5 (p := fun s => bits .or .u8 (bits .andNot .u8 s 8) (0 * 8) = putN s 3 0) (by decide +kernel) s s0 s1
  · exact byte5 (p := fun s => bits .or .u8 (bits .andNot .u8 s 8) (1 * 8) = putN s 3 1) (by decide +kernel) s s0 s1
theorem put4 (s : Int) (s0 : 0 ≤ s) (s1 : s < 32) (b : Int) (hb : b = 0 ∨ b = 1) : bits .or .u8 (bits .andNot .u8 s 16) (b * 16) = putN s 4 b := by
  rcases hb with rfl | rfl
  · exact byte5 (p := fun s => bits .or .u8 (bits .andNot .u8 s 16) (0 * 16) = putN s 4 0) (by decide +kernel) s s0 s1
  · exact byte5 (p := fun s => bits .or .u8 (bits .andNot .u8 s 16) (1 * 16) = putN s 4 1) (by decide +kernel) s s0 s1
set_option maxHeartbeats 4000000 in
theorem mbit_ct (m : Mp) (a v u : Int) (w : World) (R : Nat) (T : TypeId) (hR : w.heap[R]? = some (.cells (mpC m) T)) (a0 : 0 ≤ a) (a1 : a < 65536) (v0 : 0 ≤ v) (v1 : v < 256) (s0 : 0 ≤ m.sh) (s1 : m.sh < 32) (c0 : 0 ≤ m.ct) (c1 : m.ct < 5) (l0 : 0 ≤ m.cl) (l1 : m.cl < 256) (hne : (u == wrap64 (m.la + 1)) = false) :
    Calls Try.prog 13 #[.pointer (some ⟨R, 0, none⟩), .int .u16 a, .int .u8 v, .int .i64 u] w fun e w' => e = .returned (.tuple #[]) ∧ Mem w.heap.size [R] w w' [(R, mpC (bitM m (a / 8192 % 4) v u))] := by
  have H := Mem.begin hR
  have HF := Lib.hid (fun m wr R T h => mfill_ct m a wr R T h a0 a1)
  have h12 : bits .or .u8 m.cl 12 = m.cl % 4 + 12 + m.cl / 16 * 16 := byte_all (p := fun x => bits .or .u8 x 12 = x % 4 + 12 + x / 16 * 16) (by decide +kernel) m.cl l0 l1
  have h80 : bits .and .u8 v 128 = v / 128 * 128 := byte_all (p := fun x => bits .and .u8 x 128 = x / 128 * 128) (by decide +kernel) v v0 v1
  have h01 := hand1 v v0 v1
  by_cases hv : 128 ≤ v
  · have E : bitM m (a / 8192 % 4) v u = { m with la := u, sh := 0, ct := 0, cl := m.cl % 4 + 12 + m.cl / 16 * 16 } := by unfold bitM; rw [if_pos hv]
    rw [E, ← h12]
    rw [show v / 128 * 128 = 128 by omega] at h80
    clear E h12 hR h01
    go_enter Try.func13, Try.ntmps13
    go_wp2_with (first
      | go_skip | (refine wpList_mboxA rfl _ _ rfl H _ rfl ?_; clear H; intro _ w1 _ H) | (refine gate_load _ _ rfl ?_; first | (refine wpList_mloadA rfl _ _ rfl _ rfl 0 H _ rfl (by decide +kernel) (by kernel_rfl) ?_) | (refine wpList_mload1 rfl _ _ rfl _ _ rfl 0 H _ (.int _ _) rfl rfl (by decide +kernel) ?_) | (refine wpList_mload1 rfl _ _ rfl _ _ rfl 0 H _ (.bool _) rfl rfl (by decide +kernel) ?_) | (refine wpList_mload1 rfl _ _ rfl _ _ rfl 0 H _ (.pointer _) rfl rfl (by decide +kernel) ?_) | (refine wpList_mload1 rfl _ _ rfl _ _ rfl 0 H _ (.string _) rfl rfl (by decide +kernel) ?_) | (refine wpList_mload1 rfl _ _ rfl _ _ rfl 0 H _ (.slice _ _ _) rfl rfl (by decide +kernel) ?_)) | (refine gate_store _ _ _ rfl ?_; (first | (refine wpList_mstoreA rfl _ _ _ rfl rfl _ rfl 0 H _ _ rfl rfl (by kernel_rfl) (by kernel_rfl) (by kernel_rfl) ?_) | (refine wpList_mstore rfl _ _ _ rfl rfl _ _ rfl 0 H _ _ rfl (.int _ _) rfl (by kernel_rfl) (of_decide_eq_true (by kernel_rfl)) (by kernel_rfl) rfl ?_) | (refine wpList_mstore rfl _ _ _ rfl rfl _ _ rfl 0 H _ _ rfl (.bool _) rfl (by kernel_rfl) (of_decide_eq_true (by kernel_rfl)) (by kernel_rfl) rfl ?_) | (refine wpList_mstore rfl _ _ _ rfl rfl _ _ rfl 0 H _ _ rfl (.pointer _) rfl (by kernel_rfl) (of_decide_eq_true (by kernel_rfl)) (by kernel_rfl) rfl ?_) | (refine wpList_mstore rfl _ _ _ rfl rfl _ _ rfl 0 H _ _ rfl (.string _) rfl (by kernel_rfl) (of_decide_eq_true (by kernel_rfl)) (by kernel_rfl) rfl ?_) | (refine wpList_mstore rfl _ _ _ rfl rfl _ _ rfl 0 H _ _ rfl (.slice _ _ _) rfl (by kernel_rfl) (of_decide_eq_true (by kernel_rfl)) (by kernel_rfl) rfl ?_)); clear H; intro w1 H; simp only [List.set_cons_zero, List.set_cons_succ, mp_set9, mp_set3, mp_set4, mp_set5] at H)
      | fail)
    go_end0
    exact ⟨rfl, H⟩
  · rw [show v / 128 * 128 = 0 by omega] at h80
    have hc : m.ct = 0 ∨ m.ct = 1 ∨ m.ct = 2 ∨ m.ct = 3 ∨ m.ct = 4 := by omega
    clear h12 hR
    rcases hc with hc | hc | hc | hc | hc
    all_goals
      go_enter Try.func13, Try.ntmps13
      go_wp2_with (first
        | go_skip | (refine wpList_mboxA rfl _ _ rfl H _ rfl ?_; clear H; intro _ w1 _ H) | (refine gate_load _ _ rfl ?_; first | (refine wpList_mloadA rfl _ _ rfl _ rfl 0 H _ rfl (by decide +kernel) (by kernel_rfl) ?_) | (refine wpList_mload1 rfl _ _ rfl _ _ rfl 0 H _ (.int _ _) rfl rfl (by decide +kernel) ?_) | (refine wpList_mload1 rfl _ _ rfl _ _ rfl 0 H _ (.bool _) rfl rfl (by decide +kernel) ?_) | (refine wpList_mload1 rfl _ _ rfl _ _ rfl 0 H _ (.pointer _) rfl rfl (by decide +kernel) ?_) | (refine wpList_mload1 rfl _ _ rfl _ _ rfl 0 H _ (.string _) rfl rfl (by decide +kernel) ?_) | (refine wpList_mload1 rfl _ _ rfl _ _ rfl 0 H _ (.slice _ _ _) rfl rfl (by decide +kernel) ?_)) | (refine gate_store _ _ _ rfl ?_; (first | (refine wpList_mstoreA rfl _ _ _ rfl rfl _ rfl 0 H _ _ rfl rfl (by kernel_rfl) (by kernel_rfl) (by kernel_rfl) ?_) | (refine wpList_mstore rfl _ _ _ rfl rfl _ _ rfl 0 H _ _ rfl (.int _ _) rfl (by kernel_rfl) (of_decide_eq_true (by kernel_rfl)) (by kernel_rfl) rfl ?_) | (refine wpList_mstore rfl _ _ _ rfl rfl _ _ rfl 0 H _ _ rfl (.bool _) rfl (by kernel_rfl) (of_decide_eq_true (by kernel_rfl)) (by kernel_rfl) rfl ?_) | (refine wpList_mstore rfl _ _ _ rfl rfl _ _ rfl 0 H _ _ rfl (.pointer _) rfl (by kernel_rfl) (of_decide_eq_true (by kernel_rfl)) (by kernel_rfl) rfl ?_) | (refine wpList_mstore rfl _ _ _ rfl rfl _ _ rfl 0 H _ _ rfl (.string _) rfl (by kernel_rfl) (of_decide_eq_true (by kernel_rfl)) (by kernel_rfl) rfl ?_) | (refine wpList_mstore rfl _ _ _ rfl rfl _ _ rfl 0 H _ _ rfl (.slice _ _ _) rfl (by kernel_rfl) (of_decide_eq_true (by kernel_rfl)) (by kernel_rfl) rfl ?_)); clear H; intro w1 H; simp only [List.set_cons_zero, List.set_cons_succ, mp_set9, mp_set3, mp_set4, mp_set5] at H)
        | fail)
      (refine wp_region_tails_below 21 (by kernel_rfl) (by kernel_rfl) ?_); (simp only [List.take_succ_cons, List.take_zero, List.drop_succ_cons, List.drop_zero]); (repeat (first | (go_big_quiet_want; refine gate_qload _ _ rfl ?_; (first | (refine quiet_mloadA _ _ rfl _ rfl 0 H _ rfl (by decide +kernel) (by kernel_rfl) ?_) | (refine quiet_mload1 _ _ rfl _ _ rfl 0 H _ (.int _ _) rfl rfl (by decide +kernel) ?_) | (refine quiet_mload1 _ _ rfl _ _ rfl 0 H _ (.bool _) rfl rfl (by decide +kernel) ?_) | (refine quiet_mload1 _ _ rfl _ _ rfl 0 H _ (.pointer _) rfl rfl (by decide +kernel) ?_) | (refine quiet_mload1 _ _ rfl _ _ rfl 0 H _ (.string _) rfl rfl (by decide +kernel) ?_) | (refine quiet_mload1 _ _ rfl _ _ rfl 0 H _ (.slice _ _ _) rfl rfl (by decide +kernel) ?_)); simp only [Act.put, List.setIfInBounds_toArray, List.set_cons_succ, List.set_cons_zero]; go_big_quiet_on) | go_big_quiet_step (fail))); (refine wpQuiet_nil ?_); intro _ hw'; obtain ⟨⟨dq, osq⟩, hw''⟩ := hw'; (subst hw''); have hq := below_regrown w1 dq osq; replace H := H.next hq; generalize Go.Sort.grow (redrawn w1 dq) osq = wq at *
      go_wp2_with (first
        | go_skip | (refine wpList_mboxA rfl _ _ rfl H _ rfl ?_; clear H; intro _ w1 _ H) | (refine gate_load _ _ rfl ?_; first | (refine wpList_mloadA rfl _ _ rfl _ rfl 0 H _ rfl (by decide +kernel) (by kernel_rfl) ?_) | (refine wpList_mload1 rfl _ _ rfl _ _ rfl 0 H _ (.int _ _) rfl rfl (by decide +kernel) ?_) | (refine wpList_mload1 rfl _ _ rfl _ _ rfl 0 H _ (.bool _) rfl rfl (by decide +kernel) ?_) | (refine wpList_mload1 rfl _ _ rfl _ _ rfl 0 H _ (.pointer _) rfl rfl (by decide +kernel) ?_) | (refine wpList_mload1 rfl _ _ rfl _ _ rfl 0 H _ (.string _) rfl rfl (by decide +kernel) ?_) | (refine wpList_mload1 rfl _ _ rfl _ _ rfl 0 H _ (.slice _ _ _) rfl rfl (by decide +kernel) ?_)) | (refine gate_store _ _ _ rfl ?_; (first | (refine wpList_mstoreA rfl _ _ _ rfl rfl _ rfl 0 H _ _ rfl rfl (by kernel_rfl) (by kernel_rfl) (by kernel_rfl) ?_) | (refine wpList_mstore rfl _ _ _ rfl rfl _ _ rfl 0 H _ _ rfl (.int _ _) rfl (by kernel_rfl) (of_decide_eq_true (by kernel_rfl)) (by kernel_rfl) rfl ?_) | (refine wpList_mstore rfl _ _ _ rfl rfl _ _ rfl 0 H _ _ rfl (.bool _) rfl (by kernel_rfl) (of_decide_eq_true (by kernel_rfl)) (by kernel_rfl) rfl ?_) | (refine wpList_mstore rfl _ _ _ rfl rfl _ _ rfl 0 H _ _ rfl (.pointer _) rfl (by kernel_rfl) (of_decide_eq_true (by kernel_rfl)) (by kernel_rfl) rfl ?_) | (refine wpList_mstore rfl _ _ _ rfl rfl _ _ rfl 0 H _ _ rfl (.string _) rfl (by kernel_rfl) (of_decide_eq_true (by kernel_rfl)) (by kernel_rfl) rfl ?_) | (refine wpList_mstore rfl _ _ _ rfl rfl _ _ rfl 0 H _ _ rfl (.slice _ _ _) rfl (by kernel_rfl) (of_decide_eq_true (by kernel_rfl)) (by kernel_rfl) rfl ?_)); clear H; intro w1 H; simp only [List.set_cons_zero, List.set_cons_succ, mp_set9, mp_set3, mp_set4, mp_set5] at H)
        | (go_at_call 17; obtain ⟨T1, hg⟩ := H.get (i := 0) rfl; refine (HF.out _ _ _ T1 hg).mono ?_; rintro e w2 ⟨rfl, hM⟩; replace H := H.call (i := 0) rfl hM; clear hM hg; simp only [List.set_cons_zero] at H))
      go_end0
      refine ⟨rfl, ?_⟩
      have hs := put0 m.sh s0 s1 (v % 2) (by omega)
      have hs1 := put1 m.sh s0 s1 (v % 2) (by omega)
      have hs2 := put2 m.sh s0 s1 (v % 2) (by omega)
      have hs3 := put3 m.sh s0 s1 (v % 2) (by omega)
      have hs4 := put4 m.sh s0 s1 (v % 2) (by omega)
      first | rw [hs] at H | rw [hs1] at H | rw [hs2] at H | rw [hs3] at H | rw [hs4] at H
      unfold bitM
      rw [if_neg (by omega), hc]
      exact H
set_option maxHeartbeats 1000000 in
theorem mbit_behind (m : Mp) (a v u : Int) (w : World) (R : Nat) (T : TypeId) (hR : w.heap[R]? = some (.cells (mpC m) T)) (he : (u == wrap64 (m.la + 1)) = true) :
    Calls Try.prog 13 #[.pointer (some ⟨R, 0, none⟩), .int .u16 a, .int .u8 v, .int .i64 u] w fun e w' => e = .returned (.tuple #[]) ∧ Mem w.heap.size [R] w w' [(R, mpC { m with la := u })] := by
  have H := Mem.begin hR
  clear hR
  go_enter Try.func13, Try.ntmps13
  go_wp2_with (first
    | go_skip | (refine wpList_mboxA rfl _ _ rfl H _ rfl ?_; clear H; intro _ w1 _ H) | (refine gate_load _ _ rfl ?_; first | (refine wpList_mloadA rfl _ _ rfl _ rfl 0 H _ rfl (by decide +kernel) (by kernel_rfl) ?_) | (refine wpList_mload1 rfl _ _ rfl _ _ rfl 0 H _ (.int _ _) rfl rfl (by decide +kernel) ?_) | (refine wpList_mload1 rfl _ _ rfl _ _ rfl 0 H _ (.bool _) rfl rfl (by decide +kernel) ?_) | (refine wpList_mload1 rfl _ _ rfl _ _ rfl 0 H _ (.pointer _) rfl rfl (by decide +kernel) ?_) | (refine wpList_mload1 rfl _ _ rfl _ _ rfl 0 H _ (.string _) rfl rfl (by decide +kernel) ?_) | (refine wpList_mload1 rfl _ _ rfl _ _ rfl 0 H _ (.slice _ _ _) rfl rfl (by decide +kernel) ?_)) | (refine gate_store _ _ _ rfl ?_; (first | (refine wpList_mstoreA rfl _ _ _ rfl rfl _ rfl 0 H _ _ rfl rfl (by kernel_rfl) (by kernel_rfl) (by kernel_rfl) ?_) | (refine wpList_mstore rfl _ _ _ rfl rfl _ _ rfl 0 H _ _ rfl (.int _ _) rfl (by kernel_rfl) (of_decide_eq_true (by kernel_rfl)) (by kernel_rfl) rfl ?_) | (refine wpList_mstore rfl _ _ _ rfl rfl _ _ rfl 0 H _ _ rfl (.bool _) rfl (by kernel_rfl) (of_decide_eq_true (by kernel_rfl)) (by kernel_rfl) rfl ?_) | (refine wpList_mstore rfl _ _ _ rfl rfl _ _ rfl 0 H _ _ rfl (.pointer _) rfl (by kernel_rfl) (of_decide_eq_true (by kernel_rfl)) (by kernel_rfl) rfl ?_) | (refine wpList_mstore rfl _ _ _ rfl rfl _ _ rfl 0 H _ _ rfl (.string _) rfl (by kernel_rfl) (of_decide_eq_true (by kernel_rfl)) (by kernel_rfl) rfl ?_) | (refine wpList_mstore rfl _ _ _ rfl rfl _ _ rfl 0 H _ _ rfl (.slice _ _ _) rfl (by kernel_rfl) (of_decide_eq_true (by kernel_rfl)) (by kernel_rfl) rfl ?_)); clear H; intro w1 H; simp only [List.set_cons_zero, List.set_cons_succ, mp_set9] at H)
    | fail)
  go_end0
  exact ⟨rfl, H⟩
end Go.Proofs.Ytoeggmbcngccpaa
