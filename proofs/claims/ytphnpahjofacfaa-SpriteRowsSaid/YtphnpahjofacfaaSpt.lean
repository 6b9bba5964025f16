/-
  The document's turn and Unit. Over this seat's translation; no condition. (Written by gen_sp.py.)
-/
import Derived.Test.YtphnpahjofacfaaSpr
import Derived.Test.YtphnpahjofacfaaSph
namespace Go.Proofs.Ytphnpahjofacfaa
open Go.RowKit Go.Sort
set_option linter.unusedSimpArgs false
set_option linter.unusedVariables false
set_option maxRecDepth 20000

/-- Eight bits turned about, bit by bit. -/
def revN (v : BitVec 8) : Nat → Int
  | 0 => 0
  | k + 1 => 2 * revN v k + w8 v / 2 ^ k % 2
theorem revN_lt (v : BitVec 8) : ∀ k, 0 ≤ revN v k ∧ revN v k < 2 ^ k
  | 0 => by simp [revN]
  | k + 1 => by
    have h := revN_lt v k
    have h2 : 0 ≤ w8 v / 2 ^ k % 2 ∧ w8 v / 2 ^ k % 2 < 2 := by omega
    have h3 : (2 : Int) ^ (k + 1) = 2 * 2 ^ k := by rw [Int.pow_succ]; omega
    rw [revN, h3]
    omega
theorem revN_8 (v : BitVec 8) : revN v 8 = w8 v.reverse := by
  have h : ∀ v : BitVec 8, revN v 8 = w8 v.reverse := by decide +kernel
  exact h v
attribute [local irreducible] wpList
set_option maxHeartbeats 2000000 in
theorem rturn15_ct (v : BitVec 8) (w : World) : Calls Try.prog 33 #[.int .u8 (w8 v)] w fun e w' => e = .returned (.int .u8 (w8 v.reverse)) ∧ Below w.heap.size w w' := by
  have hv := w8_lt v
  have H := Mem.start w
  go_enter Try.func33, Try.ntmps33
  go_wp2
  go_loopw [3, 4] (fun z i wr => ∃ k : Nat, k ≤ 8 ∧ i = .int .i64 k ∧ z = .int .i64 (revN v k) ∧ Mem w.heap.size [] w wr []) (fun _ i _ => 8 - (intOf i).toNat)
  case atStart => exact ⟨0, by omega, rfl, rfl, H⟩
  case round =>
    clear H
    obtain ⟨k, hk, rfl, rfl, H⟩ := hrel
    have hr := revN_lt v k
    have hp : (2 : Int) ^ k ≤ 256 := by
      have : (2 : Nat) ^ k ≤ 2 ^ 8 := Nat.pow_le_pow_right (by omega) hk
      have e : ((2 ^ k : Nat) : Int) = (2 : Int) ^ k := by simp
      omega
    by_cases hlt : k < 8
    · have hz : revN v (k + 1) = 2 * revN v k + w8 v / 2 ^ k % 2 := rfl
      have hd : 0 ≤ w8 v / 2 ^ k ∧ w8 v / 2 ^ k < 256 := by rw [w8_shr]; exact w8_lt _
      have ht : (w8 v / 2 ^ k).tmod 2 = w8 v / 2 ^ k % 2 := Int.tmod_eq_emod_of_nonneg hd.1
      have HZ := Lib.hid hz
      generalize revN v k = z at *
      have hz2 : 0 ≤ z ∧ z < 256 := by omega
      have hq : 0 ≤ w8 v / 2 ^ k % 2 ∧ w8 v / 2 ^ k % 2 < 2 := by omega
      clear hr hp hz
      go_wp2
      go_roundw
      case rel => exact ⟨k + 1, by omega, by go_num, by rw [HZ.out], H⟩
      case measure => simp [intOf]; omega
    · obtain rfl : k = 8 := by omega
      rw [revN_8] at *
      have hw := w8_lt v.reverse
      go_wp2
      go_ret
      exact ⟨rfl, H.toBelow⟩
theorem un_B {u : Un} {b c : Bool} (h : b = c) : (splice (unC u).toList 6 (Value.cells (.bool b)).toList).toArray = unC { u with s := c } := by
  subst h
  rfl
theorem run_alloc_un (o : Oper) (h : o.op = .alloc 36) (ρ : Operand → Value) (w : World) : (execOp ρ o).run Try.prog w = .ok (.value (ptrTo w.heap.size)) (w.alloc (.cells (unC un0) 36)) := by
  unfold execOp
  rw [h]
  kernel_rfl
/-- Whether one of k labels from place n on is set, or s. -/
def labN (l : List (Int × Bool)) (n : Nat) (s : Bool) : Nat → Bool
  | 0 => s
  | k + 1 => labN l n s k || (nth l (n + k)).2
theorem labN_4 (l : List (Int × Bool)) (n : Nat) (s : Bool) : labN l n s 4 = ((nth l n).2 || ((nth l (n + 1)).2 || ((nth l (n + 2)).2 || ((nth l (n + 3)).2 || s)))) := by
  simp only [labN, Nat.add_zero]
  cases s <;> cases (nth l n).2 <;> cases (nth l (n + 1)).2 <;> cases (nth l (n + 2)).2 <;> cases (nth l (n + 3)).2 <;> rfl
set_option maxHeartbeats 8000000 in
theorem runit_ct (b off cap i : Nat) (k x lo hi : BitVec 8) (ls hs : Bool) (l : List (Int × Bool)) (w : World) (hL : Ls w b off l) (hl : l.length = 256) (hi64 : i < 64) (hc : 256 ≤ cap) (hm : cap ≤ maxLen) (hk : (nth l (4 * i + 2)).1 = w8 k) (hx : (nth l (4 * i + 3)).1 = w8 x) :
    Calls Try.prog 17 #[.slice (some ⟨b, off, none⟩) 256 cap, .int .i64 (i : Int), .agg #[.int .u8 (w8 lo), .bool ls], .agg #[.int .u8 (w8 hi), .bool hs]] w fun e w' => e = .returned (.agg (unC (unitS x k ((nth l (4 * i)).2 || ((nth l (4 * i + 1)).2 || ((nth l (4 * i + 2)).2 || ((nth l (4 * i + 3)).2 || (ls || hs))))) (decide (i = 0)) lo hi))) ∧ Below w.heap.size w w' := by
  unfold maxLen at hm
  have HLT : b < w.heap.size := hL.lt
  have HLL := Lib.hid hL
  have k0 := Lib.hid ((hL.at_ (4 * i + 2) (by omega)).1)
  have x0 := Lib.hid ((hL.at_ (4 * i + 3) (by omega)).1)
  rw [hk] at k0
  rw [hx] at x0
  clear hk hx hL
  have QT := Lib.hid (fun v wr => rturn15_ct v wr)
  have HZ := Lib.hid alloc_unit
  have hkb := w8_lt k
  have e4 : Int.emod (w8 k) 4 = w8 (k &&& 3#8) := by
    have h : ∀ v : BitVec 8, Int.emod (w8 v) 4 = w8 (v &&& 3#8) := by decide +kernel
    exact h k
  have e32 : (Int.emod (w8 k / 32) 2 == 1) = k.getLsbD 5 := by
    have h : ∀ v : BitVec 8, (Int.emod (w8 v / 32) 2 == 1) = v.getLsbD 5 := by decide +kernel
    exact h k
  have e64 : (w8 k / 64 % 2 == 1) = k.getLsbD 6 := by
    have h : ∀ v : BitVec 8, (w8 v / 64 % 2 == 1) = v.getLsbD 6 := by decide +kernel
    exact h k
  have hE : #[.int .u8 (w8 x), .int .u8 (w8 lo), .int .u8 (w8 hi), .int .u8 (Int.emod (w8 k) 4), .bool (Int.emod (w8 k / 32) 2 == 1), .bool ((i : Int) == 0), .bool false] = unC ⟨x, lo, hi, k &&& 3#8, k.getLsbD 5, decide (i = 0), false⟩ := by
    have e0 : ((i : Int) == 0) = decide (i = 0) := by
      by_cases h : i = 0
      · subst h; rfl
      · rw [decide_eq_false h]; exact beq_eq_false_iff_ne.2 (by omega)
    rw [e4, e32, e0]
    rfl
  have HE := Lib.hid hE
  have H := Mem.start w
  have M1 : True := trivial
  have M2 : True := trivial
  have M3 : True := trivial
  unfold unitS turnB
  clear hE e4 e32
  cases h6 : k.getLsbD 6
  · rw [h6] at e64
    go_enter Try.func17, Try.ntmps17
    go_wp2_with (first | (clear M1; refine wpList_mboxA rfl _ _ rfl H _ rfl ?_; clear H; intro Rl w1 _ H) | (clear M2; refine wpList_mboxA rfl _ _ rfl H _ rfl ?_; clear H; intro Rh w1 _ H) | (clear M3; refine wpList_mnew rfl _ rfl H _ HZ.out ?_; clear H; intro Rr w1 _ H) | (refine gate_load _ _ rfl ?_; refine wpList_mload1x rfl 5 _ rfl _ _ rfl H _ k0.out HLT (by decide +kernel) ?_) | fail)
    (try simp only [Act.put, List.setIfInBounds_toArray, List.set_cons_succ, List.set_cons_zero])
    (refine wp_region_mem 76 [⟨20, 21, 99, ptrTo, unC un0, #[.int .u8 (w8 x), .int .u8 (w8 lo), .int .u8 (w8 hi), .int .u8 (Int.emod (w8 k) 4), .bool (Int.emod (w8 k / 32) 2 == 1), .bool ((i : Int) == 0), .bool false], undef⟩] (by kernel_rfl) (by kernel_rfl) (by rfl) (by kernel_rfl) (fun _ => by kernel_rfl) (by simp) H fun β wy hwy => ?_); have H0 := H; replace H := H.next hwy; (simp only [swapL, swapO, List.find?_cons, List.find?_nil, Nat.reduceBEq, Nat.reduceAdd]); (repeat (first | (go_big_quiet_want; refine gate_qload _ _ rfl ?_; refine quiet_xload1 5 _ rfl b (off + (4 * i + 3) * 2) rfl H _ x0.out HLT (by decide +kernel) ?_; simp only [Act.put, List.setIfInBounds_toArray, List.set_cons_succ, List.set_cons_zero]; go_big_quiet_on) | (go_big_quiet_want; refine gate_qload _ _ rfl ?_; refine quiet_mload1 5 _ rfl _ _ rfl 2 H _ (.int .u8 _) rfl rfl (by decide +kernel) ?_; simp only [Act.put, List.setIfInBounds_toArray, List.set_cons_succ, List.set_cons_zero]; go_big_quiet_on) | (go_big_quiet_want; refine gate_qload _ _ rfl ?_; refine quiet_mload1 5 _ rfl _ _ rfl 1 H _ (.int .u8 _) rfl rfl (by decide +kernel) ?_; simp only [Act.put, List.setIfInBounds_toArray, List.set_cons_succ, List.set_cons_zero]; go_big_quiet_on) | (go_big_quiet_want; refine gate_qload _ _ rfl ?_; (first | (refine quiet_mloadA _ _ rfl _ rfl 0 H _ rfl (by decide +kernel) (by kernel_rfl) ?_) | (refine quiet_mload1 _ _ rfl _ _ rfl 0 H _ (.int _ _) rfl rfl (by decide +kernel) ?_) | (refine quiet_mload1 _ _ rfl _ _ rfl 0 H _ (.bool _) rfl rfl (by decide +kernel) ?_) | (refine quiet_mload1 _ _ rfl _ _ rfl 0 H _ (.pointer _) rfl rfl (by decide +kernel) ?_) | (refine quiet_mload1 _ _ rfl _ _ rfl 0 H _ (.string _) rfl rfl (by decide +kernel) ?_) | (refine quiet_mload1 _ _ rfl _ _ rfl 0 H _ (.slice _ _ _) rfl rfl (by decide +kernel) ?_)); simp only [Act.put, List.setIfInBounds_toArray, List.set_cons_succ, List.set_cons_zero]; go_big_quiet_on) | go_big_quiet_step (fail))); (refine wpQuiet_nil ?_); (refine ⟨⟨⟨⟨_, run_alloc_un _ rfl _⟩, ⟨rfl, by kernel_rfl, rfl, by kernel_rfl, fun _ => rfl⟩, trivial⟩, trivial⟩, fun wx HM => ?_⟩); clear H; have H := HM; clear HM H0 hwy; (dsimp only [boxesL, List.cons_append, List.nil_append] at H); (try dsimp only [ptrTo]); (try generalize hq0 : β 20 = q0 at *)
    generalize hRu : q0 = Ru at *
    clear hRu
    rw [HE.out] at H
    cases ls
    all_goals
      go_wp2_with (first | (refine gate_load _ _ rfl ?_; refine wpList_mload1 rfl 4 _ rfl _ _ rfl 2 H _ (.bool _) rfl rfl (by decide +kernel) ?_) | (refine gate_load _ _ rfl ?_; refine wpList_mload1 rfl 4 _ rfl _ _ rfl 3 H _ (.bool _) rfl rfl (by decide +kernel) ?_) | (refine gate_store _ _ _ rfl ?_; refine wpList_mstore rfl 4 _ _ rfl rfl _ _ rfl 0 H _ _ rfl (.bool _) rfl (by kernel_rfl) (of_decide_eq_true (by kernel_rfl)) (by kernel_rfl) (un_B rfl) ?_; clear H; intro w1 H; simp only [List.set_cons_zero, List.set_cons_succ] at H) | fail)
    · skip
      go_loopw [11] (fun j wr => ∃ n : Nat, n ≤ 4 ∧ j = .int .i64 n ∧ Mem w.heap.size [] w wr [(Ru, unC ⟨x, lo, hi, k &&& 3#8, k.getLsbD 5, decide (i = 0), labN l (4 * i) (false || hs) n⟩), (Rr, unC un0), (Rh, #[.int .u8 (w8 hi), .bool hs]), (Rl, #[.int .u8 (w8 lo), .bool false])]) (fun j _ => 4 - (intOf j).toNat)
      case atStart => exact ⟨0, by omega, rfl, H⟩
      case round =>
        clear H
        obtain ⟨n, hn, rfl, H⟩ := hrel
        by_cases hlt : n < 4
        · have hz : labN l (4 * i) (false || hs) (n + 1) = (labN l (4 * i) (false || hs) n || (nth l (4 * i + n)).2) := rfl
          have HN := Lib.hid hz
          have c1 := Lib.hid ((HLL.out.at_ (4 * i + n) (by omega)).2)
          clear hz
          generalize labN l (4 * i) (false || hs) n = z at *
          generalize (nth l (4 * i + n)).2 = q at *
          cases z
          all_goals
            go_wp2_with (first | (refine gate_load _ _ rfl ?_; refine wpList_mload1 rfl 4 _ rfl _ _ rfl 0 H _ (.bool _) rfl rfl (by decide +kernel) ?_) | (refine gate_load _ _ rfl ?_; refine wpList_mload1x rfl 4 _ rfl _ _ rfl H _ c1.out HLT (by decide +kernel) ?_) | (refine gate_store _ _ _ rfl ?_; refine wpList_mstore rfl 4 _ _ rfl rfl _ _ rfl 0 H _ _ rfl (.bool _) rfl (by kernel_rfl) (of_decide_eq_true (by kernel_rfl)) (by kernel_rfl) (un_B rfl) ?_; clear H; intro w1 H; simp only [List.set_cons_zero, List.set_cons_succ] at H) | fail)
            go_roundw
            case rel => exact ⟨n + 1, by omega, by go_num, by rw [HN.out]; exact H⟩
            case measure => simp [intOf]; omega
        · obtain rfl : n = 4 := by omega
          have HN := Lib.hid (labN_4 l (4 * i) (false || hs))
          generalize labN l (4 * i) (false || hs) 4 = z at *
          go_wp2_with (first | (refine gate_load _ _ rfl ?_; refine wpList_mloadA rfl 36 _ rfl _ rfl 0 H (unC _) rfl (by decide +kernel) (by kernel_rfl) ?_) | (refine gate_store _ _ _ rfl ?_; refine wpList_mstoreA rfl 36 _ _ rfl rfl _ rfl 1 H (unC _) _ rfl rfl (by kernel_rfl) (by kernel_rfl) (by kernel_rfl) ?_; clear H; intro w1 H; simp only [List.set_cons_zero, List.set_cons_succ] at H) | fail)
          refine ret_mem1 rfl _ rfl 1 H _ rfl (by kernel_rfl) (by kernel_rfl) rfl ?_
          exact ⟨by rw [HN.out]; rfl, H.toBelow⟩
    · skip
      go_loopw [11] (fun j wr => ∃ n : Nat, n ≤ 4 ∧ j = .int .i64 n ∧ Mem w.heap.size [] w wr [(Ru, unC ⟨x, lo, hi, k &&& 3#8, k.getLsbD 5, decide (i = 0), labN l (4 * i) (true || hs) n⟩), (Rr, unC un0), (Rh, #[.int .u8 (w8 hi), .bool hs]), (Rl, #[.int .u8 (w8 lo), .bool true])]) (fun j _ => 4 - (intOf j).toNat)
      case atStart => exact ⟨0, by omega, rfl, H⟩
      case round =>
        clear H
        obtain ⟨n, hn, rfl, H⟩ := hrel
        by_cases hlt : n < 4
        · have hz : labN l (4 * i) (true || hs) (n + 1) = (labN l (4 * i) (true || hs) n || (nth l (4 * i + n)).2) := rfl
          have HN := Lib.hid hz
          have c1 := Lib.hid ((HLL.out.at_ (4 * i + n) (by omega)).2)
          clear hz
          generalize labN l (4 * i) (true || hs) n = z at *
          generalize (nth l (4 * i + n)).2 = q at *
          cases z
          all_goals
            go_wp2_with (first | (refine gate_load _ _ rfl ?_; refine wpList_mload1 rfl 4 _ rfl _ _ rfl 0 H _ (.bool _) rfl rfl (by decide +kernel) ?_) | (refine gate_load _ _ rfl ?_; refine wpList_mload1x rfl 4 _ rfl _ _ rfl H _ c1.out HLT (by decide +kernel) ?_) | (refine gate_store _ _ _ rfl ?_; refine wpList_mstore rfl 4 _ _ rfl rfl _ _ rfl 0 H _ _ rfl (.bool _) rfl (by kernel_rfl) (of_decide_eq_true (by kernel_rfl)) (by kernel_rfl) (un_B rfl) ?_; clear H; intro w1 H; simp only [List.set_cons_zero, List.set_cons_succ] at H) | fail)
            go_roundw
            case rel => exact ⟨n + 1, by omega, by go_num, by rw [HN.out]; exact H⟩
            case measure => simp [intOf]; omega
        · obtain rfl : n = 4 := by omega
          have HN := Lib.hid (labN_4 l (4 * i) (true || hs))
          generalize labN l (4 * i) (true || hs) 4 = z at *
          go_wp2_with (first | (refine gate_load _ _ rfl ?_; refine wpList_mloadA rfl 36 _ rfl _ rfl 0 H (unC _) rfl (by decide +kernel) (by kernel_rfl) ?_) | (refine gate_store _ _ _ rfl ?_; refine wpList_mstoreA rfl 36 _ _ rfl rfl _ rfl 1 H (unC _) _ rfl rfl (by kernel_rfl) (by kernel_rfl) (by kernel_rfl) ?_; clear H; intro w1 H; simp only [List.set_cons_zero, List.set_cons_succ] at H) | fail)
          refine ret_mem1 rfl _ rfl 1 H _ rfl (by kernel_rfl) (by kernel_rfl) rfl ?_
          exact ⟨by rw [HN.out]; rfl, H.toBelow⟩
  · rw [h6] at e64
    go_enter Try.func17, Try.ntmps17
    go_wp2_with (first | (clear M1; refine wpList_mboxA rfl _ _ rfl H _ rfl ?_; clear H; intro Rl w1 _ H) | (clear M2; refine wpList_mboxA rfl _ _ rfl H _ rfl ?_; clear H; intro Rh w1 _ H) | (clear M3; refine wpList_mnew rfl _ rfl H _ HZ.out ?_; clear H; intro Rr w1 _ H) | (refine gate_load _ _ rfl ?_; refine wpList_mload1x rfl 5 _ rfl _ _ rfl H _ k0.out HLT (by decide +kernel) ?_) | fail)
    (try simp only [Act.put, List.setIfInBounds_toArray, List.set_cons_succ, List.set_cons_zero])
    (refine wp_region_mem 76 [⟨20, 21, 99, ptrTo, unC un0, #[.int .u8 (w8 x), .int .u8 (w8 lo), .int .u8 (w8 hi), .int .u8 (Int.emod (w8 k) 4), .bool (Int.emod (w8 k / 32) 2 == 1), .bool ((i : Int) == 0), .bool false], undef⟩] (by kernel_rfl) (by kernel_rfl) (by rfl) (by kernel_rfl) (fun _ => by kernel_rfl) (by simp) H fun β wy hwy => ?_); have H0 := H; replace H := H.next hwy; (simp only [swapL, swapO, List.find?_cons, List.find?_nil, Nat.reduceBEq, Nat.reduceAdd]); (repeat (first | (go_big_quiet_want; refine gate_qload _ _ rfl ?_; refine quiet_xload1 5 _ rfl b (off + (4 * i + 3) * 2) rfl H _ x0.out HLT (by decide +kernel) ?_; simp only [Act.put, List.setIfInBounds_toArray, List.set_cons_succ, List.set_cons_zero]; go_big_quiet_on) | (go_big_quiet_want; refine gate_qload _ _ rfl ?_; refine quiet_mload1 5 _ rfl _ _ rfl 2 H _ (.int .u8 _) rfl rfl (by decide +kernel) ?_; simp only [Act.put, List.setIfInBounds_toArray, List.set_cons_succ, List.set_cons_zero]; go_big_quiet_on) | (go_big_quiet_want; refine gate_qload _ _ rfl ?_; refine quiet_mload1 5 _ rfl _ _ rfl 1 H _ (.int .u8 _) rfl rfl (by decide +kernel) ?_; simp only [Act.put, List.setIfInBounds_toArray, List.set_cons_succ, List.set_cons_zero]; go_big_quiet_on) | (go_big_quiet_want; refine gate_qload _ _ rfl ?_; (first | (refine quiet_mloadA _ _ rfl _ rfl 0 H _ rfl (by decide +kernel) (by kernel_rfl) ?_) | (refine quiet_mload1 _ _ rfl _ _ rfl 0 H _ (.int _ _) rfl rfl (by decide +kernel) ?_) | (refine quiet_mload1 _ _ rfl _ _ rfl 0 H _ (.bool _) rfl rfl (by decide +kernel) ?_) | (refine quiet_mload1 _ _ rfl _ _ rfl 0 H _ (.pointer _) rfl rfl (by decide +kernel) ?_) | (refine quiet_mload1 _ _ rfl _ _ rfl 0 H _ (.string _) rfl rfl (by decide +kernel) ?_) | (refine quiet_mload1 _ _ rfl _ _ rfl 0 H _ (.slice _ _ _) rfl rfl (by decide +kernel) ?_)); simp only [Act.put, List.setIfInBounds_toArray, List.set_cons_succ, List.set_cons_zero]; go_big_quiet_on) | go_big_quiet_step (fail))); (refine wpQuiet_nil ?_); (refine ⟨⟨⟨⟨_, run_alloc_un _ rfl _⟩, ⟨rfl, by kernel_rfl, rfl, by kernel_rfl, fun _ => rfl⟩, trivial⟩, trivial⟩, fun wx HM => ?_⟩); clear H; have H := HM; clear HM H0 hwy; (dsimp only [boxesL, List.cons_append, List.nil_append] at H); (try dsimp only [ptrTo]); (try generalize hq0 : β 20 = q0 at *)
    generalize hRu : q0 = Ru at *
    clear hRu
    rw [HE.out] at H
    go_wp2_with fail
    (try simp only [Act.put, List.setIfInBounds_toArray, List.set_cons_succ, List.set_cons_zero])
    (refine wp_region_tails_below 7 (by kernel_rfl) (by kernel_rfl) ?_); (simp only [List.take_succ_cons, List.take_zero, List.drop_succ_cons, List.drop_zero]); (repeat (first | (go_big_quiet_want; refine gate_qload _ _ rfl ?_; refine quiet_mload1 5 _ rfl _ _ rfl 3 H _ (.int .u8 _) rfl rfl (by decide +kernel) ?_; simp only [Act.put, List.setIfInBounds_toArray, List.set_cons_succ, List.set_cons_zero]; go_big_quiet_on) | (go_big_quiet_want; refine gate_qload _ _ rfl ?_; refine quiet_mload1 5 _ rfl _ _ rfl 2 H _ (.int .u8 _) rfl rfl (by decide +kernel) ?_; simp only [Act.put, List.setIfInBounds_toArray, List.set_cons_succ, List.set_cons_zero]; go_big_quiet_on) | go_big_quiet_step ((first | (go_at_call 33; (with_reducible exact Calls.regrown_of (QT.out _ _))) | fail)))); (refine wpQuiet_nil ?_); intro _ hw'; obtain ⟨⟨dq, osq⟩, hw''⟩ := hw'; (subst hw''); replace H := H.next (below_regrown _ dq osq); generalize Go.Sort.grow (redrawn _ dq) osq = wq at *
    cases ls
    all_goals
      go_wp2_with (first | (refine gate_store _ _ _ rfl ?_; refine wpList_mstore rfl 5 _ _ rfl rfl _ _ rfl 0 H _ _ rfl (.int .u8 _) rfl (by kernel_rfl) (of_decide_eq_true (by kernel_rfl)) (by kernel_rfl) (un_I rfl rfl) ?_; clear H; intro w1 H; simp only [List.set_cons_zero, List.set_cons_succ] at H) | (refine gate_load _ _ rfl ?_; refine wpList_mload1 rfl 4 _ rfl _ _ rfl 2 H _ (.bool _) rfl rfl (by decide +kernel) ?_) | (refine gate_load _ _ rfl ?_; refine wpList_mload1 rfl 4 _ rfl _ _ rfl 3 H _ (.bool _) rfl rfl (by decide +kernel) ?_) | (refine gate_store _ _ _ rfl ?_; refine wpList_mstore rfl 4 _ _ rfl rfl _ _ rfl 0 H _ _ rfl (.bool _) rfl (by kernel_rfl) (of_decide_eq_true (by kernel_rfl)) (by kernel_rfl) (un_B rfl) ?_; clear H; intro w1 H; simp only [List.set_cons_zero, List.set_cons_succ] at H) | fail)
    · skip
      go_loopw [11] (fun j wr => ∃ n : Nat, n ≤ 4 ∧ j = .int .i64 n ∧ Mem w.heap.size [] w wr [(Ru, unC ⟨x, lo.reverse, hi.reverse, k &&& 3#8, k.getLsbD 5, decide (i = 0), labN l (4 * i) (false || hs) n⟩), (Rr, unC un0), (Rh, #[.int .u8 (w8 hi), .bool hs]), (Rl, #[.int .u8 (w8 lo), .bool false])]) (fun j _ => 4 - (intOf j).toNat)
      case atStart => exact ⟨0, by omega, rfl, H⟩
      case round =>
        clear H
        obtain ⟨n, hn, rfl, H⟩ := hrel
        by_cases hlt : n < 4
        · have hz : labN l (4 * i) (false || hs) (n + 1) = (labN l (4 * i) (false || hs) n || (nth l (4 * i + n)).2) := rfl
          have HN := Lib.hid hz
          have c1 := Lib.hid ((HLL.out.at_ (4 * i + n) (by omega)).2)
          clear hz
          generalize labN l (4 * i) (false || hs) n = z at *
          generalize (nth l (4 * i + n)).2 = q at *
          cases z
          all_goals
            go_wp2_with (first | (refine gate_load _ _ rfl ?_; refine wpList_mload1 rfl 4 _ rfl _ _ rfl 0 H _ (.bool _) rfl rfl (by decide +kernel) ?_) | (refine gate_load _ _ rfl ?_; refine wpList_mload1x rfl 4 _ rfl _ _ rfl H _ c1.out HLT (by decide +kernel) ?_) | (refine gate_store _ _ _ rfl ?_; refine wpList_mstore rfl 4 _ _ rfl rfl _ _ rfl 0 H _ _ rfl (.bool _) rfl (by kernel_rfl) (of_decide_eq_true (by kernel_rfl)) (by kernel_rfl) (un_B rfl) ?_; clear H; intro w1 H; simp only [List.set_cons_zero, List.set_cons_succ] at H) | fail)
            go_roundw
            case rel => exact ⟨n + 1, by omega, by go_num, by rw [HN.out]; exact H⟩
            case measure => simp [intOf]; omega
        · obtain rfl : n = 4 := by omega
          have HN := Lib.hid (labN_4 l (4 * i) (false || hs))
          generalize labN l (4 * i) (false || hs) 4 = z at *
          go_wp2_with (first | (refine gate_load _ _ rfl ?_; refine wpList_mloadA rfl 36 _ rfl _ rfl 0 H (unC _) rfl (by decide +kernel) (by kernel_rfl) ?_) | (refine gate_store _ _ _ rfl ?_; refine wpList_mstoreA rfl 36 _ _ rfl rfl _ rfl 1 H (unC _) _ rfl rfl (by kernel_rfl) (by kernel_rfl) (by kernel_rfl) ?_; clear H; intro w1 H; simp only [List.set_cons_zero, List.set_cons_succ] at H) | fail)
          refine ret_mem1 rfl _ rfl 1 H _ rfl (by kernel_rfl) (by kernel_rfl) rfl ?_
          exact ⟨by rw [HN.out]; rfl, H.toBelow⟩
    · skip
      go_loopw [11] (fun j wr => ∃ n : Nat, n ≤ 4 ∧ j = .int .i64 n ∧ Mem w.heap.size [] w wr [(Ru, unC ⟨x, lo.reverse, hi.reverse, k &&& 3#8, k.getLsbD 5, decide (i = 0), labN l (4 * i) (true || hs) n⟩), (Rr, unC un0), (Rh, #[.int .u8 (w8 hi), .bool hs]), (Rl, #[.int .u8 (w8 lo), .bool true])]) (fun j _ => 4 - (intOf j).toNat)
      case atStart => exact ⟨0, by omega, rfl, H⟩
      case round =>
        clear H
        obtain ⟨n, hn, rfl, H⟩ := hrel
        by_cases hlt : n < 4
        · have hz : labN l (4 * i) (true || hs) (n + 1) = (labN l (4 * i) (true || hs) n || (nth l (4 * i + n)).2) := rfl
          have HN := Lib.hid hz
          have c1 := Lib.hid ((HLL.out.at_ (4 * i + n) (by omega)).2)
          clear hz
          generalize labN l (4 * i) (true || hs) n = z at *
          generalize (nth l (4 * i + n)).2 = q at *
          cases z
          all_goals
            go_wp2_with (first | (refine gate_load _ _ rfl ?_; refine wpList_mload1 rfl 4 _ rfl _ _ rfl 0 H _ (.bool _) rfl rfl (by decide +kernel) ?_) | (refine gate_load _ _ rfl ?_; refine wpList_mload1x rfl 4 _ rfl _ _ rfl H _ c1.out HLT (by decide +kernel) ?_) | (refine gate_store _ _ _ rfl ?_; refine wpList_mstore rfl 4 _ _ rfl rfl _ _ rfl 0 H _ _ rfl (.bool _) rfl (by kernel_rfl) (of_decide_eq_true (by kernel_rfl)) (by kernel_rfl) (un_B rfl) ?_; clear H; intro w1 H; simp only [List.set_cons_zero, List.set_cons_succ] at H) | fail)
            go_roundw
            case rel => exact ⟨n + 1, by omega, by go_num, by rw [HN.out]; exact H⟩
            case measure => simp [intOf]; omega
        · obtain rfl : n = 4 := by omega
          have HN := Lib.hid (labN_4 l (4 * i) (true || hs))
          generalize labN l (4 * i) (true || hs) 4 = z at *
          go_wp2_with (first | (refine gate_load _ _ rfl ?_; refine wpList_mloadA rfl 36 _ rfl _ rfl 0 H (unC _) rfl (by decide +kernel) (by kernel_rfl) ?_) | (refine gate_store _ _ _ rfl ?_; refine wpList_mstoreA rfl 36 _ _ rfl rfl _ rfl 1 H (unC _) _ rfl rfl (by kernel_rfl) (by kernel_rfl) (by kernel_rfl) ?_; clear H; intro w1 H; simp only [List.set_cons_zero, List.set_cons_succ] at H) | fail)
          refine ret_mem1 rfl _ rfl 1 H _ rfl (by kernel_rfl) (by kernel_rfl) rfl ?_
          exact ⟨by rw [HN.out]; rfl, H.toBelow⟩
end Go.Proofs.Ytphnpahjofacfaa
