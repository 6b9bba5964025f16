/-
  The document's own span: what it reads is what a span's plain words tell; and begins. Over this seat's translation; of texts of at most 5000 octets.
-/
import Derived.Test.YtfceifmhlmiiiaaGreatDoorRnb
import Derived.Test.YtfceifmhlmiiiaaGreatDoorMem
namespace Go.Proofs.YtfceifmhlmiiiaaGreatDoor
open Go.RowKit
set_option linter.unusedSimpArgs false
set_option linter.unusedVariables false

theorem numF_le : ∀ (l : List UInt8) (n : Int), (numF l n).2 ≤ l.length
  | [], _ => Nat.le_refl _
  | c :: l, n => by
    unfold numF
    split
    · have := numF_le l (min (16 * n + hexV c) 100000); simp only [List.length_cons]; omega
    · exact Nat.zero_le _
theorem numF_hex : ∀ (l : List UInt8) (n : Int), isHex (l.take (numF l n).2) = true
  | [], _ => rfl
  | c :: l, n => by
    unfold numF
    split
    · rename_i h
      have := numF_hex l (min (16 * n + hexV c) 100000)
      simp only [List.take_succ_cons]
      unfold isHex at this ⊢
      rw [List.all_cons, this, decide_eq_true h]; rfl
    · rfl
theorem numF_stop : ∀ (l : List UInt8) (n : Int) (h : (numF l n).2 < l.length), ¬ 0 ≤ hexV (l[(numF l n).2]'h)
  | [], _, h => by simp at h
  | c :: l, n, h => by
    by_cases hc : 0 ≤ hexV c
    · have e : (numF (c :: l) n).2 = (numF l (min (16 * n + hexV c) 100000)).2 + 1 := by conv => lhs; unfold numF; rw [if_pos hc]
      have := numF_stop l (min (16 * n + hexV c) 100000) (by rw [e] at h; simpa using h)
      simp only [e, List.getElem_cons_succ]
      exact this
    · have e : (numF (c :: l) n).2 = 0 := by conv => lhs; unfold numF; rw [if_neg hc]
      simp only [e, List.getElem_cons_zero]
      exact hc
theorem numF_val : ∀ (l : List UInt8) (n : Int) (j : Nat), 0 ≤ n → n < ((16 ^ j : Nat) : Int) → j + (numF l n).2 ≤ 4 → (numF l n).1 = (l.take (numF l n).2).foldl (fun n c => 16 * n + hexV c) n
  | [], _, _, _, _, _ => rfl
  | c :: l, n, j, h0, h1, h2 => by
    by_cases hc : 0 ≤ hexV c
    · have hb := hexV_bd c
      have e : numF (c :: l) n = ((numF l (min (16 * n + hexV c) 100000)).1, (numF l (min (16 * n + hexV c) 100000)).2 + 1) := by conv => lhs; unfold numF; rw [if_pos hc]
      rw [e] at h2 ⊢
      simp only at h2 ⊢
      have hp : ((16 ^ (j + 1) : Nat) : Int) = 16 * ((16 ^ j : Nat) : Int) := by rw [Nat.pow_succ]; omega
      have hj : (16 : Nat) ^ j ≤ 16 ^ 3 := Nat.pow_le_pow_right (by omega) (by omega)
      have hm : min (16 * n + hexV c) 100000 = 16 * n + hexV c := by
        have : (16 : Nat) ^ 3 = 4096 := rfl
        omega
      rw [hm] at h2 ⊢
      have := numF_val l (16 * n + hexV c) (j + 1) (by omega) (by rw [hp]; omega) (by omega)
      rw [this, List.take_succ_cons, List.foldl_cons]
    · have e : numF (c :: l) n = (n, 0) := by conv => lhs; unfold numF; rw [if_neg hc]
      rw [e]; rfl
theorem numF_num {l : List UInt8} (h4 : (numF l 0).2 ≤ 4) : (numF l 0).1 = hexN (l.take (numF l 0).2) := numF_val l 0 0 (by omega) (by decide) (by omega)
theorem dash_hex : hexV 45 = -1 := rfl
theorem hex_dash {l : List UInt8} (h : isHex l = true) : 45 ∉ l := fun hm => by
  have := List.all_eq_true.1 h 45 hm
  rw [dash_hex] at this
  simp at this
theorem index_nodash : ∀ l : List UInt8, 45 ∉ l → Lib.index l [45] = -1
  | [], _ => by simp [Lib.index]
  | c :: l, h => by
    have hc : c ≠ 45 := fun e => h (by rw [e]; exact List.mem_cons_self ..)
    have ih := index_nodash l fun hm => h (List.mem_cons_of_mem _ hm)
    rw [Lib.index, ih]
    have hp : ([45] : List UInt8).isPrefixOf (c :: l) = false := by simp [List.isPrefixOf, hc.symm]
    rw [hp]
    simp
theorem cut_nodash (l : List UInt8) (h : 45 ∉ l) : Lib.cut l [45] = (l, [], false) := by
  unfold Lib.cut
  rw [index_nodash l h, if_neg (by omega)]
theorem cut_none {l : List UInt8} (h : 45 ∉ l) : fstL l = l ∧ sndL l = l := by
  have e : Lib.cut l [45] = (l, [], false) := by
    have := cut_nodash l h
    exact this
  unfold fstL sndL
  rw [e]; exact ⟨rfl, rfl⟩
/-- What span gives: the number ahead, and the one behind, and whether it is a range. -/
def spanF (l : List UInt8) : Option (Int × Int) :=
  if (numF l 0).2 < 1 ∨ 4 < (numF l 0).2 then none else
  if (numF l 0).2 < l.length then
    if l.getD (numF l 0).2 0 = 45 then
      (if (numF (l.drop ((numF l 0).2 + 1)) 0).2 < 1 ∨ 4 < (numF (l.drop ((numF l 0).2 + 1)) 0).2 ∨ (numF l 0).2 + 1 + (numF (l.drop ((numF l 0).2 + 1)) 0).2 ≠ l.length then none
       else some ((numF l 0).1, (numF (l.drop ((numF l 0).2 + 1)) 0).1))
    else none
  else some ((numF l 0).1, (numF l 0).1)
theorem numF_len : ∀ (f r : List UInt8) (n : Int), isHex f = true → (∀ c r', r = c :: r' → ¬ 0 ≤ hexV c) → (numF (f ++ r) n).2 = f.length
  | [], [], _, _, _ => rfl
  | [], c :: r, n, _, h => by
    have : numF (c :: r) n = (n, 0) := by conv => lhs; unfold numF; rw [if_neg (h c r rfl)]
    rw [List.nil_append, this]; rfl
  | c :: f, r, n, h, h2 => by
    unfold isHex at h
    rw [List.all_cons, Bool.and_eq_true, decide_eq_true_eq] at h
    have e : (numF (c :: (f ++ r)) n).2 = (numF (f ++ r) (min (16 * n + hexV c) 100000)).2 + 1 := by conv => lhs; unfold numF; rw [if_pos h.1]
    rw [List.cons_append, e, numF_len f r _ h.2 h2, List.length_cons]
theorem dash_split : ∀ l : List UInt8, 45 ∉ l ∨ ∃ a b, l = a ++ 45 :: b ∧ 45 ∉ a
  | [] => .inl (by simp)
  | c :: l => by
    by_cases hc : c = 45
    · subst hc; exact .inr ⟨[], l, rfl, by simp⟩
    · rcases dash_split l with h | ⟨a, b, rfl, h⟩
      · exact .inl (by simp [h, Ne.symm hc])
      · exact .inr ⟨c :: a, b, rfl, by simp [h, Ne.symm hc]⟩
theorem isNum_iff {l : List UInt8} : isNum l = true ↔ 1 ≤ l.length ∧ l.length ≤ 4 ∧ isHex l = true := by
  unfold isNum; simp only [Bool.and_eq_true, decide_eq_true_eq]
theorem spanF_some {l : List UInt8} {r : Int × Int} (h : spanF l = some r) : isNum (fstL l) = true ∧ isNum (sndL l) = true ∧ hexN (fstL l) = r.1 ∧ hexN (sndL l) = r.2 := by
  unfold spanF at h
  have hx := numF_hex l 0
  have hle := numF_le l 0
  have hv := fun h4 => numF_num (l := l) h4
  generalize (numF l 0).2 = k at *
  by_cases h1 : k < 1 ∨ 4 < k
  · rw [if_pos h1] at h; cases h
  rw [if_neg h1] at h
  have hv := hv (by omega)
  by_cases h2 : k < l.length
  · rw [if_pos h2] at h
    by_cases h3 : l.getD k 0 = 45
    · rw [if_pos h3] at h
      have hx2 := numF_hex (l.drop (k + 1)) 0
      have hv2 := fun h4 => numF_num (l := l.drop (k + 1)) h4
      generalize (numF (l.drop (k + 1)) 0).2 = j at *
      by_cases h4 : j < 1 ∨ 4 < j ∨ k + 1 + j ≠ l.length
      · rw [if_pos h4] at h; cases h
      · rw [if_neg h4] at h
        have hv2 := hv2 (by omega)
        obtain rfl := Option.some.inj h
        have hj : (l.drop (k + 1)).take j = l.drop (k + 1) := List.take_of_length_le (by rw [List.length_drop]; omega)
        rw [hj] at hx2 hv2
        have hl : l = l.take k ++ 45 :: l.drop (k + 1) := by
          have e : l.getD k 0 = l[k]'h2 := by simp [h2]
          rw [e] at h3
          rw [← h3, List.getElem_cons_drop, List.take_append_drop]
        have hc := cut_dash (l.take k) (l.drop (k + 1)) (hex_dash hx)
        rw [← hl] at hc
        have f1 : fstL l = l.take k := by unfold fstL; rw [hc]
        have f2 : sndL l = l.drop (k + 1) := by unfold sndL; rw [hc]; rfl
        rw [f1, f2]
        refine ⟨isNum_iff.2 ⟨?_, ?_, hx⟩, isNum_iff.2 ⟨?_, ?_, hx2⟩, hv.symm, hv2.symm⟩
        · rw [List.length_take]; omega
        · rw [List.length_take]; omega
        · rw [List.length_drop]; omega
        · rw [List.length_drop]; omega
    · rw [if_neg h3] at h; cases h
  · rw [if_neg h2] at h
    obtain rfl := Option.some.inj h
    have hk : k = l.length := by omega
    subst hk
    rw [List.take_length] at hx hv
    obtain ⟨f1, f2⟩ := cut_none (hex_dash hx)
    rw [f1, f2]
    exact ⟨isNum_iff.2 ⟨by omega, by omega, hx⟩, isNum_iff.2 ⟨by omega, by omega, hx⟩, hv.symm, hv.symm⟩
theorem spanF_num {l : List UInt8} (h1 : isNum (fstL l) = true) (h2 : isNum (sndL l) = true) : ∃ r, spanF l = some r := by
  rcases dash_split l with hd | ⟨a, b, rfl, hd⟩
  · obtain ⟨f1, f2⟩ := cut_none hd
    rw [f1] at h1
    obtain ⟨n1, n2, n3⟩ := isNum_iff.1 h1
    have hk : (numF l 0).2 = l.length := by
      have := numF_len l [] 0 n3 (fun c r' e => by cases e)
      rwa [List.append_nil] at this
    unfold spanF
    rw [hk, if_neg (by omega), if_neg (by omega)]
    exact ⟨_, rfl⟩
  · have hc := cut_dash a b hd
    have f1 : fstL (a ++ 45 :: b) = a := by unfold fstL; rw [hc]
    have f2 : sndL (a ++ 45 :: b) = b := by unfold sndL; rw [hc]; rfl
    rw [f1] at h1
    rw [f2] at h2
    obtain ⟨n1, n2, n3⟩ := isNum_iff.1 h1
    obtain ⟨m1, m2, m3⟩ := isNum_iff.1 h2
    have hk : (numF (a ++ 45 :: b) 0).2 = a.length := numF_len a (45 :: b) 0 n3 (fun c r' e => by injection e with e _; subst e; rw [dash_hex]; omega)
    have hb : (a ++ 45 :: b).drop (a.length + 1) = b := by rw [List.drop_append]; simp
    have hj : (numF b 0).2 = b.length := by
      have := numF_len b [] 0 m3 (fun c r' e => by cases e)
      rwa [List.append_nil] at this
    unfold spanF
    rw [hk, if_neg (by omega), if_pos (by simp), if_pos (by simp), hb, hj, if_neg (by rw [List.length_append, List.length_cons]; omega)]
    exact ⟨_, rfl⟩
theorem span_eq (size : Int) (l : List UInt8) : spanL size l = match spanF l with
    | some r => if r.1 ≤ r.2 ∧ r.2 < size then some r else none
    | none => none := by
  cases h : spanF l with
  | none =>
    have : spanB size l = false := by
      rw [Bool.eq_false_iff]
      intro hb
      unfold spanB at hb
      simp only [Bool.and_eq_true] at hb
      obtain ⟨r, hr⟩ := spanF_num hb.1 hb.2.1
      rw [h] at hr; cases hr
    unfold spanL
    rw [this]; rfl
  | some r =>
    obtain ⟨h1, h2, h3, h4⟩ := spanF_some h
    unfold spanL spanB
    rw [h1, h2, h3, h4, Bool.true_and, Bool.true_and]
    show _ = if r.1 ≤ r.2 ∧ r.2 < size then some r else none
    by_cases hc : r.1 ≤ r.2 ∧ r.2 < size
    · rw [decide_eq_true hc.1, decide_eq_true hc.2, if_pos hc]; rfl
    · rw [if_neg hc]
      by_cases h5 : r.1 ≤ r.2
      · rw [decide_eq_true h5, decide_eq_false (fun h6 => hc ⟨h5, h6⟩)]; rfl
      · rw [decide_eq_false h5]; rfl
theorem spanF_bd {l : List UInt8} {r : Int × Int} (h : spanF l = some r) : 0 ≤ r.1 ∧ r.1 ≤ 65535 ∧ 0 ≤ r.2 ∧ r.2 ≤ 65535 := by
  obtain ⟨h1, h2, h3, h4⟩ := spanF_some h
  have b1 := isNum_bd _ h1
  have b2 := isNum_bd _ h2
  omega
def SpanP (O : Option (Int × Int)) (w : World) (e : Ending) (w' : World) : Prop := ∃ r : Int × Int, e = .returned (.tuple #[.agg #[.int .i64 r.1, .int .i64 r.2], .bool O.isSome]) ∧ (∀ x, O = some x → r = x) ∧ Below w.heap.size w w'
theorem alloc_range (w : World) : (Instr.alloc 42 true (.tuple #[])).run Tryz.prog w = .ok (.pointer (some ⟨w.heap.size, 0, none⟩)) (w.alloc (.cells #[.int .i64 0, .int .i64 0] 42)) := by kernel_rfl
theorem rn_at (t : ByteArray) (k : Nat) (h : k < t.size) : t.data.toList.getD k 0 = t[k]'h := by
  have hl : k < t.data.toList.length := by rw [Array.length_toList]; exact h
  show (t.data.toList[k]?).getD 0 = _
  rw [List.getElem?_eq_getElem hl]
  rfl
set_option maxRecDepth 20000 in
set_option maxHeartbeats 4000000 in
theorem rspan_ct (t : ByteArray) (size : Int) (w : World) (hs : t.size ≤ 5000) (z0 : 0 ≤ size) (z1 : size ≤ 65536) : Calls Tryz.prog 30 #[.string t, .int .i64 size] w (SpanP (spanL size t.data.toList) w) := by
  have HZ := Lib.hid alloc_range
  have hlen : t.data.toList.length = t.size := by rw [Array.length_toList]; rfl
  have K1 := fun wr => rnumber_ct t 0 wr hs (Nat.zero_le _)
  have K2 := fun k (hk : k + 1 ≤ t.size) wr => rnumber_ct t (k + 1) wr hs hk
  have hle := numF_le t.data.toList 0
  have hF : ∀ r, spanF t.data.toList = some r → 0 ≤ r.1 ∧ r.1 ≤ 65535 ∧ 0 ≤ r.2 ∧ r.2 ≤ 65535 := fun r h => spanF_bd h
  rw [span_eq]
  unfold spanF at hF ⊢
  rw [List.drop_zero] at K1
  simp only [Nat.zero_add, Int.natCast_zero] at K1
  rw [hlen] at hle hF ⊢
  generalize (numF t.data.toList 0).1 = v at *
  generalize (numF t.data.toList 0).2 = k at *
  have Q1 := Lib.hid K1
  have H := Mem.start w
  clear K1
  by_cases h1 : k < 1 ∨ 4 < k
  · rw [if_pos h1]
    have d1 : decide ((k : Int) < 1) = true ∨ (decide ((k : Int) < 1) = false ∧ decide (4 < (k : Int)) = true) := by
      simp only [decide_eq_true_eq, decide_eq_false_iff_not]; omega
    clear hF
    rcases d1 with d1 | ⟨d1, d2⟩
    all_goals
      go_enter Tryz.func30, Tryz.ntmps30
      go_wp2_with (first
        | (go_at_call 47; (with_reducible refine (Q1.out _).mono ?_); rintro e w2 ⟨rfl, hB⟩; replace H := H.next hB; clear hB)
        | go_skip | (refine wpList_mboxA rfl _ _ rfl H _ rfl ?_; clear H; intro _ w1 _ H) | (refine gate_load _ _ rfl ?_; first | (refine wpList_mloadA rfl _ _ rfl _ rfl 0 H _ rfl (by decide +kernel) (by kernel_rfl) ?_) | (refine wpList_mload1 rfl _ _ rfl _ _ rfl 0 H _ (.int _ _) rfl rfl (by decide +kernel) ?_) | (refine wpList_mload1 rfl _ _ rfl _ _ rfl 0 H _ (.bool _) rfl rfl (by decide +kernel) ?_) | (refine wpList_mload1 rfl _ _ rfl _ _ rfl 0 H _ (.pointer _) rfl rfl (by decide +kernel) ?_) | (refine wpList_mload1 rfl _ _ rfl _ _ rfl 0 H _ (.string _) rfl rfl (by decide +kernel) ?_) | (refine wpList_mload1 rfl _ _ rfl _ _ rfl 0 H _ (.slice _ _ _) rfl rfl (by decide +kernel) ?_)) | (refine gate_store _ _ _ rfl ?_; (first | (refine wpList_mstoreA rfl _ _ _ rfl rfl _ rfl 0 H _ _ rfl rfl (by kernel_rfl) (by kernel_rfl) (by kernel_rfl) ?_) | (refine wpList_mstore rfl _ _ _ rfl rfl _ _ rfl 0 H _ _ rfl (.int _ _) rfl (by kernel_rfl) (of_decide_eq_true (by kernel_rfl)) (by kernel_rfl) rfl ?_) | (refine wpList_mstore rfl _ _ _ rfl rfl _ _ rfl 0 H _ _ rfl (.bool _) rfl (by kernel_rfl) (of_decide_eq_true (by kernel_rfl)) (by kernel_rfl) rfl ?_) | (refine wpList_mstore rfl _ _ _ rfl rfl _ _ rfl 0 H _ _ rfl (.pointer _) rfl (by kernel_rfl) (of_decide_eq_true (by kernel_rfl)) (by kernel_rfl) rfl ?_) | (refine wpList_mstore rfl _ _ _ rfl rfl _ _ rfl 0 H _ _ rfl (.string _) rfl (by kernel_rfl) (of_decide_eq_true (by kernel_rfl)) (by kernel_rfl) rfl ?_) | (refine wpList_mstore rfl _ _ _ rfl rfl _ _ rfl 0 H _ _ rfl (.slice _ _ _) rfl (by kernel_rfl) (of_decide_eq_true (by kernel_rfl)) (by kernel_rfl) rfl ?_)); clear H; intro w1 H; simp only [List.set_cons_zero, List.set_cons_succ] at H)
        | (refine wpList_mnew rfl _ rfl H _ HZ.out ?_; clear H; intro _ w1 _ H))
      refine ret_mem2 rfl _ rfl 0 H _ rfl (by kernel_rfl) (by kernel_rfl) rfl _ rfl ?_
      exact ⟨(0, 0), rfl, fun x h => (by cases h), H.toBelow⟩
  rw [if_neg h1] at hF ⊢
  have d1 : decide ((k : Int) < 1) = false := by simp; omega
  have d2 : decide (4 < (k : Int)) = false := by simp; omega
  by_cases h2 : k < t.size
  · rw [if_pos h2] at hF ⊢
    have d3 : decide ((k : Int) < (t.size : Int)) = true := by simpa using h2
    have hat := rn_at t k h2
    rw [hat] at hF ⊢
    have e9 : ((k + 1 : Nat) : Int) = (k : Int) + 1 := by omega
    have hne := fun W => K2 k h2 W
    rw [e9] at hne
    clear e9
    clear K2
    by_cases h3 : t[k]'h2 = 45
    · rw [if_pos h3] at hF ⊢
      have d4 : (((t[k]'h2).toNat : Int) != 45) = false := by rw [h3]; rfl
      have hle2 := numF_le (t.data.toList.drop (k + 1)) 0
      rw [List.length_drop, hlen] at hle2
      generalize (numF (t.data.toList.drop (k + 1)) 0).1 = v2 at *
      generalize (numF (t.data.toList.drop (k + 1)) 0).2 = j at *
      obtain ⟨E, hE⟩ : ∃ E : Int, ((k + 1 + j : Nat) : Int) = E := ⟨_, rfl⟩
      rw [hE] at hne
      have E0 : 0 ≤ E := by omega
      have E1 : E ≤ 5000 := by omega
      have Q2 := Lib.hid hne
      clear hne hat
      by_cases h4 : j < 1 ∨ 4 < j ∨ k + 1 + j ≠ t.size
      · rw [if_pos h4]
        have d5 : decide (E - ((k : Int) + 1) < 1) = true ∨ (decide (E - ((k : Int) + 1) < 1) = false ∧ decide (4 < E - ((k : Int) + 1)) = true) ∨ (decide (E - ((k : Int) + 1) < 1) = false ∧ decide (4 < E - ((k : Int) + 1)) = false ∧ (E != (t.size : Int)) = true) := by
          simp only [decide_eq_true_eq, decide_eq_false_iff_not, bne_iff_ne]; omega
        clear hF hE
        rcases d5 with d5 | ⟨d5, d7⟩ | ⟨d5, d7, d8⟩
        all_goals
          go_enter Tryz.func30, Tryz.ntmps30
          go_wp2_with (first
            | (go_at_call 47; first
                | (with_reducible refine (Q1.out _).mono ?_; rintro e w2 ⟨rfl, hB⟩; replace H := H.next hB; clear hB)
                | (with_reducible refine (Q2.out _).mono ?_; rintro e w2 ⟨rfl, hB⟩; replace H := H.next hB; clear hB))
            | go_skip | (refine wpList_mboxA rfl _ _ rfl H _ rfl ?_; clear H; intro _ w1 _ H) | (refine gate_load _ _ rfl ?_; first | (refine wpList_mloadA rfl _ _ rfl _ rfl 0 H _ rfl (by decide +kernel) (by kernel_rfl) ?_) | (refine wpList_mload1 rfl _ _ rfl _ _ rfl 0 H _ (.int _ _) rfl rfl (by decide +kernel) ?_) | (refine wpList_mload1 rfl _ _ rfl _ _ rfl 0 H _ (.bool _) rfl rfl (by decide +kernel) ?_) | (refine wpList_mload1 rfl _ _ rfl _ _ rfl 0 H _ (.pointer _) rfl rfl (by decide +kernel) ?_) | (refine wpList_mload1 rfl _ _ rfl _ _ rfl 0 H _ (.string _) rfl rfl (by decide +kernel) ?_) | (refine wpList_mload1 rfl _ _ rfl _ _ rfl 0 H _ (.slice _ _ _) rfl rfl (by decide +kernel) ?_)) | (refine gate_store _ _ _ rfl ?_; (first | (refine wpList_mstoreA rfl _ _ _ rfl rfl _ rfl 0 H _ _ rfl rfl (by kernel_rfl) (by kernel_rfl) (by kernel_rfl) ?_) | (refine wpList_mstore rfl _ _ _ rfl rfl _ _ rfl 0 H _ _ rfl (.int _ _) rfl (by kernel_rfl) (of_decide_eq_true (by kernel_rfl)) (by kernel_rfl) rfl ?_) | (refine wpList_mstore rfl _ _ _ rfl rfl _ _ rfl 0 H _ _ rfl (.bool _) rfl (by kernel_rfl) (of_decide_eq_true (by kernel_rfl)) (by kernel_rfl) rfl ?_) | (refine wpList_mstore rfl _ _ _ rfl rfl _ _ rfl 0 H _ _ rfl (.pointer _) rfl (by kernel_rfl) (of_decide_eq_true (by kernel_rfl)) (by kernel_rfl) rfl ?_) | (refine wpList_mstore rfl _ _ _ rfl rfl _ _ rfl 0 H _ _ rfl (.string _) rfl (by kernel_rfl) (of_decide_eq_true (by kernel_rfl)) (by kernel_rfl) rfl ?_) | (refine wpList_mstore rfl _ _ _ rfl rfl _ _ rfl 0 H _ _ rfl (.slice _ _ _) rfl (by kernel_rfl) (of_decide_eq_true (by kernel_rfl)) (by kernel_rfl) rfl ?_)); clear H; intro w1 H; simp only [List.set_cons_zero, List.set_cons_succ] at H)
            | (refine wpList_mnew rfl _ rfl H _ HZ.out ?_; clear H; intro _ w1 _ H))
          refine ret_mem2 rfl _ rfl 0 H _ rfl (by kernel_rfl) (by kernel_rfl) rfl _ rfl ?_
          exact ⟨(0, 0), rfl, fun x h => (by cases h), H.toBelow⟩
      · rw [if_neg h4] at hF ⊢
        obtain ⟨b1, b2, b3, b4⟩ := hF _ rfl
        simp only at b1 b2 b3 b4
        have hjt : k + 1 + j = t.size := by omega
        have d5 : decide (E - ((k : Int) + 1) < 1) = false := by simp; omega
        have d7 : decide (4 < E - ((k : Int) + 1)) = false := by simp; omega
        have d8 : (E != (t.size : Int)) = false := by simp; omega
        clear hE
        clear hF
        have hcase : ((match some (v, v2) with | some r => if r.1 ≤ r.2 ∧ r.2 < size then some r else none | none => none) = some (v, v2) ∧ decide (v ≤ v2) = true ∧ decide (v2 < size) = true) ∨ ((match some (v, v2) with | some r => if r.1 ≤ r.2 ∧ r.2 < size then some r else none | none => none) = none ∧ decide (v ≤ v2) = true ∧ decide (v2 < size) = false) ∨ ((match some (v, v2) with | some r => if r.1 ≤ r.2 ∧ r.2 < size then some r else none | none => none) = none ∧ decide (v ≤ v2) = false) := by
          by_cases g1 : v ≤ v2
          · by_cases g2 : v2 < size
            · left; exact ⟨if_pos ⟨g1, g2⟩, by simpa using g1, by simpa using g2⟩
            · right; left; exact ⟨if_neg (fun h => g2 h.2), by simpa using g1, by simpa using g2⟩
          · right; right; exact ⟨if_neg (fun h => g1 h.1), by simpa using g1⟩
        rcases hcase with ⟨hm, e1, e2⟩ | ⟨hm, e1, e2⟩ | ⟨hm, e1⟩
        all_goals
          rw [hm]
          clear hm
          go_enter Tryz.func30, Tryz.ntmps30
          go_wp2_with (first
            | (go_at_call 47; first
                | (with_reducible refine (Q1.out _).mono ?_; rintro e w2 ⟨rfl, hB⟩; replace H := H.next hB; clear hB)
                | (with_reducible refine (Q2.out _).mono ?_; rintro e w2 ⟨rfl, hB⟩; replace H := H.next hB; clear hB))
            | go_skip | (refine wpList_mboxA rfl _ _ rfl H _ rfl ?_; clear H; intro _ w1 _ H) | (refine gate_load _ _ rfl ?_; first | (refine wpList_mloadA rfl _ _ rfl _ rfl 0 H _ rfl (by decide +kernel) (by kernel_rfl) ?_) | (refine wpList_mload1 rfl _ _ rfl _ _ rfl 0 H _ (.int _ _) rfl rfl (by decide +kernel) ?_) | (refine wpList_mload1 rfl _ _ rfl _ _ rfl 0 H _ (.bool _) rfl rfl (by decide +kernel) ?_) | (refine wpList_mload1 rfl _ _ rfl _ _ rfl 0 H _ (.pointer _) rfl rfl (by decide +kernel) ?_) | (refine wpList_mload1 rfl _ _ rfl _ _ rfl 0 H _ (.string _) rfl rfl (by decide +kernel) ?_) | (refine wpList_mload1 rfl _ _ rfl _ _ rfl 0 H _ (.slice _ _ _) rfl rfl (by decide +kernel) ?_)) | (refine gate_store _ _ _ rfl ?_; (first | (refine wpList_mstoreA rfl _ _ _ rfl rfl _ rfl 0 H _ _ rfl rfl (by kernel_rfl) (by kernel_rfl) (by kernel_rfl) ?_) | (refine wpList_mstore rfl _ _ _ rfl rfl _ _ rfl 0 H _ _ rfl (.int _ _) rfl (by kernel_rfl) (of_decide_eq_true (by kernel_rfl)) (by kernel_rfl) rfl ?_) | (refine wpList_mstore rfl _ _ _ rfl rfl _ _ rfl 0 H _ _ rfl (.bool _) rfl (by kernel_rfl) (of_decide_eq_true (by kernel_rfl)) (by kernel_rfl) rfl ?_) | (refine wpList_mstore rfl _ _ _ rfl rfl _ _ rfl 0 H _ _ rfl (.pointer _) rfl (by kernel_rfl) (of_decide_eq_true (by kernel_rfl)) (by kernel_rfl) rfl ?_) | (refine wpList_mstore rfl _ _ _ rfl rfl _ _ rfl 0 H _ _ rfl (.string _) rfl (by kernel_rfl) (of_decide_eq_true (by kernel_rfl)) (by kernel_rfl) rfl ?_) | (refine wpList_mstore rfl _ _ _ rfl rfl _ _ rfl 0 H _ _ rfl (.slice _ _ _) rfl (by kernel_rfl) (of_decide_eq_true (by kernel_rfl)) (by kernel_rfl) rfl ?_)); clear H; intro w1 H; simp only [List.set_cons_zero, List.set_cons_succ] at H)
            | (refine wpList_mnew rfl _ rfl H _ HZ.out ?_; clear H; intro _ w1 _ H))
          refine ret_mem2 rfl _ rfl 0 H _ rfl (by kernel_rfl) (by kernel_rfl) rfl _ rfl ?_
          exact ⟨(v, v2), rfl, fun x h => (by first | (cases h; done) | exact Option.some.inj h), H.toBelow⟩
    · rw [if_neg h3]
      have d4 : (((t[k]'h2).toNat : Int) != 45) = true := by
        rw [bne_iff_ne]
        intro e
        exact h3 (UInt8.toNat_inj.1 (show (t[k]'h2).toNat = (45 : UInt8).toNat by have : (45 : UInt8).toNat = 45 := rfl; omega))
      clear hF hne hat
      go_enter Tryz.func30, Tryz.ntmps30
      go_wp2_with (first
        | (go_at_call 47; (with_reducible refine (Q1.out _).mono ?_); rintro e w2 ⟨rfl, hB⟩; replace H := H.next hB; clear hB)
        | go_skip | (refine wpList_mboxA rfl _ _ rfl H _ rfl ?_; clear H; intro _ w1 _ H) | (refine gate_load _ _ rfl ?_; first | (refine wpList_mloadA rfl _ _ rfl _ rfl 0 H _ rfl (by decide +kernel) (by kernel_rfl) ?_) | (refine wpList_mload1 rfl _ _ rfl _ _ rfl 0 H _ (.int _ _) rfl rfl (by decide +kernel) ?_) | (refine wpList_mload1 rfl _ _ rfl _ _ rfl 0 H _ (.bool _) rfl rfl (by decide +kernel) ?_) | (refine wpList_mload1 rfl _ _ rfl _ _ rfl 0 H _ (.pointer _) rfl rfl (by decide +kernel) ?_) | (refine wpList_mload1 rfl _ _ rfl _ _ rfl 0 H _ (.string _) rfl rfl (by decide +kernel) ?_) | (refine wpList_mload1 rfl _ _ rfl _ _ rfl 0 H _ (.slice _ _ _) rfl rfl (by decide +kernel) ?_)) | (refine gate_store _ _ _ rfl ?_; (first | (refine wpList_mstoreA rfl _ _ _ rfl rfl _ rfl 0 H _ _ rfl rfl (by kernel_rfl) (by kernel_rfl) (by kernel_rfl) ?_) | (refine wpList_mstore rfl _ _ _ rfl rfl _ _ rfl 0 H _ _ rfl (.int _ _) rfl (by kernel_rfl) (of_decide_eq_true (by kernel_rfl)) (by kernel_rfl) rfl ?_) | (refine wpList_mstore rfl _ _ _ rfl rfl _ _ rfl 0 H _ _ rfl (.bool _) rfl (by kernel_rfl) (of_decide_eq_true (by kernel_rfl)) (by kernel_rfl) rfl ?_) | (refine wpList_mstore rfl _ _ _ rfl rfl _ _ rfl 0 H _ _ rfl (.pointer _) rfl (by kernel_rfl) (of_decide_eq_true (by kernel_rfl)) (by kernel_rfl) rfl ?_) | (refine wpList_mstore rfl _ _ _ rfl rfl _ _ rfl 0 H _ _ rfl (.string _) rfl (by kernel_rfl) (of_decide_eq_true (by kernel_rfl)) (by kernel_rfl) rfl ?_) | (refine wpList_mstore rfl _ _ _ rfl rfl _ _ rfl 0 H _ _ rfl (.slice _ _ _) rfl (by kernel_rfl) (of_decide_eq_true (by kernel_rfl)) (by kernel_rfl) rfl ?_)); clear H; intro w1 H; simp only [List.set_cons_zero, List.set_cons_succ] at H)
        | (refine wpList_mnew rfl _ rfl H _ HZ.out ?_; clear H; intro _ w1 _ H))
      refine ret_mem2 rfl _ rfl 0 H _ rfl (by kernel_rfl) (by kernel_rfl) rfl _ rfl ?_
      exact ⟨(0, 0), rfl, fun x h => (by cases h), H.toBelow⟩
  · rw [if_neg h2] at hF ⊢
    obtain ⟨b1, b2, b3, b4⟩ := hF _ rfl
    simp only at b1 b2 b3 b4
    have d3 : decide ((k : Int) < (t.size : Int)) = false := by simp; omega
    have d9 : decide (v ≤ v) = true := by simp
    clear hF K2
    have hcase : ((match some (v, v) with | some r => if r.1 ≤ r.2 ∧ r.2 < size then some r else none | none => none) = some (v, v) ∧ decide (v < size) = true) ∨ ((match some (v, v) with | some r => if r.1 ≤ r.2 ∧ r.2 < size then some r else none | none => none) = none ∧ decide (v < size) = false) := by
      by_cases g2 : v < size
      · left; exact ⟨if_pos ⟨Int.le_refl _, g2⟩, by simpa using g2⟩
      · right; exact ⟨if_neg (fun h => g2 h.2), by simpa using g2⟩
    rcases hcase with ⟨hm, e1⟩ | ⟨hm, e1⟩
    all_goals
      rw [hm]
      clear hm
      go_enter Tryz.func30, Tryz.ntmps30
      go_wp2_with (first
        | (go_at_call 47; (with_reducible refine (Q1.out _).mono ?_); rintro e w2 ⟨rfl, hB⟩; replace H := H.next hB; clear hB)
        | go_skip | (refine wpList_mboxA rfl _ _ rfl H _ rfl ?_; clear H; intro _ w1 _ H) | (refine gate_load _ _ rfl ?_; first | (refine wpList_mloadA rfl _ _ rfl _ rfl 0 H _ rfl (by decide +kernel) (by kernel_rfl) ?_) | (refine wpList_mload1 rfl _ _ rfl _ _ rfl 0 H _ (.int _ _) rfl rfl (by decide +kernel) ?_) | (refine wpList_mload1 rfl _ _ rfl _ _ rfl 0 H _ (.bool _) rfl rfl (by decide +kernel) ?_) | (refine wpList_mload1 rfl _ _ rfl _ _ rfl 0 H _ (.pointer _) rfl rfl (by decide +kernel) ?_) | (refine wpList_mload1 rfl _ _ rfl _ _ rfl 0 H _ (.string _) rfl rfl (by decide +kernel) ?_) | (refine wpList_mload1 rfl _ _ rfl _ _ rfl 0 H _ (.slice _ _ _) rfl rfl (by decide +kernel) ?_)) | (refine gate_store _ _ _ rfl ?_; (first | (refine wpList_mstoreA rfl _ _ _ rfl rfl _ rfl 0 H _ _ rfl rfl (by kernel_rfl) (by kernel_rfl) (by kernel_rfl) ?_) | (refine wpList_mstore rfl _ _ _ rfl rfl _ _ rfl 0 H _ _ rfl (.int _ _) rfl (by kernel_rfl) (of_decide_eq_true (by kernel_rfl)) (by kernel_rfl) rfl ?_) | (refine wpList_mstore rfl _ _ _ rfl rfl _ _ rfl 0 H _ _ rfl (.bool _) rfl (by kernel_rfl) (of_decide_eq_true (by kernel_rfl)) (by kernel_rfl) rfl ?_) | (refine wpList_mstore rfl _ _ _ rfl rfl _ _ rfl 0 H _ _ rfl (.pointer _) rfl (by kernel_rfl) (of_decide_eq_true (by kernel_rfl)) (by kernel_rfl) rfl ?_) | (refine wpList_mstore rfl _ _ _ rfl rfl _ _ rfl 0 H _ _ rfl (.string _) rfl (by kernel_rfl) (of_decide_eq_true (by kernel_rfl)) (by kernel_rfl) rfl ?_) | (refine wpList_mstore rfl _ _ _ rfl rfl _ _ rfl 0 H _ _ rfl (.slice _ _ _) rfl (by kernel_rfl) (of_decide_eq_true (by kernel_rfl)) (by kernel_rfl) rfl ?_)); clear H; intro w1 H; simp only [List.set_cons_zero, List.set_cons_succ] at H)
        | (refine wpList_mnew rfl _ rfl H _ HZ.out ?_; clear H; intro _ w1 _ H))
      refine ret_mem2 rfl _ rfl 0 H _ rfl (by kernel_rfl) (by kernel_rfl) rfl _ rfl ?_
      exact ⟨(v, v), rfl, fun x h => (by first | (cases h; done) | exact Option.some.inj h), H.toBelow⟩
end Go.Proofs.YtfceifmhlmiiiaaGreatDoor
