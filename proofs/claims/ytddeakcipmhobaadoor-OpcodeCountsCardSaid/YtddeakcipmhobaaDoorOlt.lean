/-
  Layer 9's awake, and the walks of OpcodeTable, OpcodeUses and OpcodeCycles, by what the program's Decode and Long tell. Over this seat's translation; opcodes are from 0 to 255.
-/
import Derived.Test.YtddeakcipmhobaaDoorOqf
import Derived.Test.YtddeakcipmhobaaDoorAlp
namespace Go.Proofs.YtddeakcipmhobaaDoor
open Go.RowKit
set_option linter.unusedSimpArgs false
set_option linter.unusedVariables false
set_option maxRecDepth 20000

/-- What the program's functions are known by. -/
def KDec : Prop := ∀ (op : Int) (wr : World), GlobO wr → 0 ≤ op → op < 256 → Calls Tryd.prog 8 #[.int .u8 op] wr fun e w' => e = .returned (.agg (decC op)) ∧ Below wr.heap.size wr w'
def KLong : Prop := ∀ (nm : ByteArray) (m u c : Int) (x g : Bool) (wr : World), Calls Tryd.prog 10 #[.agg #[.string nm, .int .i64 m, .int .i64 u, .int .i64 c, .bool x, .bool g]] wr fun e w' => e = .returned (.int .i64 (longV m)) ∧ Below wr.heap.size wr w'
theorem kdec : KDec := fun op wr hg o0 o1 => qdec_ct op wr hg o0 o1
theorem klong : KLong := fun nm m u c x g wr => qlong_ct nm m u c x g wr
theorem ba_eq (x : ByteArray) (l : List UInt8) (h : x.toList = l) : x = ⟨l.toArray⟩ := by
  rw [ByteArray.toList_eq] at h
  cases x
  simp at h
  subst h
  simp
theorem run_alloc_op (o : Oper) (h : o.op = .alloc 23) (ρ : Operand → Value) (w : World) : (execOp ρ o).run Tryd.prog w = .ok (.value (ptrTo w.heap.size)) (w.alloc (.cells (opC ⟨#[]⟩ 0 0 0 false false) 23)) := by
  unfold execOp
  rw [h]
  kernel_rfl
set_option maxHeartbeats 4000000 in
theorem oawake_ct (KD : KDec) (w : World) (G : GlobO w) : Calls Tryd.prog 12 #[] w fun e w' => e = .returned (.bool true) ∧ Below w.heap.size w w' := by
  have K1 := fun wr (hg : GlobO wr) => KD 169 wr hg (by decide) (by decide)
  have K2 := fun wr (hg : GlobO wr) => KD 30 wr hg (by decide) (by decide)
  have K3 := fun wr (hg : GlobO wr) => KD 145 wr hg (by decide) (by decide)
  rw [decC_list, ba_eq (nameV 169) [76, 68, 65] (by rw [nameV_list]; decide +kernel), show modeL 169 = 2 by decide +kernel, show useL 169 = 1 by decide +kernel, show cyL 169 = 2 by decide +kernel, show crL 169 = false by decide +kernel, show goodL 169 = true by decide +kernel] at K1
  rw [decC_list, show cyL 30 = 7 by decide +kernel] at K2
  rw [decC_list, show cyL 145 = 6 by decide +kernel, show crL 145 = false by decide +kernel] at K3
  generalize nameV 30 = n2 at *
  generalize modeL 30 = m2 at *
  generalize useL 30 = u2 at *
  generalize crL 30 = x2 at *
  generalize goodL 30 = g2 at *
  generalize nameV 145 = n3 at *
  generalize modeL 145 = m3 at *
  generalize useL 145 = u3 at *
  generalize goodL 145 = g3 at *
  unfold opC at K1 K2 K3
  have Q1 := Lib.hid K1
  have Q2 := Lib.hid K2
  have Q3 := Lib.hid K3
  clear K1 K2 K3 KD
  have HZ := Lib.hid alloc_op
  have GG := Lib.hid G
  clear G
  have H := Mem.start w
  go_enter Tryd.func12, Tryd.ntmps12
  go_wp2_with (first
    | (go_at_call 8; first
        | ((with_reducible refine (Q1.out _ (GG.out.mem H)).mono ?_); rintro e w2 ⟨rfl, hB⟩; replace H := H.next hB; clear hB)
        | ((with_reducible refine (Q2.out _ (GG.out.mem H)).mono ?_); rintro e w2 ⟨rfl, hB⟩; replace H := H.next hB; clear hB)
        | ((with_reducible refine (Q3.out _ (GG.out.mem H)).mono ?_); rintro e w2 ⟨rfl, hB⟩; replace H := H.next hB; clear hB))
    | go_skip | (refine wpList_mboxA rfl _ _ rfl H _ rfl ?_; clear H; intro _ w1 _ H) | (refine gate_load _ _ rfl ?_; first | (refine wpList_mloadA rfl _ _ rfl _ rfl 0 H _ rfl (by decide +kernel) (by kernel_rfl) ?_) | (refine wpList_mloadA rfl _ _ rfl _ rfl 1 H _ rfl (by decide +kernel) (by kernel_rfl) ?_) | (refine wpList_mloadA rfl _ _ rfl _ rfl 2 H _ rfl (by decide +kernel) (by kernel_rfl) ?_) | (refine wpList_mload1 rfl _ _ rfl _ _ rfl 0 H _ (.int _ _) rfl rfl (by decide +kernel) ?_) | (refine wpList_mload1 rfl _ _ rfl _ _ rfl 1 H _ (.int _ _) rfl rfl (by decide +kernel) ?_) | (refine wpList_mload1 rfl _ _ rfl _ _ rfl 2 H _ (.int _ _) rfl rfl (by decide +kernel) ?_) | (refine wpList_mload1 rfl _ _ rfl _ _ rfl 0 H _ (.bool _) rfl rfl (by decide +kernel) ?_) | (refine wpList_mload1 rfl _ _ rfl _ _ rfl 1 H _ (.bool _) rfl rfl (by decide +kernel) ?_) | (refine wpList_mload1 rfl _ _ rfl _ _ rfl 2 H _ (.bool _) rfl rfl (by decide +kernel) ?_) | (refine wpList_mload1 rfl _ _ rfl _ _ rfl 0 H _ (.pointer _) rfl rfl (by decide +kernel) ?_) | (refine wpList_mload1 rfl _ _ rfl _ _ rfl 1 H _ (.pointer _) rfl rfl (by decide +kernel) ?_) | (refine wpList_mload1 rfl _ _ rfl _ _ rfl 2 H _ (.pointer _) rfl rfl (by decide +kernel) ?_) | (refine wpList_mload1 rfl _ _ rfl _ _ rfl 0 H _ (.string _) rfl rfl (by decide +kernel) ?_) | (refine wpList_mload1 rfl _ _ rfl _ _ rfl 1 H _ (.string _) rfl rfl (by decide +kernel) ?_) | (refine wpList_mload1 rfl _ _ rfl _ _ rfl 2 H _ (.string _) rfl rfl (by decide +kernel) ?_) | (refine wpList_mload1 rfl _ _ rfl _ _ rfl 0 H _ (.slice _ _ _) rfl rfl (by decide +kernel) ?_) | (refine wpList_mload1 rfl _ _ rfl _ _ rfl 1 H _ (.slice _ _ _) rfl rfl (by decide +kernel) ?_) | (refine wpList_mload1 rfl _ _ rfl _ _ rfl 2 H _ (.slice _ _ _) rfl rfl (by decide +kernel) ?_)) | (refine gate_store _ _ _ rfl ?_; (first | (refine wpList_mstoreA rfl _ _ _ rfl rfl _ rfl 0 H _ _ rfl rfl (by kernel_rfl) (by kernel_rfl) (by kernel_rfl) ?_) | (refine wpList_mstoreA rfl _ _ _ rfl rfl _ rfl 1 H _ _ rfl rfl (by kernel_rfl) (by kernel_rfl) (by kernel_rfl) ?_) | (refine wpList_mstoreA rfl _ _ _ rfl rfl _ rfl 2 H _ _ rfl rfl (by kernel_rfl) (by kernel_rfl) (by kernel_rfl) ?_) | (refine wpList_mstore rfl _ _ _ rfl rfl _ _ rfl 0 H _ _ rfl (.int _ _) rfl (by kernel_rfl) (of_decide_eq_true (by kernel_rfl)) (by kernel_rfl) rfl ?_) | (refine wpList_mstore rfl _ _ _ rfl rfl _ _ rfl 1 H _ _ rfl (.int _ _) rfl (by kernel_rfl) (of_decide_eq_true (by kernel_rfl)) (by kernel_rfl) rfl ?_) | (refine wpList_mstore rfl _ _ _ rfl rfl _ _ rfl 2 H _ _ rfl (.int _ _) rfl (by kernel_rfl) (of_decide_eq_true (by kernel_rfl)) (by kernel_rfl) rfl ?_) | (refine wpList_mstore rfl _ _ _ rfl rfl _ _ rfl 0 H _ _ rfl (.bool _) rfl (by kernel_rfl) (of_decide_eq_true (by kernel_rfl)) (by kernel_rfl) rfl ?_) | (refine wpList_mstore rfl _ _ _ rfl rfl _ _ rfl 1 H _ _ rfl (.bool _) rfl (by kernel_rfl) (of_decide_eq_true (by kernel_rfl)) (by kernel_rfl) rfl ?_) | (refine wpList_mstore rfl _ _ _ rfl rfl _ _ rfl 2 H _ _ rfl (.bool _) rfl (by kernel_rfl) (of_decide_eq_true (by kernel_rfl)) (by kernel_rfl) rfl ?_) | (refine wpList_mstore rfl _ _ _ rfl rfl _ _ rfl 0 H _ _ rfl (.pointer _) rfl (by kernel_rfl) (of_decide_eq_true (by kernel_rfl)) (by kernel_rfl) rfl ?_) | (refine wpList_mstore rfl _ _ _ rfl rfl _ _ rfl 1 H _ _ rfl (.pointer _) rfl (by kernel_rfl) (of_decide_eq_true (by kernel_rfl)) (by kernel_rfl) rfl ?_) | (refine wpList_mstore rfl _ _ _ rfl rfl _ _ rfl 2 H _ _ rfl (.pointer _) rfl (by kernel_rfl) (of_decide_eq_true (by kernel_rfl)) (by kernel_rfl) rfl ?_) | (refine wpList_mstore rfl _ _ _ rfl rfl _ _ rfl 0 H _ _ rfl (.string _) rfl (by kernel_rfl) (of_decide_eq_true (by kernel_rfl)) (by kernel_rfl) rfl ?_) | (refine wpList_mstore rfl _ _ _ rfl rfl _ _ rfl 1 H _ _ rfl (.string _) rfl (by kernel_rfl) (of_decide_eq_true (by kernel_rfl)) (by kernel_rfl) rfl ?_) | (refine wpList_mstore rfl _ _ _ rfl rfl _ _ rfl 2 H _ _ rfl (.string _) rfl (by kernel_rfl) (of_decide_eq_true (by kernel_rfl)) (by kernel_rfl) rfl ?_) | (refine wpList_mstore rfl _ _ _ rfl rfl _ _ rfl 0 H _ _ rfl (.slice _ _ _) rfl (by kernel_rfl) (of_decide_eq_true (by kernel_rfl)) (by kernel_rfl) rfl ?_) | (refine wpList_mstore rfl _ _ _ rfl rfl _ _ rfl 1 H _ _ rfl (.slice _ _ _) rfl (by kernel_rfl) (of_decide_eq_true (by kernel_rfl)) (by kernel_rfl) rfl ?_) | (refine wpList_mstore rfl _ _ _ rfl rfl _ _ rfl 2 H _ _ rfl (.slice _ _ _) rfl (by kernel_rfl) (of_decide_eq_true (by kernel_rfl)) (by kernel_rfl) rfl ?_)); clear H; intro w1 H; simp only [List.set_cons_zero, List.set_cons_succ] at H)
    | (refine wpList_mnew rfl _ rfl H _ HZ.out ?_; clear H; intro _ w1 _ H) | fail)
  go_ret
  exact ⟨rfl, H.toBelow⟩
set_option maxHeartbeats 4000000 in
theorem otable_walk (KD : KDec) (KL : KLong) (op : Int) (w : World) (G : GlobO w) (o0 : 0 ≤ op) (o1 : op < 256) : Calls Tryd.prog 3 #[.int .u8 op] w fun e w' => e = .returned (.bool true) ∧ Below w.heap.size w w' := by
  have K1 := fun wr (hg : GlobO wr) => KD op wr hg o0 o1
  have K2 := fun wr => rdec_ct op wr o0 o1
  unfold decC opC at K1 K2
  generalize useV op = u at *
  generalize modeV op = m at *
  generalize nameV op = nm at *
  generalize cycV m u = c at *
  generalize crossV m u = x at *
  generalize goodV op = g at *
  have Q1 := Lib.hid K1
  have Q2 := Lib.hid K2
  have Q3 := Lib.hid (fun wr => KL nm m u c x g wr)
  have Q4 := Lib.hid (fun wr => rlong_ct m wr)
  have QA := Lib.hid (fun wr (hg : GlobO wr) => oawake_ct KD wr hg)
  clear K1 K2 KD KL
  have HZ := Lib.hid alloc_op
  have GG := Lib.hid G
  clear G
  have H := Mem.start w
  go_enter Tryd.func3, Tryd.ntmps3
  go_wp2_with (first
    | (go_at_call 8; (with_reducible refine (Q1.out _ (GG.out.mem H)).mono ?_); rintro e w2 ⟨rfl, hB⟩; replace H := H.next hB; clear hB)
    | go_skip | (refine wpList_mboxA rfl _ _ rfl H _ rfl ?_; clear H; intro _ w1 _ H) | (refine gate_load _ _ rfl ?_; first | (refine wpList_mloadA rfl _ _ rfl _ rfl 0 H _ rfl (by decide +kernel) (by kernel_rfl) ?_) | (refine wpList_mloadA rfl _ _ rfl _ rfl 1 H _ rfl (by decide +kernel) (by kernel_rfl) ?_) | (refine wpList_mloadA rfl _ _ rfl _ rfl 2 H _ rfl (by decide +kernel) (by kernel_rfl) ?_) | (refine wpList_mload1 rfl _ _ rfl _ _ rfl 0 H _ (.int _ _) rfl rfl (by decide +kernel) ?_) | (refine wpList_mload1 rfl _ _ rfl _ _ rfl 1 H _ (.int _ _) rfl rfl (by decide +kernel) ?_) | (refine wpList_mload1 rfl _ _ rfl _ _ rfl 2 H _ (.int _ _) rfl rfl (by decide +kernel) ?_) | (refine wpList_mload1 rfl _ _ rfl _ _ rfl 0 H _ (.bool _) rfl rfl (by decide +kernel) ?_) | (refine wpList_mload1 rfl _ _ rfl _ _ rfl 1 H _ (.bool _) rfl rfl (by decide +kernel) ?_) | (refine wpList_mload1 rfl _ _ rfl _ _ rfl 2 H _ (.bool _) rfl rfl (by decide +kernel) ?_) | (refine wpList_mload1 rfl _ _ rfl _ _ rfl 0 H _ (.pointer _) rfl rfl (by decide +kernel) ?_) | (refine wpList_mload1 rfl _ _ rfl _ _ rfl 1 H _ (.pointer _) rfl rfl (by decide +kernel) ?_) | (refine wpList_mload1 rfl _ _ rfl _ _ rfl 2 H _ (.pointer _) rfl rfl (by decide +kernel) ?_) | (refine wpList_mload1 rfl _ _ rfl _ _ rfl 0 H _ (.string _) rfl rfl (by decide +kernel) ?_) | (refine wpList_mload1 rfl _ _ rfl _ _ rfl 1 H _ (.string _) rfl rfl (by decide +kernel) ?_) | (refine wpList_mload1 rfl _ _ rfl _ _ rfl 2 H _ (.string _) rfl rfl (by decide +kernel) ?_) | (refine wpList_mload1 rfl _ _ rfl _ _ rfl 0 H _ (.slice _ _ _) rfl rfl (by decide +kernel) ?_) | (refine wpList_mload1 rfl _ _ rfl _ _ rfl 1 H _ (.slice _ _ _) rfl rfl (by decide +kernel) ?_) | (refine wpList_mload1 rfl _ _ rfl _ _ rfl 2 H _ (.slice _ _ _) rfl rfl (by decide +kernel) ?_)) | (refine gate_store _ _ _ rfl ?_; (first | (refine wpList_mstoreA rfl _ _ _ rfl rfl _ rfl 0 H _ _ rfl rfl (by kernel_rfl) (by kernel_rfl) (by kernel_rfl) ?_) | (refine wpList_mstoreA rfl _ _ _ rfl rfl _ rfl 1 H _ _ rfl rfl (by kernel_rfl) (by kernel_rfl) (by kernel_rfl) ?_) | (refine wpList_mstoreA rfl _ _ _ rfl rfl _ rfl 2 H _ _ rfl rfl (by kernel_rfl) (by kernel_rfl) (by kernel_rfl) ?_) | (refine wpList_mstore rfl _ _ _ rfl rfl _ _ rfl 0 H _ _ rfl (.int _ _) rfl (by kernel_rfl) (of_decide_eq_true (by kernel_rfl)) (by kernel_rfl) rfl ?_) | (refine wpList_mstore rfl _ _ _ rfl rfl _ _ rfl 1 H _ _ rfl (.int _ _) rfl (by kernel_rfl) (of_decide_eq_true (by kernel_rfl)) (by kernel_rfl) rfl ?_) | (refine wpList_mstore rfl _ _ _ rfl rfl _ _ rfl 2 H _ _ rfl (.int _ _) rfl (by kernel_rfl) (of_decide_eq_true (by kernel_rfl)) (by kernel_rfl) rfl ?_) | (refine wpList_mstore rfl _ _ _ rfl rfl _ _ rfl 0 H _ _ rfl (.bool _) rfl (by kernel_rfl) (of_decide_eq_true (by kernel_rfl)) (by kernel_rfl) rfl ?_) | (refine wpList_mstore rfl _ _ _ rfl rfl _ _ rfl 1 H _ _ rfl (.bool _) rfl (by kernel_rfl) (of_decide_eq_true (by kernel_rfl)) (by kernel_rfl) rfl ?_) | (refine wpList_mstore rfl _ _ _ rfl rfl _ _ rfl 2 H _ _ rfl (.bool _) rfl (by kernel_rfl) (of_decide_eq_true (by kernel_rfl)) (by kernel_rfl) rfl ?_) | (refine wpList_mstore rfl _ _ _ rfl rfl _ _ rfl 0 H _ _ rfl (.pointer _) rfl (by kernel_rfl) (of_decide_eq_true (by kernel_rfl)) (by kernel_rfl) rfl ?_) | (refine wpList_mstore rfl _ _ _ rfl rfl _ _ rfl 1 H _ _ rfl (.pointer _) rfl (by kernel_rfl) (of_decide_eq_true (by kernel_rfl)) (by kernel_rfl) rfl ?_) | (refine wpList_mstore rfl _ _ _ rfl rfl _ _ rfl 2 H _ _ rfl (.pointer _) rfl (by kernel_rfl) (of_decide_eq_true (by kernel_rfl)) (by kernel_rfl) rfl ?_) | (refine wpList_mstore rfl _ _ _ rfl rfl _ _ rfl 0 H _ _ rfl (.string _) rfl (by kernel_rfl) (of_decide_eq_true (by kernel_rfl)) (by kernel_rfl) rfl ?_) | (refine wpList_mstore rfl _ _ _ rfl rfl _ _ rfl 1 H _ _ rfl (.string _) rfl (by kernel_rfl) (of_decide_eq_true (by kernel_rfl)) (by kernel_rfl) rfl ?_) | (refine wpList_mstore rfl _ _ _ rfl rfl _ _ rfl 2 H _ _ rfl (.string _) rfl (by kernel_rfl) (of_decide_eq_true (by kernel_rfl)) (by kernel_rfl) rfl ?_) | (refine wpList_mstore rfl _ _ _ rfl rfl _ _ rfl 0 H _ _ rfl (.slice _ _ _) rfl (by kernel_rfl) (of_decide_eq_true (by kernel_rfl)) (by kernel_rfl) rfl ?_) | (refine wpList_mstore rfl _ _ _ rfl rfl _ _ rfl 1 H _ _ rfl (.slice _ _ _) rfl (by kernel_rfl) (of_decide_eq_true (by kernel_rfl)) (by kernel_rfl) rfl ?_) | (refine wpList_mstore rfl _ _ _ rfl rfl _ _ rfl 2 H _ _ rfl (.slice _ _ _) rfl (by kernel_rfl) (of_decide_eq_true (by kernel_rfl)) (by kernel_rfl) rfl ?_)); clear H; intro w1 H; simp only [List.set_cons_zero, List.set_cons_succ] at H)
    | (refine wpList_mnew rfl _ rfl H _ HZ.out ?_; clear H; intro _ w1 _ H) | fail)
  (try simp only [Act.put, List.setIfInBounds_toArray, List.set_cons_succ, List.set_cons_zero])
  (refine wp_region_quiet_below (by kernel_rfl) (by kernel_rfl) ?_); (repeat (first | (go_big_quiet_want; refine gate_qload _ _ rfl ?_; (first | (refine quiet_mloadA _ _ rfl _ rfl 0 H _ rfl (by decide +kernel) (by kernel_rfl) ?_) | (refine quiet_mload1 _ _ rfl _ _ rfl 0 H _ (.int _ _) rfl rfl (by decide +kernel) ?_) | (refine quiet_mload1 _ _ rfl _ _ rfl 0 H _ (.bool _) rfl rfl (by decide +kernel) ?_) | (refine quiet_mload1 _ _ rfl _ _ rfl 0 H _ (.pointer _) rfl rfl (by decide +kernel) ?_) | (refine quiet_mload1 _ _ rfl _ _ rfl 0 H _ (.string _) rfl rfl (by decide +kernel) ?_) | (refine quiet_mload1 _ _ rfl _ _ rfl 0 H _ (.slice _ _ _) rfl rfl (by decide +kernel) ?_)); simp only [Act.put, List.setIfInBounds_toArray, List.set_cons_succ, List.set_cons_zero]; go_big_quiet_on) | go_big_quiet_step ((first | (go_at_call 9; (with_reducible exact Calls.regrown_of (Q2.out _))) | (go_at_call 10; (with_reducible exact Calls.regrown_of (Q3.out _))) | (go_at_call 11; (with_reducible exact Calls.regrown_of (Q4.out _))) | (go_at_call 12; (with_reducible exact Calls.regrown_of (QA.out _ ((GG.out.mem H).below (below_regrown _ _ _))))))))); (refine wpQuiet_nil ?_); intro _ hw'; obtain ⟨⟨dq, osq⟩, hw''⟩ := hw'; (subst hw''); have hq := below_regrown w1 dq osq; replace H := H.next hq; generalize Go.Sort.grow (redrawn w1 dq) osq = wq at *
  go_wp2_with fail
  go_ret
  exact ⟨rfl, H.toBelow⟩
end Go.Proofs.YtddeakcipmhobaaDoor
