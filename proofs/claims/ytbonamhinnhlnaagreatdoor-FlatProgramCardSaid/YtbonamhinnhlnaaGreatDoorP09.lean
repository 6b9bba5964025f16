/-
  Several texts in one: what is read and written by the functions on the way to the statements. Conditions stand in each theorem.
-/
import Derived.Test.YtbonamhinnhlnaaGreatDoorP07
import Derived.Test.YtbonamhinnhlnaaGreatDoorP08
namespace Go.Proofs.YtbonamhinnhlnaaGreatDoor
open Go.RowKit
set_option linter.unusedSimpArgs false
set_option linter.unusedVariables false
set_option maxRecDepth 20000

/-- The table of cycles, as its text lays it: a row for each mode, a number for each use. -/
def cyZ : List Int := [2, 0, 0, 0, 2, 0, 0, 0, 0, 2, 0, 0, 0, 3, 3, 5, 0, 4, 4, 6, 0, 4, 4, 6, 0, 4, 4, 6, 0, 4, 5, 7, 0, 4, 5, 7, 0, 6, 6, 8, 0, 5, 6, 8, 2, 0, 0, 0, 5, 0, 0, 0, 3, 0, 0, 0, 6, 0, 0, 0, 6, 0, 0, 0, 6, 0, 0, 0, 7, 0, 0, 0, 3, 0, 0, 0, 4, 0, 0, 0, 0, 0, 0, 0]
structure GlobO (w : World) : Prop where
  cyc : ∀ (i : Nat) (c : Int), cyZ[i]? = some c → w.cell? ⟨0, i, none⟩ = some (.int .u8 c)
  lt : 0 < w.heap.size
theorem GlobO.below {w w' : World} (h : GlobO w) (hb : Below w.heap.size w w') : GlobO w' where
  cyc := fun i c hi => by rw [hb.cell h.lt]; exact h.cyc i c hi
  lt := Nat.lt_of_lt_of_le h.lt hb.size
theorem GlobO.mem {w w' : World} {l : List (Nat × Array Value)} (h : GlobO w) (H : Mem w.heap.size [] w w' l) : GlobO w' := h.below H.toBelow
theorem ba_inj (x y : ByteArray) (h : x.toList = y.toList) : x = y := by
  rw [ByteArray.toList_eq, ByteArray.toList_eq] at h
  cases x
  cases y
  simp at h
  subst h
  rfl
theorem q_all (op : Int) (o0 : 0 ≤ op) (o1 : op < 256) : cutL tblL (8 * op.toNat) = nameL op ∧ modeQ (nameL op) (cutL tblL (8 * op.toNat + 4)) = modeL op ∧ useQ (nameL op) (modeL op) = useL op ∧ crossQ (modeL op) (useL op) = crL op ∧ goodQ op (nameL op) = goodL op ∧ cyZ[(modeL op).toNat * 4 + (useL op).toNat]? = some (cyL op) :=
  byte_all (p := fun op => cutL tblL (8 * op.toNat) = nameL op ∧ modeQ (nameL op) (cutL tblL (8 * op.toNat + 4)) = modeL op ∧ useQ (nameL op) (modeL op) = useL op ∧ crossQ (modeL op) (useL op) = crL op ∧ goodQ op (nameL op) = goodL op ∧ cyZ[(modeL op).toNat * 4 + (useL op).toNat]? = some (cyL op)) (by decide +kernel) op o0 o1
set_option maxHeartbeats 4000000 in
theorem qdec_ct (op : Int) (w : World) (G : GlobO w) (o0 : 0 ≤ op) (o1 : op < 256) :
    Calls Tryz.prog 50 #[.int .u8 op] w fun e w' => e = .returned (.agg (decC op)) ∧ Below w.heap.size w w' := by
  obtain ⟨e1, e2, e3, e4, e5, e6⟩ := q_all op o0 o1
  obtain ⟨⟨u0, u3, m0, m20, ln⟩, _⟩ := op_uses op o0 o1
  have K1 := fun wr => qentry_ct op wr o0 o1
  rw [ba_inj (cut3 tblB (8 * op.toNat)) (nameV op) (by rw [cut3_list, nameV_list]; exact e1)] at K1
  have K2 := fun wr => qmodeof_ct (nameV op) (cut3 tblB (8 * op.toNat + 4)) wr
  rw [nameV_list, cut3_list, show tblB.data.toList = tblL from rfl, e2] at K2
  have K3 := fun wr => quseof_ct (nameV op) (modeL op) wr
  rw [nameV_list, e3] at K3
  have K4 := fun wr => qcrosses_ct (modeL op) (useL op) wr
  rw [e4] at K4
  have K5 := fun wr => qofficial_ct op (nameV op) wr
  rw [nameV_list, e5] at K5
  rw [decC_list]
  have hw : wrap64 (cyL op) = cyL op := byte_all (p := fun op => wrap64 (cyL op) = cyL op) (by decide +kernel) op o0 o1
  have hcy : (w.cell? ⟨0, (modeL op).toNat * 4 + (useL op).toNat, none⟩ = some (.int .u8 (cyL op))) := G.cyc _ _ e6
  generalize nameV op = nm at *
  generalize cut3 tblB (8 * op.toNat + 4) = wy at *
  generalize modeL op = m at *
  generalize useL op = u at *
  generalize cyL op = c at *
  generalize crL op = x at *
  generalize goodL op = g at *
  obtain ⟨M, rfl⟩ := Int.eq_ofNat_of_zero_le m0
  obtain ⟨U, rfl⟩ := Int.eq_ofNat_of_zero_le u0
  have Q1 := Lib.hid K1
  have Q2 := Lib.hid K2
  have Q3 := Lib.hid K3
  have Q4 := Lib.hid K4
  have Q5 := Lib.hid K5
  clear K1 K2 K3 K4 K5 e1 e2 e3 e4 e5 e6 ln
  have HZ := Lib.hid alloc_op
  have H := Mem.start w
  have g0 := G.lt
  go_enter Tryz.func50, Tryz.ntmps50
  go_wp2_with (first
    | (go_at_call 77; (with_reducible refine (Q1.out _).mono ?_); rintro e w2 ⟨rfl, hB⟩; replace H := H.next hB; clear hB)
    | (go_at_call 78; (with_reducible refine (Q2.out _).mono ?_); rintro e w3 ⟨rfl, hB⟩; replace H := H.next hB; clear hB)
    | (go_at_call 79; (with_reducible refine (Q3.out _).mono ?_); rintro e w4 ⟨rfl, hB⟩; replace H := H.next hB; clear hB)
    | (refine wpList_mnew rfl _ rfl H _ HZ.out ?_; clear H; intro R1 w1 _ H)
    | fail)
  (try simp only [Act.put, List.setIfInBounds_toArray, List.set_cons_succ, List.set_cons_zero])
  replace hcy := (H.toBelow.cell g0).trans hcy
  simp only [Int.toNat_natCast] at hcy
  (refine wp_region_tails_below 16 (by kernel_rfl) (by kernel_rfl) ?_); (simp only [List.take_succ_cons, List.take_zero, List.drop_succ_cons, List.drop_zero]); (repeat (first | (go_big_quiet_want; refine gate_qload _ _ rfl ?_; refine quiet_gload _ _ rfl _ rfl _ hcy (by kernel_rfl) ?_; simp only [Act.put, List.setIfInBounds_toArray, List.set_cons_succ, List.set_cons_zero]; go_big_quiet_on) | (go_big_quiet_want; refine gate_qload _ _ rfl ?_; (first | (refine quiet_mloadA _ _ rfl _ rfl 0 H _ rfl (by decide +kernel) (by kernel_rfl) ?_) | (refine quiet_mload1 _ _ rfl _ _ rfl 0 H _ (.int _ _) rfl rfl (by decide +kernel) ?_) | (refine quiet_mload1 _ _ rfl _ _ rfl 0 H _ (.bool _) rfl rfl (by decide +kernel) ?_) | (refine quiet_mload1 _ _ rfl _ _ rfl 0 H _ (.pointer _) rfl rfl (by decide +kernel) ?_) | (refine quiet_mload1 _ _ rfl _ _ rfl 0 H _ (.string _) rfl rfl (by decide +kernel) ?_) | (refine quiet_mload1 _ _ rfl _ _ rfl 0 H _ (.slice _ _ _) rfl rfl (by decide +kernel) ?_)); simp only [Act.put, List.setIfInBounds_toArray, List.set_cons_succ, List.set_cons_zero]; go_big_quiet_on) | go_big_quiet_step ((first | (go_at_call 80; (with_reducible exact Calls.regrown_of (Q4.out _))) | (go_at_call 81; (with_reducible exact Calls.regrown_of (Q5.out _))))))); (refine wpQuiet_nil ?_); intro _ hw'; obtain ⟨⟨dq, osq⟩, hw''⟩ := hw'; (subst hw''); have hq := below_regrown w4 dq osq; replace H := H.next hq; generalize Go.Sort.grow (redrawn w4 dq) osq = wq at *
  go_wp2_with (first | go_skip | (refine wpList_mboxA rfl _ _ rfl H _ rfl ?_; clear H; intro _ w1 _ H) | (refine gate_load _ _ rfl ?_; first | (refine wpList_mloadA rfl _ _ rfl _ rfl 0 H _ rfl (by decide +kernel) (by kernel_rfl) ?_) | (refine wpList_mload1 rfl _ _ rfl _ _ rfl 0 H _ (.int _ _) rfl rfl (by decide +kernel) ?_) | (refine wpList_mload1 rfl _ _ rfl _ _ rfl 0 H _ (.bool _) rfl rfl (by decide +kernel) ?_) | (refine wpList_mload1 rfl _ _ rfl _ _ rfl 0 H _ (.pointer _) rfl rfl (by decide +kernel) ?_) | (refine wpList_mload1 rfl _ _ rfl _ _ rfl 0 H _ (.string _) rfl rfl (by decide +kernel) ?_) | (refine wpList_mload1 rfl _ _ rfl _ _ rfl 0 H _ (.slice _ _ _) rfl rfl (by decide +kernel) ?_)) | (refine gate_store _ _ _ rfl ?_; (first | (refine wpList_mstoreA rfl _ _ _ rfl rfl _ rfl 0 H _ _ rfl rfl (by kernel_rfl) (by kernel_rfl) (by kernel_rfl) ?_) | (refine wpList_mstore rfl _ _ _ rfl rfl _ _ rfl 0 H _ _ rfl (.int _ _) rfl (by kernel_rfl) (of_decide_eq_true (by kernel_rfl)) (by kernel_rfl) rfl ?_) | (refine wpList_mstore rfl _ _ _ rfl rfl _ _ rfl 0 H _ _ rfl (.bool _) rfl (by kernel_rfl) (of_decide_eq_true (by kernel_rfl)) (by kernel_rfl) rfl ?_) | (refine wpList_mstore rfl _ _ _ rfl rfl _ _ rfl 0 H _ _ rfl (.pointer _) rfl (by kernel_rfl) (of_decide_eq_true (by kernel_rfl)) (by kernel_rfl) rfl ?_) | (refine wpList_mstore rfl _ _ _ rfl rfl _ _ rfl 0 H _ _ rfl (.string _) rfl (by kernel_rfl) (of_decide_eq_true (by kernel_rfl)) (by kernel_rfl) rfl ?_) | (refine wpList_mstore rfl _ _ _ rfl rfl _ _ rfl 0 H _ _ rfl (.slice _ _ _) rfl (by kernel_rfl) (of_decide_eq_true (by kernel_rfl)) (by kernel_rfl) rfl ?_)); clear H; intro w1 H; simp only [List.set_cons_zero, List.set_cons_succ] at H) | fail)
  refine ret_mem1 rfl _ rfl 0 H _ rfl (by kernel_rfl) (by kernel_rfl) rfl ?_
  exact ⟨rfl, H.toBelow⟩
end Go.Proofs.YtbonamhinnhlnaaGreatDoor
