/-
  The walk of AluAlike. Over this seat's translation; bytes are from 0 to 255. (Written by gen_alu.py.)
-/
import Derived.Test.YtckfjiacnjjopaaAlz
import Derived.Test.YtckfjiacnjjopaaAle
import Derived.Test.YtckfjiacnjjopaaAdb
namespace Go.Proofs.Ytckfjiacnjjopaa
open Go.RowKit
set_option linter.unusedSimpArgs false
set_option linter.unusedVariables false
set_option maxRecDepth 20000

theorem ap_q (q : Ak) (a m p : Int) : ∀ j v, (akC q)[j]? = some v → (apC q a m p)[0 + j]? = some v := fun j v hj => by
  match j, hj with
  | 0, hj | 1, hj | 2, hj | 3, hj | 4, hj | 5, hj | 6, hj | 7, hj => exact hj
  | j + 8, hj => simp [akC] at hj
theorem sub2 {cs : Array Value} {o : Nat} {u t : Value} (h0 : cs[o]? = some u) (h1 : cs[o + 1]? = some t) : ∀ j v, (#[u, t] : Array Value)[j]? = some v → cs[o + j]? = some v := fun j v hj => by
  match j, hj with
  | 0, hj => simp at hj; subst hj; exact h0
  | 1, hj => simp at hj; subst hj; exact h1
  | j + 2, hj => simp at hj
set_option maxHeartbeats 16000000 in
theorem aalike_walk (q : Ak) (a2 m2 r : Int) (ok : AkOk q) (ba : 0 ≤ a2 ∧ a2 < 256) (bm : 0 ≤ m2 ∧ m2 < 256) (br : 0 ≤ r ∧ r < 256) (w : World) : Calls Try.prog 6 #[.agg (apC q a2 m2 r)] w fun e w' => e = .returned (.bool true) ∧ Below w.heap.size w w' := by
  obtain ⟨p, s, a, x, m, y, b, k⟩ := q
  obtain ⟨p0, p1, s0, s1, a0, a1, m0, m1, b0, b1⟩ := ok
  dsimp only at p0 p1 s0 s1 a0 a1 m0 m1 b0 b1
  have KC := fun wr => qcheck_ct p s wr p0 p1 s0 s1
  obtain ⟨cp0, cp1⟩ := clr_le p p0 p1
  obtain ⟨cs0, cs1⟩ := clr_le s s0 s1
  generalize clr p = cp at *
  generalize clr s = cz at *
  obtain ⟨d0, d1, hF⟩ := fa_other (p := cp) (s := cz) r cp0 cp1 cs0 cs1 br.1 br.2
  obtain ⟨p2, hp2⟩ : ∃ p2, bits .or .u8 (bits .andNot .u8 cp cz) (bits .and .u8 r cz) = p2 := ⟨_, rfl⟩
  rw [hp2] at d0 d1 hF
  obtain ⟨ao, hao⟩ : ∃ ao, (if x = true then a2 else a) = ao := ⟨_, rfl⟩
  obtain ⟨mo, hmo⟩ : ∃ mo, (if y = true then m2 else m) = mo := ⟨_, rfl⟩
  have bao : 0 ≤ ao ∧ ao < 256 := by rw [← hao]; split <;> omega
  have bmo : 0 ≤ mo ∧ mo < 256 := by rw [← hmo]; split <;> omega
  have hx : x = false → a = ao := fun e => by rw [← hao, e]; rfl
  have hy : y = false → m = mo := fun e => by rw [← hmo, e]; rfl
  obtain ⟨qc, hqc⟩ : ∃ qc : Ak, (⟨cp, cz, a, x, m, y, b, k⟩ : Ak) = qc := ⟨_, rfl⟩
  obtain ⟨qo, hqo⟩ : ∃ qo : Ak, (⟨p2, cz, ao, x, mo, y, b, k⟩ : Ak) = qo := ⟨_, rfl⟩
  have okc : AkOk qc := by rw [← hqc]; exact ⟨cp0, cp1, cs0, cs1, a0, a1, m0, m1, b0, b1⟩
  have oko : AkOk qo := by rw [← hqo]; exact ⟨d0, d1, cs0, cs1, bao.1, bao.2, bmo.1, bmo.2, b0, b1⟩
  have hE : ∀ i, i < 13 → RA ((toldQ qc).getD i dR) ((toldQ qo).getD i dR) ∧ (Fl ((toldQ qc).getD i dR).2.2.1 ∧ Fl ((toldQ qc).getD i dR).2.2.2) ∧ Fl ((toldQ qo).getD i dR).2.2.1 := fun i hi => by
    rw [← hqc, ← hqo]
    exact ⟨told_alike hF cp0 cp1 d0 d1 hx hy i hi, told_le a0 a1 i hi, (told_le bao.1 bao.2 i hi).1⟩
  have QC := Lib.hid KC
  have QT1 := Lib.hid (fun wr => told_ct qc okc wr)
  have QT2 := Lib.hid (fun wr => told_ct qo oko wr)
  have QA := Lib.hid (fun wr => aawake_ct wr)
  have HZA := Lib.hid alloc_ask
  have HE := Lib.hid hE
  have HC := Lib.hid hqc
  have HO := Lib.hid hqo
  have HP := Lib.hid hp2
  clear hE oko okc hqc hqo hx hy hF KC hp2 ba bm br bao bmo
  have H := Mem.start w
  cases x <;> cases y
  · simp only [Bool.false_eq_true, if_false, if_true] at hao hmo
    subst hao hmo
    go_enter Try.func6, Try.ntmps6
    go_wp2_with (first
      | (refine wpList_mboxA rfl _ _ rfl H _ rfl ?_; clear H; intro R1 w1 _ H) | fail)
    (try simp only [Act.put, List.setIfInBounds_toArray, List.set_cons_succ, List.set_cons_zero])
    (refine wp_region_mem 123 [⟨8, 9, 99, ptrTo, akC ⟨0, 0, 0, false, 0, false, 0, false⟩, akC ⟨p, s, a, false, m, false, b, k⟩, undef⟩] (by kernel_rfl) (by kernel_rfl) (by rfl) (by kernel_rfl) (fun _ => by kernel_rfl) (by simp) H fun β wy hwy => ?_); have H0 := H; replace H := H.next hwy; (simp only [swapL, swapO, List.find?_cons, List.find?_nil, Nat.reduceBEq, Nat.reduceAdd]); (repeat (first | (go_big_quiet_want; refine gate_qload _ _ rfl ?_; refine quiet_mload _ _ rfl _ _ rfl 0 H _ (akC ⟨p, s, a, false, m, false, b, k⟩) rfl (by decide +kernel) (by kernel_rfl) (ap_q ⟨p, s, a, false, m, false, b, k⟩ a2 m2 r) ?_; simp only [Act.put, List.setIfInBounds_toArray, List.set_cons_succ, List.set_cons_zero]; go_big_quiet_on) | (go_big_quiet_want; refine gate_qload _ _ rfl ?_; (first | (refine quiet_mloadA _ _ rfl _ rfl 0 H _ rfl (by decide +kernel) (by kernel_rfl) ?_) | (refine quiet_mload1 _ _ rfl _ _ rfl 0 H _ (.int _ _) rfl rfl (by decide +kernel) ?_) | (refine quiet_mload1 _ _ rfl _ _ rfl 0 H _ (.bool _) rfl rfl (by decide +kernel) ?_) | (refine quiet_mload1 _ _ rfl _ _ rfl 0 H _ (.pointer _) rfl rfl (by decide +kernel) ?_) | (refine quiet_mload1 _ _ rfl _ _ rfl 0 H _ (.string _) rfl rfl (by decide +kernel) ?_) | (refine quiet_mload1 _ _ rfl _ _ rfl 0 H _ (.slice _ _ _) rfl rfl (by decide +kernel) ?_)); simp only [Act.put, List.setIfInBounds_toArray, List.set_cons_succ, List.set_cons_zero]; go_big_quiet_on) | go_big_quiet_step (fail))); (refine wpQuiet_nil ?_); (refine ⟨⟨⟨⟨_, run_alloc_ask _ rfl _⟩, ⟨rfl, by kernel_rfl, rfl, by kernel_rfl, fun _ => rfl⟩, trivial⟩, trivial⟩, fun wx HM => ?_⟩); clear H; have H := HM; clear HM H0 hwy; (dsimp only [boxesL, List.cons_append, List.nil_append] at H); (try dsimp only [ptrTo]); (try generalize hq0 : β 8 = q0 at *); (try generalize hq1 : β 0 = q1 at *)
    generalize q0 = R3 at *
    go_wp2_with (first
      | (go_at_call 10; (with_reducible refine (QC.out _).mono ?_); rintro e w2 ⟨rfl, hB⟩; replace H := H.next hB; clear hB)
      | go_skip | (refine gate_load _ _ rfl ?_; first | (refine wpList_mload rfl _ _ rfl _ _ rfl 0 H _ (#[.int .u8 p, .int .u8 s]) rfl (by decide +kernel) (by kernel_rfl) (ak_f ⟨p, s, a, false, m, false, b, k⟩) ?_))
      | (refine gate_store _ _ _ rfl ?_; refine wpList_mstore rfl _ _ _ rfl rfl _ _ rfl 0 H _ _ rfl (.agg #[.int .u8 cp, .int .u8 cz]) rfl (by kernel_rfl) (of_decide_eq_true (by kernel_rfl)) (by kernel_rfl) rfl ?_; clear H; intro w1 H; simp only [List.set_cons_zero, List.set_cons_succ, ak_f0] at H)
      | go_skip | (refine wpList_mboxA rfl _ _ rfl H _ rfl ?_; clear H; intro _ w1 _ H) | (refine gate_load _ _ rfl ?_; first | (refine wpList_mloadA rfl _ _ rfl _ rfl 0 H _ rfl (by decide +kernel) (by kernel_rfl) ?_) | (refine wpList_mloadA rfl _ _ rfl _ rfl 1 H _ rfl (by decide +kernel) (by kernel_rfl) ?_) | (refine wpList_mload1 rfl _ _ rfl _ _ rfl 0 H _ (.int _ _) rfl rfl (by decide +kernel) ?_) | (refine wpList_mload1 rfl _ _ rfl _ _ rfl 1 H _ (.int _ _) rfl rfl (by decide +kernel) ?_) | (refine wpList_mload1 rfl _ _ rfl _ _ rfl 0 H _ (.bool _) rfl rfl (by decide +kernel) ?_) | (refine wpList_mload1 rfl _ _ rfl _ _ rfl 1 H _ (.bool _) rfl rfl (by decide +kernel) ?_) | (refine wpList_mload1 rfl _ _ rfl _ _ rfl 0 H _ (.pointer _) rfl rfl (by decide +kernel) ?_) | (refine wpList_mload1 rfl _ _ rfl _ _ rfl 1 H _ (.pointer _) rfl rfl (by decide +kernel) ?_) | (refine wpList_mload1 rfl _ _ rfl _ _ rfl 0 H _ (.string _) rfl rfl (by decide +kernel) ?_) | (refine wpList_mload1 rfl _ _ rfl _ _ rfl 1 H _ (.string _) rfl rfl (by decide +kernel) ?_) | (refine wpList_mload1 rfl _ _ rfl _ _ rfl 0 H _ (.slice _ _ _) rfl rfl (by decide +kernel) ?_) | (refine wpList_mload1 rfl _ _ rfl _ _ rfl 1 H _ (.slice _ _ _) rfl rfl (by decide +kernel) ?_)) | (refine gate_store _ _ _ rfl ?_; (first | (refine wpList_mstoreA rfl _ _ _ rfl rfl _ rfl 0 H _ _ rfl rfl (by kernel_rfl) (by kernel_rfl) (by kernel_rfl) ?_) | (refine wpList_mstoreA rfl _ _ _ rfl rfl _ rfl 1 H _ _ rfl rfl (by kernel_rfl) (by kernel_rfl) (by kernel_rfl) ?_) | (refine wpList_mstore rfl _ _ _ rfl rfl _ _ rfl 0 H _ _ rfl (.int _ _) rfl (by kernel_rfl) (of_decide_eq_true (by kernel_rfl)) (by kernel_rfl) rfl ?_) | (refine wpList_mstore rfl _ _ _ rfl rfl _ _ rfl 1 H _ _ rfl (.int _ _) rfl (by kernel_rfl) (of_decide_eq_true (by kernel_rfl)) (by kernel_rfl) rfl ?_) | (refine wpList_mstore rfl _ _ _ rfl rfl _ _ rfl 0 H _ _ rfl (.bool _) rfl (by kernel_rfl) (of_decide_eq_true (by kernel_rfl)) (by kernel_rfl) rfl ?_) | (refine wpList_mstore rfl _ _ _ rfl rfl _ _ rfl 1 H _ _ rfl (.bool _) rfl (by kernel_rfl) (of_decide_eq_true (by kernel_rfl)) (by kernel_rfl) rfl ?_) | (refine wpList_mstore rfl _ _ _ rfl rfl _ _ rfl 0 H _ _ rfl (.pointer _) rfl (by kernel_rfl) (of_decide_eq_true (by kernel_rfl)) (by kernel_rfl) rfl ?_) | (refine wpList_mstore rfl _ _ _ rfl rfl _ _ rfl 1 H _ _ rfl (.pointer _) rfl (by kernel_rfl) (of_decide_eq_true (by kernel_rfl)) (by kernel_rfl) rfl ?_) | (refine wpList_mstore rfl _ _ _ rfl rfl _ _ rfl 0 H _ _ rfl (.string _) rfl (by kernel_rfl) (of_decide_eq_true (by kernel_rfl)) (by kernel_rfl) rfl ?_) | (refine wpList_mstore rfl _ _ _ rfl rfl _ _ rfl 1 H _ _ rfl (.string _) rfl (by kernel_rfl) (of_decide_eq_true (by kernel_rfl)) (by kernel_rfl) rfl ?_) | (refine wpList_mstore rfl _ _ _ rfl rfl _ _ rfl 0 H _ _ rfl (.slice _ _ _) rfl (by kernel_rfl) (of_decide_eq_true (by kernel_rfl)) (by kernel_rfl) rfl ?_) | (refine wpList_mstore rfl _ _ _ rfl rfl _ _ rfl 1 H _ _ rfl (.slice _ _ _) rfl (by kernel_rfl) (of_decide_eq_true (by kernel_rfl)) (by kernel_rfl) rfl ?_)); clear H; intro w1 H; simp only [List.set_cons_zero, List.set_cons_succ, ak_a0, ak_m0, ak_p0] at H)
      | (refine wpList_mnew rfl _ rfl H _ HZA.out ?_; clear H; intro R7 w1 _ H) | fail)
    (try simp only [Act.put, List.setIfInBounds_toArray, List.set_cons_succ, List.set_cons_zero])
    rw [HP.out, HC.out, HO.out] at H
    replace H : Mem w.heap.size [] w w1 [(R7, akC qo), (R3, akC qc)] := H.sub (List.Sublist.cons_cons _ (List.Sublist.cons_cons _ (List.Sublist.cons _ (List.Sublist.refl _))))
    clear HP HC HO QC
    refine wp_region_y ((0, 0, #[]) : Nat × Nat × Array Value) (by kernel_rfl) (by kernel_rfl) [(some 51, fun _ => .agg (akC qc)), (some 52, fun R : Nat × Nat × Array Value => .slice (some ⟨R.1, 0, none⟩) 13 R.2.1), (some 53, fun _ => .agg (akC qo)), (some 54, fun R : Nat × Nat × Array Value => .slice (some ⟨R.1, 0, none⟩) 13 R.2.1), (some 8, fun R : Nat × Nat × Array Value => .slice (some ⟨R.1, 0, none⟩) 13 R.2.1), (some 9, fun R : Nat × Nat × Array Value => .slice (some ⟨R.1, 0, none⟩) 13 R.2.1)] (fun D bq wv => (D 4 = true → bq 4 = bq 1) ∧ (D 5 = true → bq 5 = bq 3) ∧ cond (D 3) (Mem w.heap.size [] w wv (((bq 3).1, (bq 3).2.2) :: ((bq 1).1, (bq 1).2.2) :: [(R7, akC qo), (R3, akC qc)]) ∧ RowC (bq 1).2.2 (bq 1).2.1 (toldQ qc) ∧ RowC (bq 3).2.2 (bq 3).2.1 (toldQ qo)) (cond (D 1) (Mem w.heap.size [] w wv (((bq 1).1, (bq 1).2.2) :: [(R7, akC qo), (R3, akC qc)]) ∧ RowC (bq 1).2.2 (bq 1).2.1 (toldQ qc)) (Mem w.heap.size [] w wv ([(R7, akC qo), (R3, akC qc)])))) 123 (by rfl) (by rfl) (by rfl) ⟨(fun h => by cases h), (fun h => by cases h), H.drew⟩ ⟨⟨rfl, ?p0⟩, ⟨rfl, ?p1⟩, ⟨rfl, ?p2⟩, ⟨rfl, ?p3⟩, ⟨rfl, ?p4⟩, ⟨rfl, ?p5⟩, trivial⟩ ?_
    case p0 =>
      intro D bq a' w' hk hc he hl hW
      (try dsimp only at hW)
      have n1 : D 1 = false := hc.no .data hk rfl (by simp) rfl
      have n3 : D 3 = false := hc.no .chain n1 rfl (by simp) rfl
      have f3 : a'.tmps.getD 3 undef = .pointer (some ⟨R3, 0, none⟩) := (hl 3).trans ((vsy_no rfl).trans rfl)
      have hM := pcond_f n1 (pcond_f n3 hW.2.2)
      exact wp_sloadA _ _ rfl _ f3 1 hM (akC qc) rfl (by kernel_rfl) (by kernel_rfl) ⟨(0, 0, #[]), rfl, hW.1, hW.2.1, hW.2.2⟩
    case p1 =>
      intro D bq a' w' hk hc he hl hW
      (try dsimp only at hW)
      have n3 : D 3 = false := hc.no .chain hk rfl (by simp) rfl
      have n4 : D 4 = false := hc.no .data hk rfl (by simp) rfl
      have e0 : a'.tmps.getD 51 undef = .agg (akC qc) := (hl 51).trans (vsy_at (f := fun _ => .agg (akC qc)) rfl (he ⟨0, .data⟩ (by simp) rfl) rfl)
      have hM := pcond_f hk (pcond_f n3 hW.2.2)
      refine wp_callp (vals := #[.agg (akC qc)]) rfl rfl (by simp only [List.map_toArray, List.map_cons, List.map_nil, Act.eval, e0]) (by kernel_rfl) (QT1.out _) ?_
      rintro e w2 ⟨R, cs, cap, rfl, hC1, hM1⟩
      have hA := Mem.join1 hM hM1
      exact ⟨_, rfl, (R, cap, cs), rfl, (fun h => by rw [show doneB D 1 4 = D 4 from rfl, n4] at h; cases h), hW.2.1, pcond_mk n3 ⟨hA, hC1⟩⟩
    case p2 =>
      intro D bq a' w' hk hc he hl hW
      (try dsimp only at hW)
      have n3 : D 3 = false := hc.no .data hk rfl (by simp) rfl
      have f7 : a'.tmps.getD 7 undef = .pointer (some ⟨R7, 0, none⟩) := (hl 7).trans ((vsy_no rfl).trans rfl)
      have hM := pcondB (pcond_f n3 hW.2.2)
      exact wp_sloadA _ _ rfl _ f7 0 hM (akC qo) rfl (by kernel_rfl) (by kernel_rfl) ⟨(0, 0, #[]), rfl, hW.1, hW.2.1, hW.2.2⟩
    case p3 =>
      intro D bq a' w' hk hc he hl hW
      (try dsimp only at hW)
      have n5 : D 5 = false := hc.no .data hk rfl (by simp) rfl
      have e2 : a'.tmps.getD 53 undef = .agg (akC qo) := (hl 53).trans (vsy_at (f := fun _ => .agg (akC qo)) rfl (he ⟨2, .data⟩ (by simp) rfl) rfl)
      have hx := pcond_t (he ⟨1, .chain⟩ (by simp) rfl) (pcond_f hk hW.2.2)
      refine wp_callp (vals := #[.agg (akC qo)]) rfl rfl (by simp only [List.map_toArray, List.map_cons, List.map_nil, Act.eval, e2]) (by kernel_rfl) (QT2.out _) ?_
      rintro e w2 ⟨R, cs, cap, rfl, hC2, hM2⟩
      have hA := Mem.join1 hx.1 hM2
      exact ⟨_, rfl, (R, cap, cs), rfl, hW.1, (fun h => by rw [show doneB D 3 5 = D 5 from rfl, n5] at h; cases h), ⟨hA, hx.2, hC2⟩⟩
    case p4 =>
      intro D bq a' w' hk hc he hl hW
      (try dsimp only at hW)
      have e1 : a'.tmps.getD 52 undef = .slice (some ⟨(bq 1).1, 0, none⟩) 13 (bq 1).2.1 := (hl 52).trans (vsy_at (f := fun R : Nat × Nat × Array Value => .slice (some ⟨R.1, 0, none⟩) 13 R.2.1) rfl (he ⟨1, .data⟩ (by simp) rfl) rfl)
      exact wp_val (.slice (some ⟨(bq 1).1, 0, none⟩) 13 (bq 1).2.1) (by simp only [execOp, Act.eval, List.map_toArray, List.map_cons, List.map_nil]; rw [e1]; kernel_rfl) ⟨bq 1, rfl, (fun _ => rfl), hW.2.1, hW.2.2⟩
    case p5 =>
      intro D bq a' w' hk hc he hl hW
      (try dsimp only at hW)
      have e3 : a'.tmps.getD 54 undef = .slice (some ⟨(bq 3).1, 0, none⟩) 13 (bq 3).2.1 := (hl 54).trans (vsy_at (f := fun R : Nat × Nat × Array Value => .slice (some ⟨R.1, 0, none⟩) 13 R.2.1) rfl (he ⟨3, .data⟩ (by simp) rfl) rfl)
      exact wp_val (.slice (some ⟨(bq 3).1, 0, none⟩) 13 (bq 3).2.1) (by simp only [execOp, Act.eval, List.map_toArray, List.map_cons, List.map_nil]; rw [e3]; kernel_rfl) ⟨bq 3, rfl, hW.1, (fun _ => rfl), hW.2.2⟩
    intro D bq wv hD hW
    (try dsimp only at hW)
    have e4 := hW.1 (hD 4 (by decide))
    have e5 := hW.2.1 (hD 5 (by decide))
    have hx := pcond_t (hD 3 (by decide)) hW.2.2
    clear H hD hW
    simp only [putAll, vsYf, Nat.reduceAdd, List.foldl_cons, List.foldl_nil, Act.put, List.setIfInBounds_toArray, List.set_cons_succ, List.set_cons_zero]
    rw [e4, e5]
    clear e4 e5
    generalize bq 1 = r1 at *
    generalize bq 3 = r3 at *
    obtain ⟨T1, cap1, cs1⟩ := r1
    obtain ⟨T2, cap2, cs2⟩ := r3
    obtain ⟨H, hC1, hC2⟩ := hx
    dsimp only at H hC1 hC2 ⊢
    replace H := H.sub (l' := [(T2, cs2), (T1, cs1)]) (List.Sublist.cons_cons _ (List.Sublist.cons_cons _ (List.nil_sublist _)))
    clear QT1 QT2
    go_wp2_with fail
    go_loopw [10] (fun i wr => ∃ k : Nat, k ≤ 13 ∧ i = .int .i64 k ∧ Mem w.heap.size [] w wr [(T2, cs2), (T1, cs1)]) (fun i _ => 13 - (intOf i).toNat)
    case atStart => exact ⟨0, Nat.zero_le _, rfl, H⟩
    case round =>
      clear H
      obtain ⟨k, hk, rfl, H⟩ := hrel
      by_cases hlt : k < 13
      · obtain ⟨hra, ⟨fP, fS⟩, fP2⟩ := HE.out k hlt
        obtain ⟨x1, x2, x3, x4, hx⟩ : ∃ v x p s, (toldQ qc).getD k dR = (v, x, p, s) := ⟨_, _, _, _, rfl⟩
        obtain ⟨y1, y2, y3, y4, hy⟩ : ∃ v x p s, (toldQ qo).getD k dR = (v, x, p, s) := ⟨_, _, _, _, rfl⟩
        rw [hx, hy] at hra
        rw [hx] at fP fS
        rw [hy] at fP2
        dsimp only at fP fS fP2
        obtain ⟨e1, e2, e3, e4⟩ := ra_ask hra fP fS fP2
        subst e1 e3
        have hal : alikeB x1 x2 y1 x2 = true := by
          cases x2
          · rw [e2 rfl]; simp [alikeB]
          · rfl
        have KF := fun W => ralike_ct x1 y1 x2 x2 W
        rw [hal] at KF
        have QF := Lib.hid KF
        obtain ⟨g0, g1, g2, g3⟩ := hC1.cell hlt hx
        obtain ⟨k0, k1, k2, k3⟩ := hC2.cell hlt hy
        clear hx hy hra fP fS fP2 e2 hal KF
        have HH := Lib.hid H
        have H1 := Lib.hid hC1
        have H2 := Lib.hid hC2
        clear H hC1 hC2 HE
        go_wp2_with fail
        (refine wp_region_quiet_below (by kernel_rfl) (by kernel_rfl) ?_); (repeat (first | (go_big_quiet_want; refine gate_qload _ _ rfl ?_; refine quiet_mload _ _ rfl _ _ rfl 1 HH.out _ #[.int .u8 x1, .bool x2] rfl (by decide +kernel) (by kernel_rfl) (sub2 g0 g1) ?_; simp only [Act.put, List.setIfInBounds_toArray, List.set_cons_succ, List.set_cons_zero]; go_big_quiet_on) | (go_big_quiet_want; refine gate_qload _ _ rfl ?_; refine quiet_mload _ _ rfl _ _ rfl 0 HH.out _ #[.int .u8 y1, .bool x2] rfl (by decide +kernel) (by kernel_rfl) (sub2 k0 k1) ?_; simp only [Act.put, List.setIfInBounds_toArray, List.set_cons_succ, List.set_cons_zero]; go_big_quiet_on) | (go_big_quiet_want; refine gate_qload _ _ rfl ?_; refine quiet_mload1 _ _ rfl _ _ rfl 1 HH.out _ _ rfl g2 (by decide +kernel) ?_; simp only [Act.put, List.setIfInBounds_toArray, List.set_cons_succ, List.set_cons_zero]; go_big_quiet_on) | (go_big_quiet_want; refine gate_qload _ _ rfl ?_; refine quiet_mload1 _ _ rfl _ _ rfl 1 HH.out _ _ rfl g3 (by decide +kernel) ?_; simp only [Act.put, List.setIfInBounds_toArray, List.set_cons_succ, List.set_cons_zero]; go_big_quiet_on) | (go_big_quiet_want; refine gate_qload _ _ rfl ?_; refine quiet_mload1 _ _ rfl _ _ rfl 0 HH.out _ _ rfl k2 (by decide +kernel) ?_; simp only [Act.put, List.setIfInBounds_toArray, List.set_cons_succ, List.set_cons_zero]; go_big_quiet_on) | (go_big_quiet_want; refine gate_qload _ _ rfl ?_; refine quiet_mload1 _ _ rfl _ _ rfl 0 HH.out _ _ rfl k3 (by decide +kernel) ?_; simp only [Act.put, List.setIfInBounds_toArray, List.set_cons_succ, List.set_cons_zero]; go_big_quiet_on) | go_big_quiet_step ((go_at_call 40; (with_reducible exact Calls.regrown_of (QF.out _)))))); (refine wpQuiet_nil ?_); intro _ hw2; obtain ⟨⟨dq, osq⟩, hw3⟩ := hw2; (subst hw3); have hq := below_regrown wr dq osq; generalize Go.Sort.grow (redrawn wr dq) osq = wq at hq ⊢
        go_wp2
        go_roundw
        case rel => exact ⟨k + 1, by omega, by go_num, HH.out.next hq⟩
        case measure => simp [intOf]; omega
      · obtain rfl : k = 13 := by omega
        go_wp2_with (first
          | (go_at_call 21; (with_reducible refine (QA.out _).mono ?_); rintro e w2 ⟨rfl, hB⟩; replace H := H.next hB; clear hB) | fail)
        go_ret
        exact ⟨rfl, H.toBelow⟩
  · simp only [Bool.false_eq_true, if_false, if_true] at hao hmo
    subst hao hmo
    go_enter Try.func6, Try.ntmps6
    go_wp2_with (first
      | (refine wpList_mboxA rfl _ _ rfl H _ rfl ?_; clear H; intro R1 w1 _ H) | fail)
    (try simp only [Act.put, List.setIfInBounds_toArray, List.set_cons_succ, List.set_cons_zero])
    (refine wp_region_mem 123 [⟨8, 9, 99, ptrTo, akC ⟨0, 0, 0, false, 0, false, 0, false⟩, akC ⟨p, s, a, false, m, true, b, k⟩, undef⟩] (by kernel_rfl) (by kernel_rfl) (by rfl) (by kernel_rfl) (fun _ => by kernel_rfl) (by simp) H fun β wy hwy => ?_); have H0 := H; replace H := H.next hwy; (simp only [swapL, swapO, List.find?_cons, List.find?_nil, Nat.reduceBEq, Nat.reduceAdd]); (repeat (first | (go_big_quiet_want; refine gate_qload _ _ rfl ?_; refine quiet_mload _ _ rfl _ _ rfl 0 H _ (akC ⟨p, s, a, false, m, true, b, k⟩) rfl (by decide +kernel) (by kernel_rfl) (ap_q ⟨p, s, a, false, m, true, b, k⟩ a2 m2 r) ?_; simp only [Act.put, List.setIfInBounds_toArray, List.set_cons_succ, List.set_cons_zero]; go_big_quiet_on) | (go_big_quiet_want; refine gate_qload _ _ rfl ?_; (first | (refine quiet_mloadA _ _ rfl _ rfl 0 H _ rfl (by decide +kernel) (by kernel_rfl) ?_) | (refine quiet_mload1 _ _ rfl _ _ rfl 0 H _ (.int _ _) rfl rfl (by decide +kernel) ?_) | (refine quiet_mload1 _ _ rfl _ _ rfl 0 H _ (.bool _) rfl rfl (by decide +kernel) ?_) | (refine quiet_mload1 _ _ rfl _ _ rfl 0 H _ (.pointer _) rfl rfl (by decide +kernel) ?_) | (refine quiet_mload1 _ _ rfl _ _ rfl 0 H _ (.string _) rfl rfl (by decide +kernel) ?_) | (refine quiet_mload1 _ _ rfl _ _ rfl 0 H _ (.slice _ _ _) rfl rfl (by decide +kernel) ?_)); simp only [Act.put, List.setIfInBounds_toArray, List.set_cons_succ, List.set_cons_zero]; go_big_quiet_on) | go_big_quiet_step (fail))); (refine wpQuiet_nil ?_); (refine ⟨⟨⟨⟨_, run_alloc_ask _ rfl _⟩, ⟨rfl, by kernel_rfl, rfl, by kernel_rfl, fun _ => rfl⟩, trivial⟩, trivial⟩, fun wx HM => ?_⟩); clear H; have H := HM; clear HM H0 hwy; (dsimp only [boxesL, List.cons_append, List.nil_append] at H); (try dsimp only [ptrTo]); (try generalize hq0 : β 8 = q0 at *); (try generalize hq1 : β 0 = q1 at *)
    generalize q0 = R3 at *
    go_wp2_with (first
      | (go_at_call 10; (with_reducible refine (QC.out _).mono ?_); rintro e w2 ⟨rfl, hB⟩; replace H := H.next hB; clear hB)
      | go_skip | (refine gate_load _ _ rfl ?_; first | (refine wpList_mload rfl _ _ rfl _ _ rfl 0 H _ (#[.int .u8 p, .int .u8 s]) rfl (by decide +kernel) (by kernel_rfl) (ak_f ⟨p, s, a, false, m, true, b, k⟩) ?_))
      | (refine gate_store _ _ _ rfl ?_; refine wpList_mstore rfl _ _ _ rfl rfl _ _ rfl 0 H _ _ rfl (.agg #[.int .u8 cp, .int .u8 cz]) rfl (by kernel_rfl) (of_decide_eq_true (by kernel_rfl)) (by kernel_rfl) rfl ?_; clear H; intro w1 H; simp only [List.set_cons_zero, List.set_cons_succ, ak_f0] at H)
      | go_skip | (refine wpList_mboxA rfl _ _ rfl H _ rfl ?_; clear H; intro _ w1 _ H) | (refine gate_load _ _ rfl ?_; first | (refine wpList_mloadA rfl _ _ rfl _ rfl 0 H _ rfl (by decide +kernel) (by kernel_rfl) ?_) | (refine wpList_mloadA rfl _ _ rfl _ rfl 1 H _ rfl (by decide +kernel) (by kernel_rfl) ?_) | (refine wpList_mload1 rfl _ _ rfl _ _ rfl 0 H _ (.int _ _) rfl rfl (by decide +kernel) ?_) | (refine wpList_mload1 rfl _ _ rfl _ _ rfl 1 H _ (.int _ _) rfl rfl (by decide +kernel) ?_) | (refine wpList_mload1 rfl _ _ rfl _ _ rfl 0 H _ (.bool _) rfl rfl (by decide +kernel) ?_) | (refine wpList_mload1 rfl _ _ rfl _ _ rfl 1 H _ (.bool _) rfl rfl (by decide +kernel) ?_) | (refine wpList_mload1 rfl _ _ rfl _ _ rfl 0 H _ (.pointer _) rfl rfl (by decide +kernel) ?_) | (refine wpList_mload1 rfl _ _ rfl _ _ rfl 1 H _ (.pointer _) rfl rfl (by decide +kernel) ?_) | (refine wpList_mload1 rfl _ _ rfl _ _ rfl 0 H _ (.string _) rfl rfl (by decide +kernel) ?_) | (refine wpList_mload1 rfl _ _ rfl _ _ rfl 1 H _ (.string _) rfl rfl (by decide +kernel) ?_) | (refine wpList_mload1 rfl _ _ rfl _ _ rfl 0 H _ (.slice _ _ _) rfl rfl (by decide +kernel) ?_) | (refine wpList_mload1 rfl _ _ rfl _ _ rfl 1 H _ (.slice _ _ _) rfl rfl (by decide +kernel) ?_)) | (refine gate_store _ _ _ rfl ?_; (first | (refine wpList_mstoreA rfl _ _ _ rfl rfl _ rfl 0 H _ _ rfl rfl (by kernel_rfl) (by kernel_rfl) (by kernel_rfl) ?_) | (refine wpList_mstoreA rfl _ _ _ rfl rfl _ rfl 1 H _ _ rfl rfl (by kernel_rfl) (by kernel_rfl) (by kernel_rfl) ?_) | (refine wpList_mstore rfl _ _ _ rfl rfl _ _ rfl 0 H _ _ rfl (.int _ _) rfl (by kernel_rfl) (of_decide_eq_true (by kernel_rfl)) (by kernel_rfl) rfl ?_) | (refine wpList_mstore rfl _ _ _ rfl rfl _ _ rfl 1 H _ _ rfl (.int _ _) rfl (by kernel_rfl) (of_decide_eq_true (by kernel_rfl)) (by kernel_rfl) rfl ?_) | (refine wpList_mstore rfl _ _ _ rfl rfl _ _ rfl 0 H _ _ rfl (.bool _) rfl (by kernel_rfl) (of_decide_eq_true (by kernel_rfl)) (by kernel_rfl) rfl ?_) | (refine wpList_mstore rfl _ _ _ rfl rfl _ _ rfl 1 H _ _ rfl (.bool _) rfl (by kernel_rfl) (of_decide_eq_true (by kernel_rfl)) (by kernel_rfl) rfl ?_) | (refine wpList_mstore rfl _ _ _ rfl rfl _ _ rfl 0 H _ _ rfl (.pointer _) rfl (by kernel_rfl) (of_decide_eq_true (by kernel_rfl)) (by kernel_rfl) rfl ?_) | (refine wpList_mstore rfl _ _ _ rfl rfl _ _ rfl 1 H _ _ rfl (.pointer _) rfl (by kernel_rfl) (of_decide_eq_true (by kernel_rfl)) (by kernel_rfl) rfl ?_) | (refine wpList_mstore rfl _ _ _ rfl rfl _ _ rfl 0 H _ _ rfl (.string _) rfl (by kernel_rfl) (of_decide_eq_true (by kernel_rfl)) (by kernel_rfl) rfl ?_) | (refine wpList_mstore rfl _ _ _ rfl rfl _ _ rfl 1 H _ _ rfl (.string _) rfl (by kernel_rfl) (of_decide_eq_true (by kernel_rfl)) (by kernel_rfl) rfl ?_) | (refine wpList_mstore rfl _ _ _ rfl rfl _ _ rfl 0 H _ _ rfl (.slice _ _ _) rfl (by kernel_rfl) (of_decide_eq_true (by kernel_rfl)) (by kernel_rfl) rfl ?_) | (refine wpList_mstore rfl _ _ _ rfl rfl _ _ rfl 1 H _ _ rfl (.slice _ _ _) rfl (by kernel_rfl) (of_decide_eq_true (by kernel_rfl)) (by kernel_rfl) rfl ?_)); clear H; intro w1 H; simp only [List.set_cons_zero, List.set_cons_succ, ak_a0, ak_m0, ak_p0] at H)
      | (refine wpList_mnew rfl _ rfl H _ HZA.out ?_; clear H; intro R7 w1 _ H) | fail)
    (try simp only [Act.put, List.setIfInBounds_toArray, List.set_cons_succ, List.set_cons_zero])
    rw [HP.out, HC.out, HO.out] at H
    replace H : Mem w.heap.size [] w w1 [(R7, akC qo), (R3, akC qc)] := H.sub (List.Sublist.cons_cons _ (List.Sublist.cons_cons _ (List.Sublist.cons _ (List.Sublist.refl _))))
    clear HP HC HO QC
    refine wp_region_y ((0, 0, #[]) : Nat × Nat × Array Value) (by kernel_rfl) (by kernel_rfl) [(some 51, fun _ => .agg (akC qc)), (some 52, fun R : Nat × Nat × Array Value => .slice (some ⟨R.1, 0, none⟩) 13 R.2.1), (some 53, fun _ => .agg (akC qo)), (some 54, fun R : Nat × Nat × Array Value => .slice (some ⟨R.1, 0, none⟩) 13 R.2.1), (some 8, fun R : Nat × Nat × Array Value => .slice (some ⟨R.1, 0, none⟩) 13 R.2.1), (some 9, fun R : Nat × Nat × Array Value => .slice (some ⟨R.1, 0, none⟩) 13 R.2.1)] (fun D bq wv => (D 4 = true → bq 4 = bq 1) ∧ (D 5 = true → bq 5 = bq 3) ∧ cond (D 3) (Mem w.heap.size [] w wv (((bq 3).1, (bq 3).2.2) :: ((bq 1).1, (bq 1).2.2) :: [(R7, akC qo), (R3, akC qc)]) ∧ RowC (bq 1).2.2 (bq 1).2.1 (toldQ qc) ∧ RowC (bq 3).2.2 (bq 3).2.1 (toldQ qo)) (cond (D 1) (Mem w.heap.size [] w wv (((bq 1).1, (bq 1).2.2) :: [(R7, akC qo), (R3, akC qc)]) ∧ RowC (bq 1).2.2 (bq 1).2.1 (toldQ qc)) (Mem w.heap.size [] w wv ([(R7, akC qo), (R3, akC qc)])))) 123 (by rfl) (by rfl) (by rfl) ⟨(fun h => by cases h), (fun h => by cases h), H.drew⟩ ⟨⟨rfl, ?p0⟩, ⟨rfl, ?p1⟩, ⟨rfl, ?p2⟩, ⟨rfl, ?p3⟩, ⟨rfl, ?p4⟩, ⟨rfl, ?p5⟩, trivial⟩ ?_
    case p0 =>
      intro D bq a' w' hk hc he hl hW
      (try dsimp only at hW)
      have n1 : D 1 = false := hc.no .data hk rfl (by simp) rfl
      have n3 : D 3 = false := hc.no .chain n1 rfl (by simp) rfl
      have f3 : a'.tmps.getD 3 undef = .pointer (some ⟨R3, 0, none⟩) := (hl 3).trans ((vsy_no rfl).trans rfl)
      have hM := pcond_f n1 (pcond_f n3 hW.2.2)
      exact wp_sloadA _ _ rfl _ f3 1 hM (akC qc) rfl (by kernel_rfl) (by kernel_rfl) ⟨(0, 0, #[]), rfl, hW.1, hW.2.1, hW.2.2⟩
    case p1 =>
      intro D bq a' w' hk hc he hl hW
      (try dsimp only at hW)
      have n3 : D 3 = false := hc.no .chain hk rfl (by simp) rfl
      have n4 : D 4 = false := hc.no .data hk rfl (by simp) rfl
      have e0 : a'.tmps.getD 51 undef = .agg (akC qc) := (hl 51).trans (vsy_at (f := fun _ => .agg (akC qc)) rfl (he ⟨0, .data⟩ (by simp) rfl) rfl)
      have hM := pcond_f hk (pcond_f n3 hW.2.2)
      refine wp_callp (vals := #[.agg (akC qc)]) rfl rfl (by simp only [List.map_toArray, List.map_cons, List.map_nil, Act.eval, e0]) (by kernel_rfl) (QT1.out _) ?_
      rintro e w2 ⟨R, cs, cap, rfl, hC1, hM1⟩
      have hA := Mem.join1 hM hM1
      exact ⟨_, rfl, (R, cap, cs), rfl, (fun h => by rw [show doneB D 1 4 = D 4 from rfl, n4] at h; cases h), hW.2.1, pcond_mk n3 ⟨hA, hC1⟩⟩
    case p2 =>
      intro D bq a' w' hk hc he hl hW
      (try dsimp only at hW)
      have n3 : D 3 = false := hc.no .data hk rfl (by simp) rfl
      have f7 : a'.tmps.getD 7 undef = .pointer (some ⟨R7, 0, none⟩) := (hl 7).trans ((vsy_no rfl).trans rfl)
      have hM := pcondB (pcond_f n3 hW.2.2)
      exact wp_sloadA _ _ rfl _ f7 0 hM (akC qo) rfl (by kernel_rfl) (by kernel_rfl) ⟨(0, 0, #[]), rfl, hW.1, hW.2.1, hW.2.2⟩
    case p3 =>
      intro D bq a' w' hk hc he hl hW
      (try dsimp only at hW)
      have n5 : D 5 = false := hc.no .data hk rfl (by simp) rfl
      have e2 : a'.tmps.getD 53 undef = .agg (akC qo) := (hl 53).trans (vsy_at (f := fun _ => .agg (akC qo)) rfl (he ⟨2, .data⟩ (by simp) rfl) rfl)
      have hx := pcond_t (he ⟨1, .chain⟩ (by simp) rfl) (pcond_f hk hW.2.2)
      refine wp_callp (vals := #[.agg (akC qo)]) rfl rfl (by simp only [List.map_toArray, List.map_cons, List.map_nil, Act.eval, e2]) (by kernel_rfl) (QT2.out _) ?_
      rintro e w2 ⟨R, cs, cap, rfl, hC2, hM2⟩
      have hA := Mem.join1 hx.1 hM2
      exact ⟨_, rfl, (R, cap, cs), rfl, hW.1, (fun h => by rw [show doneB D 3 5 = D 5 from rfl, n5] at h; cases h), ⟨hA, hx.2, hC2⟩⟩
    case p4 =>
      intro D bq a' w' hk hc he hl hW
      (try dsimp only at hW)
      have e1 : a'.tmps.getD 52 undef = .slice (some ⟨(bq 1).1, 0, none⟩) 13 (bq 1).2.1 := (hl 52).trans (vsy_at (f := fun R : Nat × Nat × Array Value => .slice (some ⟨R.1, 0, none⟩) 13 R.2.1) rfl (he ⟨1, .data⟩ (by simp) rfl) rfl)
      exact wp_val (.slice (some ⟨(bq 1).1, 0, none⟩) 13 (bq 1).2.1) (by simp only [execOp, Act.eval, List.map_toArray, List.map_cons, List.map_nil]; rw [e1]; kernel_rfl) ⟨bq 1, rfl, (fun _ => rfl), hW.2.1, hW.2.2⟩
    case p5 =>
      intro D bq a' w' hk hc he hl hW
      (try dsimp only at hW)
      have e3 : a'.tmps.getD 54 undef = .slice (some ⟨(bq 3).1, 0, none⟩) 13 (bq 3).2.1 := (hl 54).trans (vsy_at (f := fun R : Nat × Nat × Array Value => .slice (some ⟨R.1, 0, none⟩) 13 R.2.1) rfl (he ⟨3, .data⟩ (by simp) rfl) rfl)
      exact wp_val (.slice (some ⟨(bq 3).1, 0, none⟩) 13 (bq 3).2.1) (by simp only [execOp, Act.eval, List.map_toArray, List.map_cons, List.map_nil]; rw [e3]; kernel_rfl) ⟨bq 3, rfl, hW.1, (fun _ => rfl), hW.2.2⟩
    intro D bq wv hD hW
    (try dsimp only at hW)
    have e4 := hW.1 (hD 4 (by decide))
    have e5 := hW.2.1 (hD 5 (by decide))
    have hx := pcond_t (hD 3 (by decide)) hW.2.2
    clear H hD hW
    simp only [putAll, vsYf, Nat.reduceAdd, List.foldl_cons, List.foldl_nil, Act.put, List.setIfInBounds_toArray, List.set_cons_succ, List.set_cons_zero]
    rw [e4, e5]
    clear e4 e5
    generalize bq 1 = r1 at *
    generalize bq 3 = r3 at *
    obtain ⟨T1, cap1, cs1⟩ := r1
    obtain ⟨T2, cap2, cs2⟩ := r3
    obtain ⟨H, hC1, hC2⟩ := hx
    dsimp only at H hC1 hC2 ⊢
    replace H := H.sub (l' := [(T2, cs2), (T1, cs1)]) (List.Sublist.cons_cons _ (List.Sublist.cons_cons _ (List.nil_sublist _)))
    clear QT1 QT2
    go_wp2_with fail
    go_loopw [10] (fun i wr => ∃ k : Nat, k ≤ 13 ∧ i = .int .i64 k ∧ Mem w.heap.size [] w wr [(T2, cs2), (T1, cs1)]) (fun i _ => 13 - (intOf i).toNat)
    case atStart => exact ⟨0, Nat.zero_le _, rfl, H⟩
    case round =>
      clear H
      obtain ⟨k, hk, rfl, H⟩ := hrel
      by_cases hlt : k < 13
      · obtain ⟨hra, ⟨fP, fS⟩, fP2⟩ := HE.out k hlt
        obtain ⟨x1, x2, x3, x4, hx⟩ : ∃ v x p s, (toldQ qc).getD k dR = (v, x, p, s) := ⟨_, _, _, _, rfl⟩
        obtain ⟨y1, y2, y3, y4, hy⟩ : ∃ v x p s, (toldQ qo).getD k dR = (v, x, p, s) := ⟨_, _, _, _, rfl⟩
        rw [hx, hy] at hra
        rw [hx] at fP fS
        rw [hy] at fP2
        dsimp only at fP fS fP2
        obtain ⟨e1, e2, e3, e4⟩ := ra_ask hra fP fS fP2
        subst e1 e3
        have hal : alikeB x1 x2 y1 x2 = true := by
          cases x2
          · rw [e2 rfl]; simp [alikeB]
          · rfl
        have KF := fun W => ralike_ct x1 y1 x2 x2 W
        rw [hal] at KF
        have QF := Lib.hid KF
        obtain ⟨g0, g1, g2, g3⟩ := hC1.cell hlt hx
        obtain ⟨k0, k1, k2, k3⟩ := hC2.cell hlt hy
        clear hx hy hra fP fS fP2 e2 hal KF
        have HH := Lib.hid H
        have H1 := Lib.hid hC1
        have H2 := Lib.hid hC2
        clear H hC1 hC2 HE
        go_wp2_with fail
        (refine wp_region_quiet_below (by kernel_rfl) (by kernel_rfl) ?_); (repeat (first | (go_big_quiet_want; refine gate_qload _ _ rfl ?_; refine quiet_mload _ _ rfl _ _ rfl 1 HH.out _ #[.int .u8 x1, .bool x2] rfl (by decide +kernel) (by kernel_rfl) (sub2 g0 g1) ?_; simp only [Act.put, List.setIfInBounds_toArray, List.set_cons_succ, List.set_cons_zero]; go_big_quiet_on) | (go_big_quiet_want; refine gate_qload _ _ rfl ?_; refine quiet_mload _ _ rfl _ _ rfl 0 HH.out _ #[.int .u8 y1, .bool x2] rfl (by decide +kernel) (by kernel_rfl) (sub2 k0 k1) ?_; simp only [Act.put, List.setIfInBounds_toArray, List.set_cons_succ, List.set_cons_zero]; go_big_quiet_on) | (go_big_quiet_want; refine gate_qload _ _ rfl ?_; refine quiet_mload1 _ _ rfl _ _ rfl 1 HH.out _ _ rfl g2 (by decide +kernel) ?_; simp only [Act.put, List.setIfInBounds_toArray, List.set_cons_succ, List.set_cons_zero]; go_big_quiet_on) | (go_big_quiet_want; refine gate_qload _ _ rfl ?_; refine quiet_mload1 _ _ rfl _ _ rfl 1 HH.out _ _ rfl g3 (by decide +kernel) ?_; simp only [Act.put, List.setIfInBounds_toArray, List.set_cons_succ, List.set_cons_zero]; go_big_quiet_on) | (go_big_quiet_want; refine gate_qload _ _ rfl ?_; refine quiet_mload1 _ _ rfl _ _ rfl 0 HH.out _ _ rfl k2 (by decide +kernel) ?_; simp only [Act.put, List.setIfInBounds_toArray, List.set_cons_succ, List.set_cons_zero]; go_big_quiet_on) | (go_big_quiet_want; refine gate_qload _ _ rfl ?_; refine quiet_mload1 _ _ rfl _ _ rfl 0 HH.out _ _ rfl k3 (by decide +kernel) ?_; simp only [Act.put, List.setIfInBounds_toArray, List.set_cons_succ, List.set_cons_zero]; go_big_quiet_on) | go_big_quiet_step ((go_at_call 40; (with_reducible exact Calls.regrown_of (QF.out _)))))); (refine wpQuiet_nil ?_); intro _ hw2; obtain ⟨⟨dq, osq⟩, hw3⟩ := hw2; (subst hw3); have hq := below_regrown wr dq osq; generalize Go.Sort.grow (redrawn wr dq) osq = wq at hq ⊢
        go_wp2
        go_roundw
        case rel => exact ⟨k + 1, by omega, by go_num, HH.out.next hq⟩
        case measure => simp [intOf]; omega
      · obtain rfl : k = 13 := by omega
        go_wp2_with (first
          | (go_at_call 21; (with_reducible refine (QA.out _).mono ?_); rintro e w2 ⟨rfl, hB⟩; replace H := H.next hB; clear hB) | fail)
        go_ret
        exact ⟨rfl, H.toBelow⟩
  · simp only [Bool.false_eq_true, if_false, if_true] at hao hmo
    subst hao hmo
    go_enter Try.func6, Try.ntmps6
    go_wp2_with (first
      | (refine wpList_mboxA rfl _ _ rfl H _ rfl ?_; clear H; intro R1 w1 _ H) | fail)
    (try simp only [Act.put, List.setIfInBounds_toArray, List.set_cons_succ, List.set_cons_zero])
    (refine wp_region_mem 123 [⟨8, 9, 99, ptrTo, akC ⟨0, 0, 0, false, 0, false, 0, false⟩, akC ⟨p, s, a, true, m, false, b, k⟩, undef⟩] (by kernel_rfl) (by kernel_rfl) (by rfl) (by kernel_rfl) (fun _ => by kernel_rfl) (by simp) H fun β wy hwy => ?_); have H0 := H; replace H := H.next hwy; (simp only [swapL, swapO, List.find?_cons, List.find?_nil, Nat.reduceBEq, Nat.reduceAdd]); (repeat (first | (go_big_quiet_want; refine gate_qload _ _ rfl ?_; refine quiet_mload _ _ rfl _ _ rfl 0 H _ (akC ⟨p, s, a, true, m, false, b, k⟩) rfl (by decide +kernel) (by kernel_rfl) (ap_q ⟨p, s, a, true, m, false, b, k⟩ a2 m2 r) ?_; simp only [Act.put, List.setIfInBounds_toArray, List.set_cons_succ, List.set_cons_zero]; go_big_quiet_on) | (go_big_quiet_want; refine gate_qload _ _ rfl ?_; (first | (refine quiet_mloadA _ _ rfl _ rfl 0 H _ rfl (by decide +kernel) (by kernel_rfl) ?_) | (refine quiet_mload1 _ _ rfl _ _ rfl 0 H _ (.int _ _) rfl rfl (by decide +kernel) ?_) | (refine quiet_mload1 _ _ rfl _ _ rfl 0 H _ (.bool _) rfl rfl (by decide +kernel) ?_) | (refine quiet_mload1 _ _ rfl _ _ rfl 0 H _ (.pointer _) rfl rfl (by decide +kernel) ?_) | (refine quiet_mload1 _ _ rfl _ _ rfl 0 H _ (.string _) rfl rfl (by decide +kernel) ?_) | (refine quiet_mload1 _ _ rfl _ _ rfl 0 H _ (.slice _ _ _) rfl rfl (by decide +kernel) ?_)); simp only [Act.put, List.setIfInBounds_toArray, List.set_cons_succ, List.set_cons_zero]; go_big_quiet_on) | go_big_quiet_step (fail))); (refine wpQuiet_nil ?_); (refine ⟨⟨⟨⟨_, run_alloc_ask _ rfl _⟩, ⟨rfl, by kernel_rfl, rfl, by kernel_rfl, fun _ => rfl⟩, trivial⟩, trivial⟩, fun wx HM => ?_⟩); clear H; have H := HM; clear HM H0 hwy; (dsimp only [boxesL, List.cons_append, List.nil_append] at H); (try dsimp only [ptrTo]); (try generalize hq0 : β 8 = q0 at *); (try generalize hq1 : β 0 = q1 at *)
    generalize q0 = R3 at *
    go_wp2_with (first
      | (go_at_call 10; (with_reducible refine (QC.out _).mono ?_); rintro e w2 ⟨rfl, hB⟩; replace H := H.next hB; clear hB)
      | go_skip | (refine gate_load _ _ rfl ?_; first | (refine wpList_mload rfl _ _ rfl _ _ rfl 0 H _ (#[.int .u8 p, .int .u8 s]) rfl (by decide +kernel) (by kernel_rfl) (ak_f ⟨p, s, a, true, m, false, b, k⟩) ?_))
      | (refine gate_store _ _ _ rfl ?_; refine wpList_mstore rfl _ _ _ rfl rfl _ _ rfl 0 H _ _ rfl (.agg #[.int .u8 cp, .int .u8 cz]) rfl (by kernel_rfl) (of_decide_eq_true (by kernel_rfl)) (by kernel_rfl) rfl ?_; clear H; intro w1 H; simp only [List.set_cons_zero, List.set_cons_succ, ak_f0] at H)
      | go_skip | (refine wpList_mboxA rfl _ _ rfl H _ rfl ?_; clear H; intro _ w1 _ H) | (refine gate_load _ _ rfl ?_; first | (refine wpList_mloadA rfl _ _ rfl _ rfl 0 H _ rfl (by decide +kernel) (by kernel_rfl) ?_) | (refine wpList_mloadA rfl _ _ rfl _ rfl 1 H _ rfl (by decide +kernel) (by kernel_rfl) ?_) | (refine wpList_mload1 rfl _ _ rfl _ _ rfl 0 H _ (.int _ _) rfl rfl (by decide +kernel) ?_) | (refine wpList_mload1 rfl _ _ rfl _ _ rfl 1 H _ (.int _ _) rfl rfl (by decide +kernel) ?_) | (refine wpList_mload1 rfl _ _ rfl _ _ rfl 0 H _ (.bool _) rfl rfl (by decide +kernel) ?_) | (refine wpList_mload1 rfl _ _ rfl _ _ rfl 1 H _ (.bool _) rfl rfl (by decide +kernel) ?_) | (refine wpList_mload1 rfl _ _ rfl _ _ rfl 0 H _ (.pointer _) rfl rfl (by decide +kernel) ?_) | (refine wpList_mload1 rfl _ _ rfl _ _ rfl 1 H _ (.pointer _) rfl rfl (by decide +kernel) ?_) | (refine wpList_mload1 rfl _ _ rfl _ _ rfl 0 H _ (.string _) rfl rfl (by decide +kernel) ?_) | (refine wpList_mload1 rfl _ _ rfl _ _ rfl 1 H _ (.string _) rfl rfl (by decide +kernel) ?_) | (refine wpList_mload1 rfl _ _ rfl _ _ rfl 0 H _ (.slice _ _ _) rfl rfl (by decide +kernel) ?_) | (refine wpList_mload1 rfl _ _ rfl _ _ rfl 1 H _ (.slice _ _ _) rfl rfl (by decide +kernel) ?_)) | (refine gate_store _ _ _ rfl ?_; (first | (refine wpList_mstoreA rfl _ _ _ rfl rfl _ rfl 0 H _ _ rfl rfl (by kernel_rfl) (by kernel_rfl) (by kernel_rfl) ?_) | (refine wpList_mstoreA rfl _ _ _ rfl rfl _ rfl 1 H _ _ rfl rfl (by kernel_rfl) (by kernel_rfl) (by kernel_rfl) ?_) | (refine wpList_mstore rfl _ _ _ rfl rfl _ _ rfl 0 H _ _ rfl (.int _ _) rfl (by kernel_rfl) (of_decide_eq_true (by kernel_rfl)) (by kernel_rfl) rfl ?_) | (refine wpList_mstore rfl _ _ _ rfl rfl _ _ rfl 1 H _ _ rfl (.int _ _) rfl (by kernel_rfl) (of_decide_eq_true (by kernel_rfl)) (by kernel_rfl) rfl ?_) | (refine wpList_mstore rfl _ _ _ rfl rfl _ _ rfl 0 H _ _ rfl (.bool _) rfl (by kernel_rfl) (of_decide_eq_true (by kernel_rfl)) (by kernel_rfl) rfl ?_) | (refine wpList_mstore rfl _ _ _ rfl rfl _ _ rfl 1 H _ _ rfl (.bool _) rfl (by kernel_rfl) (of_decide_eq_true (by kernel_rfl)) (by kernel_rfl) rfl ?_) | (refine wpList_mstore rfl _ _ _ rfl rfl _ _ rfl 0 H _ _ rfl (.pointer _) rfl (by kernel_rfl) (of_decide_eq_true (by kernel_rfl)) (by kernel_rfl) rfl ?_) | (refine wpList_mstore rfl _ _ _ rfl rfl _ _ rfl 1 H _ _ rfl (.pointer _) rfl (by kernel_rfl) (of_decide_eq_true (by kernel_rfl)) (by kernel_rfl) rfl ?_) | (refine wpList_mstore rfl _ _ _ rfl rfl _ _ rfl 0 H _ _ rfl (.string _) rfl (by kernel_rfl) (of_decide_eq_true (by kernel_rfl)) (by kernel_rfl) rfl ?_) | (refine wpList_mstore rfl _ _ _ rfl rfl _ _ rfl 1 H _ _ rfl (.string _) rfl (by kernel_rfl) (of_decide_eq_true (by kernel_rfl)) (by kernel_rfl) rfl ?_) | (refine wpList_mstore rfl _ _ _ rfl rfl _ _ rfl 0 H _ _ rfl (.slice _ _ _) rfl (by kernel_rfl) (of_decide_eq_true (by kernel_rfl)) (by kernel_rfl) rfl ?_) | (refine wpList_mstore rfl _ _ _ rfl rfl _ _ rfl 1 H _ _ rfl (.slice _ _ _) rfl (by kernel_rfl) (of_decide_eq_true (by kernel_rfl)) (by kernel_rfl) rfl ?_)); clear H; intro w1 H; simp only [List.set_cons_zero, List.set_cons_succ, ak_a0, ak_m0, ak_p0] at H)
      | (refine wpList_mnew rfl _ rfl H _ HZA.out ?_; clear H; intro R7 w1 _ H) | fail)
    (try simp only [Act.put, List.setIfInBounds_toArray, List.set_cons_succ, List.set_cons_zero])
    rw [HP.out, HC.out, HO.out] at H
    replace H : Mem w.heap.size [] w w1 [(R7, akC qo), (R3, akC qc)] := H.sub (List.Sublist.cons_cons _ (List.Sublist.cons_cons _ (List.Sublist.cons _ (List.Sublist.refl _))))
    clear HP HC HO QC
    refine wp_region_y ((0, 0, #[]) : Nat × Nat × Array Value) (by kernel_rfl) (by kernel_rfl) [(some 51, fun _ => .agg (akC qc)), (some 52, fun R : Nat × Nat × Array Value => .slice (some ⟨R.1, 0, none⟩) 13 R.2.1), (some 53, fun _ => .agg (akC qo)), (some 54, fun R : Nat × Nat × Array Value => .slice (some ⟨R.1, 0, none⟩) 13 R.2.1), (some 8, fun R : Nat × Nat × Array Value => .slice (some ⟨R.1, 0, none⟩) 13 R.2.1), (some 9, fun R : Nat × Nat × Array Value => .slice (some ⟨R.1, 0, none⟩) 13 R.2.1)] (fun D bq wv => (D 4 = true → bq 4 = bq 1) ∧ (D 5 = true → bq 5 = bq 3) ∧ cond (D 3) (Mem w.heap.size [] w wv (((bq 3).1, (bq 3).2.2) :: ((bq 1).1, (bq 1).2.2) :: [(R7, akC qo), (R3, akC qc)]) ∧ RowC (bq 1).2.2 (bq 1).2.1 (toldQ qc) ∧ RowC (bq 3).2.2 (bq 3).2.1 (toldQ qo)) (cond (D 1) (Mem w.heap.size [] w wv (((bq 1).1, (bq 1).2.2) :: [(R7, akC qo), (R3, akC qc)]) ∧ RowC (bq 1).2.2 (bq 1).2.1 (toldQ qc)) (Mem w.heap.size [] w wv ([(R7, akC qo), (R3, akC qc)])))) 123 (by rfl) (by rfl) (by rfl) ⟨(fun h => by cases h), (fun h => by cases h), H.drew⟩ ⟨⟨rfl, ?p0⟩, ⟨rfl, ?p1⟩, ⟨rfl, ?p2⟩, ⟨rfl, ?p3⟩, ⟨rfl, ?p4⟩, ⟨rfl, ?p5⟩, trivial⟩ ?_
    case p0 =>
      intro D bq a' w' hk hc he hl hW
      (try dsimp only at hW)
      have n1 : D 1 = false := hc.no .data hk rfl (by simp) rfl
      have n3 : D 3 = false := hc.no .chain n1 rfl (by simp) rfl
      have f3 : a'.tmps.getD 3 undef = .pointer (some ⟨R3, 0, none⟩) := (hl 3).trans ((vsy_no rfl).trans rfl)
      have hM := pcond_f n1 (pcond_f n3 hW.2.2)
      exact wp_sloadA _ _ rfl _ f3 1 hM (akC qc) rfl (by kernel_rfl) (by kernel_rfl) ⟨(0, 0, #[]), rfl, hW.1, hW.2.1, hW.2.2⟩
    case p1 =>
      intro D bq a' w' hk hc he hl hW
      (try dsimp only at hW)
      have n3 : D 3 = false := hc.no .chain hk rfl (by simp) rfl
      have n4 : D 4 = false := hc.no .data hk rfl (by simp) rfl
      have e0 : a'.tmps.getD 51 undef = .agg (akC qc) := (hl 51).trans (vsy_at (f := fun _ => .agg (akC qc)) rfl (he ⟨0, .data⟩ (by simp) rfl) rfl)
      have hM := pcond_f hk (pcond_f n3 hW.2.2)
      refine wp_callp (vals := #[.agg (akC qc)]) rfl rfl (by simp only [List.map_toArray, List.map_cons, List.map_nil, Act.eval, e0]) (by kernel_rfl) (QT1.out _) ?_
      rintro e w2 ⟨R, cs, cap, rfl, hC1, hM1⟩
      have hA := Mem.join1 hM hM1
      exact ⟨_, rfl, (R, cap, cs), rfl, (fun h => by rw [show doneB D 1 4 = D 4 from rfl, n4] at h; cases h), hW.2.1, pcond_mk n3 ⟨hA, hC1⟩⟩
    case p2 =>
      intro D bq a' w' hk hc he hl hW
      (try dsimp only at hW)
      have n3 : D 3 = false := hc.no .data hk rfl (by simp) rfl
      have f7 : a'.tmps.getD 7 undef = .pointer (some ⟨R7, 0, none⟩) := (hl 7).trans ((vsy_no rfl).trans rfl)
      have hM := pcondB (pcond_f n3 hW.2.2)
      exact wp_sloadA _ _ rfl _ f7 0 hM (akC qo) rfl (by kernel_rfl) (by kernel_rfl) ⟨(0, 0, #[]), rfl, hW.1, hW.2.1, hW.2.2⟩
    case p3 =>
      intro D bq a' w' hk hc he hl hW
      (try dsimp only at hW)
      have n5 : D 5 = false := hc.no .data hk rfl (by simp) rfl
      have e2 : a'.tmps.getD 53 undef = .agg (akC qo) := (hl 53).trans (vsy_at (f := fun _ => .agg (akC qo)) rfl (he ⟨2, .data⟩ (by simp) rfl) rfl)
      have hx := pcond_t (he ⟨1, .chain⟩ (by simp) rfl) (pcond_f hk hW.2.2)
      refine wp_callp (vals := #[.agg (akC qo)]) rfl rfl (by simp only [List.map_toArray, List.map_cons, List.map_nil, Act.eval, e2]) (by kernel_rfl) (QT2.out _) ?_
      rintro e w2 ⟨R, cs, cap, rfl, hC2, hM2⟩
      have hA := Mem.join1 hx.1 hM2
      exact ⟨_, rfl, (R, cap, cs), rfl, hW.1, (fun h => by rw [show doneB D 3 5 = D 5 from rfl, n5] at h; cases h), ⟨hA, hx.2, hC2⟩⟩
    case p4 =>
      intro D bq a' w' hk hc he hl hW
      (try dsimp only at hW)
      have e1 : a'.tmps.getD 52 undef = .slice (some ⟨(bq 1).1, 0, none⟩) 13 (bq 1).2.1 := (hl 52).trans (vsy_at (f := fun R : Nat × Nat × Array Value => .slice (some ⟨R.1, 0, none⟩) 13 R.2.1) rfl (he ⟨1, .data⟩ (by simp) rfl) rfl)
      exact wp_val (.slice (some ⟨(bq 1).1, 0, none⟩) 13 (bq 1).2.1) (by simp only [execOp, Act.eval, List.map_toArray, List.map_cons, List.map_nil]; rw [e1]; kernel_rfl) ⟨bq 1, rfl, (fun _ => rfl), hW.2.1, hW.2.2⟩
    case p5 =>
      intro D bq a' w' hk hc he hl hW
      (try dsimp only at hW)
      have e3 : a'.tmps.getD 54 undef = .slice (some ⟨(bq 3).1, 0, none⟩) 13 (bq 3).2.1 := (hl 54).trans (vsy_at (f := fun R : Nat × Nat × Array Value => .slice (some ⟨R.1, 0, none⟩) 13 R.2.1) rfl (he ⟨3, .data⟩ (by simp) rfl) rfl)
      exact wp_val (.slice (some ⟨(bq 3).1, 0, none⟩) 13 (bq 3).2.1) (by simp only [execOp, Act.eval, List.map_toArray, List.map_cons, List.map_nil]; rw [e3]; kernel_rfl) ⟨bq 3, rfl, hW.1, (fun _ => rfl), hW.2.2⟩
    intro D bq wv hD hW
    (try dsimp only at hW)
    have e4 := hW.1 (hD 4 (by decide))
    have e5 := hW.2.1 (hD 5 (by decide))
    have hx := pcond_t (hD 3 (by decide)) hW.2.2
    clear H hD hW
    simp only [putAll, vsYf, Nat.reduceAdd, List.foldl_cons, List.foldl_nil, Act.put, List.setIfInBounds_toArray, List.set_cons_succ, List.set_cons_zero]
    rw [e4, e5]
    clear e4 e5
    generalize bq 1 = r1 at *
    generalize bq 3 = r3 at *
    obtain ⟨T1, cap1, cs1⟩ := r1
    obtain ⟨T2, cap2, cs2⟩ := r3
    obtain ⟨H, hC1, hC2⟩ := hx
    dsimp only at H hC1 hC2 ⊢
    replace H := H.sub (l' := [(T2, cs2), (T1, cs1)]) (List.Sublist.cons_cons _ (List.Sublist.cons_cons _ (List.nil_sublist _)))
    clear QT1 QT2
    go_wp2_with fail
    go_loopw [10] (fun i wr => ∃ k : Nat, k ≤ 13 ∧ i = .int .i64 k ∧ Mem w.heap.size [] w wr [(T2, cs2), (T1, cs1)]) (fun i _ => 13 - (intOf i).toNat)
    case atStart => exact ⟨0, Nat.zero_le _, rfl, H⟩
    case round =>
      clear H
      obtain ⟨k, hk, rfl, H⟩ := hrel
      by_cases hlt : k < 13
      · obtain ⟨hra, ⟨fP, fS⟩, fP2⟩ := HE.out k hlt
        obtain ⟨x1, x2, x3, x4, hx⟩ : ∃ v x p s, (toldQ qc).getD k dR = (v, x, p, s) := ⟨_, _, _, _, rfl⟩
        obtain ⟨y1, y2, y3, y4, hy⟩ : ∃ v x p s, (toldQ qo).getD k dR = (v, x, p, s) := ⟨_, _, _, _, rfl⟩
        rw [hx, hy] at hra
        rw [hx] at fP fS
        rw [hy] at fP2
        dsimp only at fP fS fP2
        obtain ⟨e1, e2, e3, e4⟩ := ra_ask hra fP fS fP2
        subst e1 e3
        have hal : alikeB x1 x2 y1 x2 = true := by
          cases x2
          · rw [e2 rfl]; simp [alikeB]
          · rfl
        have KF := fun W => ralike_ct x1 y1 x2 x2 W
        rw [hal] at KF
        have QF := Lib.hid KF
        obtain ⟨g0, g1, g2, g3⟩ := hC1.cell hlt hx
        obtain ⟨k0, k1, k2, k3⟩ := hC2.cell hlt hy
        clear hx hy hra fP fS fP2 e2 hal KF
        have HH := Lib.hid H
        have H1 := Lib.hid hC1
        have H2 := Lib.hid hC2
        clear H hC1 hC2 HE
        go_wp2_with fail
        (refine wp_region_quiet_below (by kernel_rfl) (by kernel_rfl) ?_); (repeat (first | (go_big_quiet_want; refine gate_qload _ _ rfl ?_; refine quiet_mload _ _ rfl _ _ rfl 1 HH.out _ #[.int .u8 x1, .bool x2] rfl (by decide +kernel) (by kernel_rfl) (sub2 g0 g1) ?_; simp only [Act.put, List.setIfInBounds_toArray, List.set_cons_succ, List.set_cons_zero]; go_big_quiet_on) | (go_big_quiet_want; refine gate_qload _ _ rfl ?_; refine quiet_mload _ _ rfl _ _ rfl 0 HH.out _ #[.int .u8 y1, .bool x2] rfl (by decide +kernel) (by kernel_rfl) (sub2 k0 k1) ?_; simp only [Act.put, List.setIfInBounds_toArray, List.set_cons_succ, List.set_cons_zero]; go_big_quiet_on) | (go_big_quiet_want; refine gate_qload _ _ rfl ?_; refine quiet_mload1 _ _ rfl _ _ rfl 1 HH.out _ _ rfl g2 (by decide +kernel) ?_; simp only [Act.put, List.setIfInBounds_toArray, List.set_cons_succ, List.set_cons_zero]; go_big_quiet_on) | (go_big_quiet_want; refine gate_qload _ _ rfl ?_; refine quiet_mload1 _ _ rfl _ _ rfl 1 HH.out _ _ rfl g3 (by decide +kernel) ?_; simp only [Act.put, List.setIfInBounds_toArray, List.set_cons_succ, List.set_cons_zero]; go_big_quiet_on) | (go_big_quiet_want; refine gate_qload _ _ rfl ?_; refine quiet_mload1 _ _ rfl _ _ rfl 0 HH.out _ _ rfl k2 (by decide +kernel) ?_; simp only [Act.put, List.setIfInBounds_toArray, List.set_cons_succ, List.set_cons_zero]; go_big_quiet_on) | (go_big_quiet_want; refine gate_qload _ _ rfl ?_; refine quiet_mload1 _ _ rfl _ _ rfl 0 HH.out _ _ rfl k3 (by decide +kernel) ?_; simp only [Act.put, List.setIfInBounds_toArray, List.set_cons_succ, List.set_cons_zero]; go_big_quiet_on) | go_big_quiet_step ((go_at_call 40; (with_reducible exact Calls.regrown_of (QF.out _)))))); (refine wpQuiet_nil ?_); intro _ hw2; obtain ⟨⟨dq, osq⟩, hw3⟩ := hw2; (subst hw3); have hq := below_regrown wr dq osq; generalize Go.Sort.grow (redrawn wr dq) osq = wq at hq ⊢
        go_wp2
        go_roundw
        case rel => exact ⟨k + 1, by omega, by go_num, HH.out.next hq⟩
        case measure => simp [intOf]; omega
      · obtain rfl : k = 13 := by omega
        go_wp2_with (first
          | (go_at_call 21; (with_reducible refine (QA.out _).mono ?_); rintro e w2 ⟨rfl, hB⟩; replace H := H.next hB; clear hB) | fail)
        go_ret
        exact ⟨rfl, H.toBelow⟩
  · simp only [Bool.false_eq_true, if_false, if_true] at hao hmo
    subst hao hmo
    go_enter Try.func6, Try.ntmps6
    go_wp2_with (first
      | (refine wpList_mboxA rfl _ _ rfl H _ rfl ?_; clear H; intro R1 w1 _ H) | fail)
    (try simp only [Act.put, List.setIfInBounds_toArray, List.set_cons_succ, List.set_cons_zero])
    (refine wp_region_mem 123 [⟨8, 9, 99, ptrTo, akC ⟨0, 0, 0, false, 0, false, 0, false⟩, akC ⟨p, s, a, true, m, true, b, k⟩, undef⟩] (by kernel_rfl) (by kernel_rfl) (by rfl) (by kernel_rfl) (fun _ => by kernel_rfl) (by simp) H fun β wy hwy => ?_); have H0 := H; replace H := H.next hwy; (simp only [swapL, swapO, List.find?_cons, List.find?_nil, Nat.reduceBEq, Nat.reduceAdd]); (repeat (first | (go_big_quiet_want; refine gate_qload _ _ rfl ?_; refine quiet_mload _ _ rfl _ _ rfl 0 H _ (akC ⟨p, s, a, true, m, true, b, k⟩) rfl (by decide +kernel) (by kernel_rfl) (ap_q ⟨p, s, a, true, m, true, b, k⟩ a2 m2 r) ?_; simp only [Act.put, List.setIfInBounds_toArray, List.set_cons_succ, List.set_cons_zero]; go_big_quiet_on) | (go_big_quiet_want; refine gate_qload _ _ rfl ?_; (first | (refine quiet_mloadA _ _ rfl _ rfl 0 H _ rfl (by decide +kernel) (by kernel_rfl) ?_) | (refine quiet_mload1 _ _ rfl _ _ rfl 0 H _ (.int _ _) rfl rfl (by decide +kernel) ?_) | (refine quiet_mload1 _ _ rfl _ _ rfl 0 H _ (.bool _) rfl rfl (by decide +kernel) ?_) | (refine quiet_mload1 _ _ rfl _ _ rfl 0 H _ (.pointer _) rfl rfl (by decide +kernel) ?_) | (refine quiet_mload1 _ _ rfl _ _ rfl 0 H _ (.string _) rfl rfl (by decide +kernel) ?_) | (refine quiet_mload1 _ _ rfl _ _ rfl 0 H _ (.slice _ _ _) rfl rfl (by decide +kernel) ?_)); simp only [Act.put, List.setIfInBounds_toArray, List.set_cons_succ, List.set_cons_zero]; go_big_quiet_on) | go_big_quiet_step (fail))); (refine wpQuiet_nil ?_); (refine ⟨⟨⟨⟨_, run_alloc_ask _ rfl _⟩, ⟨rfl, by kernel_rfl, rfl, by kernel_rfl, fun _ => rfl⟩, trivial⟩, trivial⟩, fun wx HM => ?_⟩); clear H; have H := HM; clear HM H0 hwy; (dsimp only [boxesL, List.cons_append, List.nil_append] at H); (try dsimp only [ptrTo]); (try generalize hq0 : β 8 = q0 at *); (try generalize hq1 : β 0 = q1 at *)
    generalize q0 = R3 at *
    go_wp2_with (first
      | (go_at_call 10; (with_reducible refine (QC.out _).mono ?_); rintro e w2 ⟨rfl, hB⟩; replace H := H.next hB; clear hB)
      | go_skip | (refine gate_load _ _ rfl ?_; first | (refine wpList_mload rfl _ _ rfl _ _ rfl 0 H _ (#[.int .u8 p, .int .u8 s]) rfl (by decide +kernel) (by kernel_rfl) (ak_f ⟨p, s, a, true, m, true, b, k⟩) ?_))
      | (refine gate_store _ _ _ rfl ?_; refine wpList_mstore rfl _ _ _ rfl rfl _ _ rfl 0 H _ _ rfl (.agg #[.int .u8 cp, .int .u8 cz]) rfl (by kernel_rfl) (of_decide_eq_true (by kernel_rfl)) (by kernel_rfl) rfl ?_; clear H; intro w1 H; simp only [List.set_cons_zero, List.set_cons_succ, ak_f0] at H)
      | go_skip | (refine wpList_mboxA rfl _ _ rfl H _ rfl ?_; clear H; intro _ w1 _ H) | (refine gate_load _ _ rfl ?_; first | (refine wpList_mloadA rfl _ _ rfl _ rfl 0 H _ rfl (by decide +kernel) (by kernel_rfl) ?_) | (refine wpList_mloadA rfl _ _ rfl _ rfl 1 H _ rfl (by decide +kernel) (by kernel_rfl) ?_) | (refine wpList_mload1 rfl _ _ rfl _ _ rfl 0 H _ (.int _ _) rfl rfl (by decide +kernel) ?_) | (refine wpList_mload1 rfl _ _ rfl _ _ rfl 1 H _ (.int _ _) rfl rfl (by decide +kernel) ?_) | (refine wpList_mload1 rfl _ _ rfl _ _ rfl 0 H _ (.bool _) rfl rfl (by decide +kernel) ?_) | (refine wpList_mload1 rfl _ _ rfl _ _ rfl 1 H _ (.bool _) rfl rfl (by decide +kernel) ?_) | (refine wpList_mload1 rfl _ _ rfl _ _ rfl 0 H _ (.pointer _) rfl rfl (by decide +kernel) ?_) | (refine wpList_mload1 rfl _ _ rfl _ _ rfl 1 H _ (.pointer _) rfl rfl (by decide +kernel) ?_) | (refine wpList_mload1 rfl _ _ rfl _ _ rfl 0 H _ (.string _) rfl rfl (by decide +kernel) ?_) | (refine wpList_mload1 rfl _ _ rfl _ _ rfl 1 H _ (.string _) rfl rfl (by decide +kernel) ?_) | (refine wpList_mload1 rfl _ _ rfl _ _ rfl 0 H _ (.slice _ _ _) rfl rfl (by decide +kernel) ?_) | (refine wpList_mload1 rfl _ _ rfl _ _ rfl 1 H _ (.slice _ _ _) rfl rfl (by decide +kernel) ?_)) | (refine gate_store _ _ _ rfl ?_; (first | (refine wpList_mstoreA rfl _ _ _ rfl rfl _ rfl 0 H _ _ rfl rfl (by kernel_rfl) (by kernel_rfl) (by kernel_rfl) ?_) | (refine wpList_mstoreA rfl _ _ _ rfl rfl _ rfl 1 H _ _ rfl rfl (by kernel_rfl) (by kernel_rfl) (by kernel_rfl) ?_) | (refine wpList_mstore rfl _ _ _ rfl rfl _ _ rfl 0 H _ _ rfl (.int _ _) rfl (by kernel_rfl) (of_decide_eq_true (by kernel_rfl)) (by kernel_rfl) rfl ?_) | (refine wpList_mstore rfl _ _ _ rfl rfl _ _ rfl 1 H _ _ rfl (.int _ _) rfl (by kernel_rfl) (of_decide_eq_true (by kernel_rfl)) (by kernel_rfl) rfl ?_) | (refine wpList_mstore rfl _ _ _ rfl rfl _ _ rfl 0 H _ _ rfl (.bool _) rfl (by kernel_rfl) (of_decide_eq_true (by kernel_rfl)) (by kernel_rfl) rfl ?_) | (refine wpList_mstore rfl _ _ _ rfl rfl _ _ rfl 1 H _ _ rfl (.bool _) rfl (by kernel_rfl) (of_decide_eq_true (by kernel_rfl)) (by kernel_rfl) rfl ?_) | (refine wpList_mstore rfl _ _ _ rfl rfl _ _ rfl 0 H _ _ rfl (.pointer _) rfl (by kernel_rfl) (of_decide_eq_true (by kernel_rfl)) (by kernel_rfl) rfl ?_) | (refine wpList_mstore rfl _ _ _ rfl rfl _ _ rfl 1 H _ _ rfl (.pointer _) rfl (by kernel_rfl) (of_decide_eq_true (by kernel_rfl)) (by kernel_rfl) rfl ?_) | (refine wpList_mstore rfl _ _ _ rfl rfl _ _ rfl 0 H _ _ rfl (.string _) rfl (by kernel_rfl) (of_decide_eq_true (by kernel_rfl)) (by kernel_rfl) rfl ?_) | (refine wpList_mstore rfl _ _ _ rfl rfl _ _ rfl 1 H _ _ rfl (.string _) rfl (by kernel_rfl) (of_decide_eq_true (by kernel_rfl)) (by kernel_rfl) rfl ?_) | (refine wpList_mstore rfl _ _ _ rfl rfl _ _ rfl 0 H _ _ rfl (.slice _ _ _) rfl (by kernel_rfl) (of_decide_eq_true (by kernel_rfl)) (by kernel_rfl) rfl ?_) | (refine wpList_mstore rfl _ _ _ rfl rfl _ _ rfl 1 H _ _ rfl (.slice _ _ _) rfl (by kernel_rfl) (of_decide_eq_true (by kernel_rfl)) (by kernel_rfl) rfl ?_)); clear H; intro w1 H; simp only [List.set_cons_zero, List.set_cons_succ, ak_a0, ak_m0, ak_p0] at H)
      | (refine wpList_mnew rfl _ rfl H _ HZA.out ?_; clear H; intro R7 w1 _ H) | fail)
    (try simp only [Act.put, List.setIfInBounds_toArray, List.set_cons_succ, List.set_cons_zero])
    rw [HP.out, HC.out, HO.out] at H
    replace H : Mem w.heap.size [] w w1 [(R7, akC qo), (R3, akC qc)] := H.sub (List.Sublist.cons_cons _ (List.Sublist.cons_cons _ (List.Sublist.cons _ (List.Sublist.refl _))))
    clear HP HC HO QC
    refine wp_region_y ((0, 0, #[]) : Nat × Nat × Array Value) (by kernel_rfl) (by kernel_rfl) [(some 51, fun _ => .agg (akC qc)), (some 52, fun R : Nat × Nat × Array Value => .slice (some ⟨R.1, 0, none⟩) 13 R.2.1), (some 53, fun _ => .agg (akC qo)), (some 54, fun R : Nat × Nat × Array Value => .slice (some ⟨R.1, 0, none⟩) 13 R.2.1), (some 8, fun R : Nat × Nat × Array Value => .slice (some ⟨R.1, 0, none⟩) 13 R.2.1), (some 9, fun R : Nat × Nat × Array Value => .slice (some ⟨R.1, 0, none⟩) 13 R.2.1)] (fun D bq wv => (D 4 = true → bq 4 = bq 1) ∧ (D 5 = true → bq 5 = bq 3) ∧ cond (D 3) (Mem w.heap.size [] w wv (((bq 3).1, (bq 3).2.2) :: ((bq 1).1, (bq 1).2.2) :: [(R7, akC qo), (R3, akC qc)]) ∧ RowC (bq 1).2.2 (bq 1).2.1 (toldQ qc) ∧ RowC (bq 3).2.2 (bq 3).2.1 (toldQ qo)) (cond (D 1) (Mem w.heap.size [] w wv (((bq 1).1, (bq 1).2.2) :: [(R7, akC qo), (R3, akC qc)]) ∧ RowC (bq 1).2.2 (bq 1).2.1 (toldQ qc)) (Mem w.heap.size [] w wv ([(R7, akC qo), (R3, akC qc)])))) 123 (by rfl) (by rfl) (by rfl) ⟨(fun h => by cases h), (fun h => by cases h), H.drew⟩ ⟨⟨rfl, ?p0⟩, ⟨rfl, ?p1⟩, ⟨rfl, ?p2⟩, ⟨rfl, ?p3⟩, ⟨rfl, ?p4⟩, ⟨rfl, ?p5⟩, trivial⟩ ?_
    case p0 =>
      intro D bq a' w' hk hc he hl hW
      (try dsimp only at hW)
      have n1 : D 1 = false := hc.no .data hk rfl (by simp) rfl
      have n3 : D 3 = false := hc.no .chain n1 rfl (by simp) rfl
      have f3 : a'.tmps.getD 3 undef = .pointer (some ⟨R3, 0, none⟩) := (hl 3).trans ((vsy_no rfl).trans rfl)
      have hM := pcond_f n1 (pcond_f n3 hW.2.2)
      exact wp_sloadA _ _ rfl _ f3 1 hM (akC qc) rfl (by kernel_rfl) (by kernel_rfl) ⟨(0, 0, #[]), rfl, hW.1, hW.2.1, hW.2.2⟩
    case p1 =>
      intro D bq a' w' hk hc he hl hW
      (try dsimp only at hW)
      have n3 : D 3 = false := hc.no .chain hk rfl (by simp) rfl
      have n4 : D 4 = false := hc.no .data hk rfl (by simp) rfl
      have e0 : a'.tmps.getD 51 undef = .agg (akC qc) := (hl 51).trans (vsy_at (f := fun _ => .agg (akC qc)) rfl (he ⟨0, .data⟩ (by simp) rfl) rfl)
      have hM := pcond_f hk (pcond_f n3 hW.2.2)
      refine wp_callp (vals := #[.agg (akC qc)]) rfl rfl (by simp only [List.map_toArray, List.map_cons, List.map_nil, Act.eval, e0]) (by kernel_rfl) (QT1.out _) ?_
      rintro e w2 ⟨R, cs, cap, rfl, hC1, hM1⟩
      have hA := Mem.join1 hM hM1
      exact ⟨_, rfl, (R, cap, cs), rfl, (fun h => by rw [show doneB D 1 4 = D 4 from rfl, n4] at h; cases h), hW.2.1, pcond_mk n3 ⟨hA, hC1⟩⟩
    case p2 =>
      intro D bq a' w' hk hc he hl hW
      (try dsimp only at hW)
      have n3 : D 3 = false := hc.no .data hk rfl (by simp) rfl
      have f7 : a'.tmps.getD 7 undef = .pointer (some ⟨R7, 0, none⟩) := (hl 7).trans ((vsy_no rfl).trans rfl)
      have hM := pcondB (pcond_f n3 hW.2.2)
      exact wp_sloadA _ _ rfl _ f7 0 hM (akC qo) rfl (by kernel_rfl) (by kernel_rfl) ⟨(0, 0, #[]), rfl, hW.1, hW.2.1, hW.2.2⟩
    case p3 =>
      intro D bq a' w' hk hc he hl hW
      (try dsimp only at hW)
      have n5 : D 5 = false := hc.no .data hk rfl (by simp) rfl
      have e2 : a'.tmps.getD 53 undef = .agg (akC qo) := (hl 53).trans (vsy_at (f := fun _ => .agg (akC qo)) rfl (he ⟨2, .data⟩ (by simp) rfl) rfl)
      have hx := pcond_t (he ⟨1, .chain⟩ (by simp) rfl) (pcond_f hk hW.2.2)
      refine wp_callp (vals := #[.agg (akC qo)]) rfl rfl (by simp only [List.map_toArray, List.map_cons, List.map_nil, Act.eval, e2]) (by kernel_rfl) (QT2.out _) ?_
      rintro e w2 ⟨R, cs, cap, rfl, hC2, hM2⟩
      have hA := Mem.join1 hx.1 hM2
      exact ⟨_, rfl, (R, cap, cs), rfl, hW.1, (fun h => by rw [show doneB D 3 5 = D 5 from rfl, n5] at h; cases h), ⟨hA, hx.2, hC2⟩⟩
    case p4 =>
      intro D bq a' w' hk hc he hl hW
      (try dsimp only at hW)
      have e1 : a'.tmps.getD 52 undef = .slice (some ⟨(bq 1).1, 0, none⟩) 13 (bq 1).2.1 := (hl 52).trans (vsy_at (f := fun R : Nat × Nat × Array Value => .slice (some ⟨R.1, 0, none⟩) 13 R.2.1) rfl (he ⟨1, .data⟩ (by simp) rfl) rfl)
      exact wp_val (.slice (some ⟨(bq 1).1, 0, none⟩) 13 (bq 1).2.1) (by simp only [execOp, Act.eval, List.map_toArray, List.map_cons, List.map_nil]; rw [e1]; kernel_rfl) ⟨bq 1, rfl, (fun _ => rfl), hW.2.1, hW.2.2⟩
    case p5 =>
      intro D bq a' w' hk hc he hl hW
      (try dsimp only at hW)
      have e3 : a'.tmps.getD 54 undef = .slice (some ⟨(bq 3).1, 0, none⟩) 13 (bq 3).2.1 := (hl 54).trans (vsy_at (f := fun R : Nat × Nat × Array Value => .slice (some ⟨R.1, 0, none⟩) 13 R.2.1) rfl (he ⟨3, .data⟩ (by simp) rfl) rfl)
      exact wp_val (.slice (some ⟨(bq 3).1, 0, none⟩) 13 (bq 3).2.1) (by simp only [execOp, Act.eval, List.map_toArray, List.map_cons, List.map_nil]; rw [e3]; kernel_rfl) ⟨bq 3, rfl, hW.1, (fun _ => rfl), hW.2.2⟩
    intro D bq wv hD hW
    (try dsimp only at hW)
    have e4 := hW.1 (hD 4 (by decide))
    have e5 := hW.2.1 (hD 5 (by decide))
    have hx := pcond_t (hD 3 (by decide)) hW.2.2
    clear H hD hW
    simp only [putAll, vsYf, Nat.reduceAdd, List.foldl_cons, List.foldl_nil, Act.put, List.setIfInBounds_toArray, List.set_cons_succ, List.set_cons_zero]
    rw [e4, e5]
    clear e4 e5
    generalize bq 1 = r1 at *
    generalize bq 3 = r3 at *
    obtain ⟨T1, cap1, cs1⟩ := r1
    obtain ⟨T2, cap2, cs2⟩ := r3
    obtain ⟨H, hC1, hC2⟩ := hx
    dsimp only at H hC1 hC2 ⊢
    replace H := H.sub (l' := [(T2, cs2), (T1, cs1)]) (List.Sublist.cons_cons _ (List.Sublist.cons_cons _ (List.nil_sublist _)))
    clear QT1 QT2
    go_wp2_with fail
    go_loopw [10] (fun i wr => ∃ k : Nat, k ≤ 13 ∧ i = .int .i64 k ∧ Mem w.heap.size [] w wr [(T2, cs2), (T1, cs1)]) (fun i _ => 13 - (intOf i).toNat)
    case atStart => exact ⟨0, Nat.zero_le _, rfl, H⟩
    case round =>
      clear H
      obtain ⟨k, hk, rfl, H⟩ := hrel
      by_cases hlt : k < 13
      · obtain ⟨hra, ⟨fP, fS⟩, fP2⟩ := HE.out k hlt
        obtain ⟨x1, x2, x3, x4, hx⟩ : ∃ v x p s, (toldQ qc).getD k dR = (v, x, p, s) := ⟨_, _, _, _, rfl⟩
        obtain ⟨y1, y2, y3, y4, hy⟩ : ∃ v x p s, (toldQ qo).getD k dR = (v, x, p, s) := ⟨_, _, _, _, rfl⟩
        rw [hx, hy] at hra
        rw [hx] at fP fS
        rw [hy] at fP2
        dsimp only at fP fS fP2
        obtain ⟨e1, e2, e3, e4⟩ := ra_ask hra fP fS fP2
        subst e1 e3
        have hal : alikeB x1 x2 y1 x2 = true := by
          cases x2
          · rw [e2 rfl]; simp [alikeB]
          · rfl
        have KF := fun W => ralike_ct x1 y1 x2 x2 W
        rw [hal] at KF
        have QF := Lib.hid KF
        obtain ⟨g0, g1, g2, g3⟩ := hC1.cell hlt hx
        obtain ⟨k0, k1, k2, k3⟩ := hC2.cell hlt hy
        clear hx hy hra fP fS fP2 e2 hal KF
        have HH := Lib.hid H
        have H1 := Lib.hid hC1
        have H2 := Lib.hid hC2
        clear H hC1 hC2 HE
        go_wp2_with fail
        (refine wp_region_quiet_below (by kernel_rfl) (by kernel_rfl) ?_); (repeat (first | (go_big_quiet_want; refine gate_qload _ _ rfl ?_; refine quiet_mload _ _ rfl _ _ rfl 1 HH.out _ #[.int .u8 x1, .bool x2] rfl (by decide +kernel) (by kernel_rfl) (sub2 g0 g1) ?_; simp only [Act.put, List.setIfInBounds_toArray, List.set_cons_succ, List.set_cons_zero]; go_big_quiet_on) | (go_big_quiet_want; refine gate_qload _ _ rfl ?_; refine quiet_mload _ _ rfl _ _ rfl 0 HH.out _ #[.int .u8 y1, .bool x2] rfl (by decide +kernel) (by kernel_rfl) (sub2 k0 k1) ?_; simp only [Act.put, List.setIfInBounds_toArray, List.set_cons_succ, List.set_cons_zero]; go_big_quiet_on) | (go_big_quiet_want; refine gate_qload _ _ rfl ?_; refine quiet_mload1 _ _ rfl _ _ rfl 1 HH.out _ _ rfl g2 (by decide +kernel) ?_; simp only [Act.put, List.setIfInBounds_toArray, List.set_cons_succ, List.set_cons_zero]; go_big_quiet_on) | (go_big_quiet_want; refine gate_qload _ _ rfl ?_; refine quiet_mload1 _ _ rfl _ _ rfl 1 HH.out _ _ rfl g3 (by decide +kernel) ?_; simp only [Act.put, List.setIfInBounds_toArray, List.set_cons_succ, List.set_cons_zero]; go_big_quiet_on) | (go_big_quiet_want; refine gate_qload _ _ rfl ?_; refine quiet_mload1 _ _ rfl _ _ rfl 0 HH.out _ _ rfl k2 (by decide +kernel) ?_; simp only [Act.put, List.setIfInBounds_toArray, List.set_cons_succ, List.set_cons_zero]; go_big_quiet_on) | (go_big_quiet_want; refine gate_qload _ _ rfl ?_; refine quiet_mload1 _ _ rfl _ _ rfl 0 HH.out _ _ rfl k3 (by decide +kernel) ?_; simp only [Act.put, List.setIfInBounds_toArray, List.set_cons_succ, List.set_cons_zero]; go_big_quiet_on) | go_big_quiet_step ((go_at_call 40; (with_reducible exact Calls.regrown_of (QF.out _)))))); (refine wpQuiet_nil ?_); intro _ hw2; obtain ⟨⟨dq, osq⟩, hw3⟩ := hw2; (subst hw3); have hq := below_regrown wr dq osq; generalize Go.Sort.grow (redrawn wr dq) osq = wq at hq ⊢
        go_wp2
        go_roundw
        case rel => exact ⟨k + 1, by omega, by go_num, HH.out.next hq⟩
        case measure => simp [intOf]; omega
      · obtain rfl : k = 13 := by omega
        go_wp2_with (first
          | (go_at_call 21; (with_reducible refine (QA.out _).mono ?_); rintro e w2 ⟨rfl, hB⟩; replace H := H.next hB; clear hB) | fail)
        go_ret
        exact ⟨rfl, H.toBelow⟩
end Go.Proofs.Ytckfjiacnjjopaa
