/-
  The walk of AluErased. Over this seat's translation; bytes are from 0 to 255. (Written by gen_alu.py.)
-/
import Derived.Test.YtckfjiacnjjopaaAtl
namespace Go.Proofs.Ytckfjiacnjjopaa
open Go.RowKit
set_option linter.unusedSimpArgs false
set_option linter.unusedVariables false
set_option maxRecDepth 20000

theorem Mem.join1 {n : Nat} {X : List Nat} {w0 w w' : World} {l : List (Nat × Array Value)} {R : Nat} {cs : Array Value} (h : Mem n X w0 w l) (h2 : Mem w.heap.size [] w w' [(R, cs)]) : Mem n X w0 w' ((R, cs) :: l) := by
  obtain ⟨T, hT⟩ := h2.get (i := 0) rfl
  refine h.add h2.toBelow ?_ hT
  rcases h2.mine (R, cs) (by simp) with h3 | h3
  · exact h3
  · cases h3
theorem pcondB {n : Nat} {X : List Nat} {w0 w : World} {l : List (Nat × Array Value)} {x : Nat × Array Value} {c : Bool} {r : Prop} (h : cond c (Mem n X w0 w (x :: l) ∧ r) (Mem n X w0 w l)) : Mem n X w0 w l := by
  cases c
  · exact h
  · exact h.1.sub (List.Sublist.cons _ (List.Sublist.refl _))
section
variable {q : Ak}
theorem ak_s0 (z : Int) : (splice (akC q).toList 1 (Value.cells (.int .u8 z)).toList).toArray = akC { q with s := z } := rfl
theorem ak_p0 (z : Int) : (splice (akC q).toList 0 (Value.cells (.int .u8 z)).toList).toArray = akC { q with p := z } := rfl
theorem ak_a0 (z : Int) : (splice (akC q).toList 2 (Value.cells (.int .u8 z)).toList).toArray = akC { q with a := z } := rfl
theorem ak_x0 (z : Bool) : (splice (akC q).toList 3 (Value.cells (.bool z)).toList).toArray = akC { q with x := z } := rfl
theorem ak_m0 (z : Int) : (splice (akC q).toList 4 (Value.cells (.int .u8 z)).toList).toArray = akC { q with m := z } := rfl
theorem ak_y0 (z : Bool) : (splice (akC q).toList 5 (Value.cells (.bool z)).toList).toArray = akC { q with y := z } := rfl
theorem ak_f0 (p s : Int) : (splice (akC q).toList 0 (Value.cells (.agg #[.int .u8 p, .int .u8 s])).toList).toArray = akC { q with p := p, s := s } := rfl
end
theorem alloc_ask (w : World) : (Instr.alloc 27 true (.tuple #[])).run Try.prog w = .ok (.pointer (some ⟨w.heap.size, 0, none⟩)) (w.alloc (.cells (akC ⟨0, 0, 0, false, 0, false, 0, false⟩) 27)) := by kernel_rfl
theorem run_alloc_ask (o : Oper) (h : o.op = .alloc 27) (ρ : Operand → Value) (w : World) : (execOp ρ o).run Try.prog w = .ok (.value (ptrTo w.heap.size)) (w.alloc (.cells (akC ⟨0, 0, 0, false, 0, false, 0, false⟩) 27)) := by
  unfold execOp
  rw [h]
  kernel_rfl
/-- A row's cell of result k. -/
theorem RowC.cell {cs : Array Value} {cap : Nat} {L : List Res} (h : RowC cs cap L) {k : Nat} (hk : k < L.length) {v : Int} {x : Bool} {p s : Int} (he : L.getD k dR = (v, x, p, s)) :
    cs[k * 4]? = some (.int .u8 v) ∧ cs[k * 4 + 1]? = some (.bool x) ∧ cs[k * 4 + 2]? = some (.int .u8 p) ∧ cs[k * 4 + 3]? = some (.int .u8 s) := by
  have g := flatRes_get L k hk
  rw [he] at g
  refine ⟨?_, ?_, ?_, ?_⟩
  · have := g 0 (by decide); rw [Nat.add_zero] at this; exact h.at_ _ _ this
  · exact h.at_ _ _ (g 1 (by decide))
  · exact h.at_ _ _ (g 2 (by decide))
  · exact h.at_ _ _ (g 3 (by decide))
set_option maxHeartbeats 8000000 in
theorem aerased_walk (q : Ak) (ok : AkOk q) (w : World) : Calls Try.prog 7 #[.agg (akC q)] w fun e w' => e = .returned (.bool true) ∧ Below w.heap.size w w' := by
  obtain ⟨qo, hqo⟩ : ∃ qo : Ak, ({ ({ ({ q with x := false } : Ak) with y := false } : Ak) with s := 0 } : Ak) = qo := ⟨_, rfl⟩
  have oko : AkOk qo := by rw [← hqo]; exact ⟨ok.p0, ok.p1, (show (0 : Int) ≤ 0 by decide), (show (0 : Int) < 256 by decide), ok.a0, ok.a1, ok.m0, ok.m1, ok.b0, ok.b1⟩
  have hE : ∀ i, i < 13 → ((toldQ q).getD i dR).1 = ((toldQ qo).getD i dR).1 ∧ ((toldQ q).getD i dR).2.2.1 = ((toldQ qo).getD i dR).2.2.1 ∧ ((toldQ qo).getD i dR).2.1 = false ∧ ((toldQ qo).getD i dR).2.2.2 = 0 := fun i hi => by
    rw [← hqo]
    exact told_erased i hi
  have QT1 := Lib.hid (fun wr => told_ct q ok wr)
  have QT2 := Lib.hid (fun wr => told_ct qo oko wr)
  have QA := Lib.hid (fun wr => aawake_ct wr)
  have HZA := Lib.hid alloc_ask
  have HE := Lib.hid hE
  have HQ := Lib.hid hqo
  clear hE oko ok hqo
  have H := Mem.start w
  go_enter Try.func7, Try.ntmps7
  go_wp2_with (first
    | (refine wpList_mboxA rfl _ _ rfl H _ rfl ?_; clear H; intro R1 w1 _ H)
    | go_skip | (refine wpList_mboxA rfl _ _ rfl H _ rfl ?_; clear H; intro _ w1 _ H) | (refine gate_load _ _ rfl ?_; first | (refine wpList_mloadA rfl _ _ rfl _ rfl 0 H _ rfl (by decide +kernel) (by kernel_rfl) ?_) | (refine wpList_mloadA rfl _ _ rfl _ rfl 1 H _ rfl (by decide +kernel) (by kernel_rfl) ?_) | (refine wpList_mload1 rfl _ _ rfl _ _ rfl 0 H _ (.int _ _) rfl rfl (by decide +kernel) ?_) | (refine wpList_mload1 rfl _ _ rfl _ _ rfl 1 H _ (.int _ _) rfl rfl (by decide +kernel) ?_) | (refine wpList_mload1 rfl _ _ rfl _ _ rfl 0 H _ (.bool _) rfl rfl (by decide +kernel) ?_) | (refine wpList_mload1 rfl _ _ rfl _ _ rfl 1 H _ (.bool _) rfl rfl (by decide +kernel) ?_) | (refine wpList_mload1 rfl _ _ rfl _ _ rfl 0 H _ (.pointer _) rfl rfl (by decide +kernel) ?_) | (refine wpList_mload1 rfl _ _ rfl _ _ rfl 1 H _ (.pointer _) rfl rfl (by decide +kernel) ?_) | (refine wpList_mload1 rfl _ _ rfl _ _ rfl 0 H _ (.string _) rfl rfl (by decide +kernel) ?_) | (refine wpList_mload1 rfl _ _ rfl _ _ rfl 1 H _ (.string _) rfl rfl (by decide +kernel) ?_) | (refine wpList_mload1 rfl _ _ rfl _ _ rfl 0 H _ (.slice _ _ _) rfl rfl (by decide +kernel) ?_) | (refine wpList_mload1 rfl _ _ rfl _ _ rfl 1 H _ (.slice _ _ _) rfl rfl (by decide +kernel) ?_)) | (refine gate_store _ _ _ rfl ?_; (first | (refine wpList_mstoreA rfl _ _ _ rfl rfl _ rfl 0 H _ _ rfl rfl (by kernel_rfl) (by kernel_rfl) (by kernel_rfl) ?_) | (refine wpList_mstoreA rfl _ _ _ rfl rfl _ rfl 1 H _ _ rfl rfl (by kernel_rfl) (by kernel_rfl) (by kernel_rfl) ?_) | (refine wpList_mstore rfl _ _ _ rfl rfl _ _ rfl 0 H _ _ rfl (.int _ _) rfl (by kernel_rfl) (of_decide_eq_true (by kernel_rfl)) (by kernel_rfl) rfl ?_) | (refine wpList_mstore rfl _ _ _ rfl rfl _ _ rfl 1 H _ _ rfl (.int _ _) rfl (by kernel_rfl) (of_decide_eq_true (by kernel_rfl)) (by kernel_rfl) rfl ?_) | (refine wpList_mstore rfl _ _ _ rfl rfl _ _ rfl 0 H _ _ rfl (.bool _) rfl (by kernel_rfl) (of_decide_eq_true (by kernel_rfl)) (by kernel_rfl) rfl ?_) | (refine wpList_mstore rfl _ _ _ rfl rfl _ _ rfl 1 H _ _ rfl (.bool _) rfl (by kernel_rfl) (of_decide_eq_true (by kernel_rfl)) (by kernel_rfl) rfl ?_) | (refine wpList_mstore rfl _ _ _ rfl rfl _ _ rfl 0 H _ _ rfl (.pointer _) rfl (by kernel_rfl) (of_decide_eq_true (by kernel_rfl)) (by kernel_rfl) rfl ?_) | (refine wpList_mstore rfl _ _ _ rfl rfl _ _ rfl 1 H _ _ rfl (.pointer _) rfl (by kernel_rfl) (of_decide_eq_true (by kernel_rfl)) (by kernel_rfl) rfl ?_) | (refine wpList_mstore rfl _ _ _ rfl rfl _ _ rfl 0 H _ _ rfl (.string _) rfl (by kernel_rfl) (of_decide_eq_true (by kernel_rfl)) (by kernel_rfl) rfl ?_) | (refine wpList_mstore rfl _ _ _ rfl rfl _ _ rfl 1 H _ _ rfl (.string _) rfl (by kernel_rfl) (of_decide_eq_true (by kernel_rfl)) (by kernel_rfl) rfl ?_) | (refine wpList_mstore rfl _ _ _ rfl rfl _ _ rfl 0 H _ _ rfl (.slice _ _ _) rfl (by kernel_rfl) (of_decide_eq_true (by kernel_rfl)) (by kernel_rfl) rfl ?_) | (refine wpList_mstore rfl _ _ _ rfl rfl _ _ rfl 1 H _ _ rfl (.slice _ _ _) rfl (by kernel_rfl) (of_decide_eq_true (by kernel_rfl)) (by kernel_rfl) rfl ?_)); clear H; intro w1 H; simp only [List.set_cons_zero, List.set_cons_succ, ak_x0, ak_y0, ak_s0] at H)
    | (refine wpList_mnew rfl _ rfl H _ HZA.out ?_; clear H; intro R2 w1 _ H) | fail)
  (try simp only [Act.put, List.setIfInBounds_toArray, List.set_cons_succ, List.set_cons_zero])
  rw [HQ.out] at H
  clear HQ
  replace H : Mem w.heap.size [] w w1 [(R2, akC qo), (R1, akC q)] := H
  refine wp_region_y ((0, 0, #[]) : Nat × Nat × Array Value) (by kernel_rfl) (by kernel_rfl) [(some 14, fun _ => .agg (akC q)), (some 15, fun R : Nat × Nat × Array Value => .slice (some ⟨R.1, 0, none⟩) 13 R.2.1), (some 16, fun _ => .agg (akC qo)), (some 17, fun R : Nat × Nat × Array Value => .slice (some ⟨R.1, 0, none⟩) 13 R.2.1), (some 4, fun R : Nat × Nat × Array Value => .slice (some ⟨R.1, 0, none⟩) 13 R.2.1), (some 5, fun R : Nat × Nat × Array Value => .slice (some ⟨R.1, 0, none⟩) 13 R.2.1)] (fun D bq wv => (D 4 = true → bq 4 = bq 1) ∧ (D 5 = true → bq 5 = bq 3) ∧ cond (D 3) (Mem w.heap.size [] w wv (((bq 3).1, (bq 3).2.2) :: ((bq 1).1, (bq 1).2.2) :: [(R2, akC qo), (R1, akC q)]) ∧ RowC (bq 1).2.2 (bq 1).2.1 (toldQ q) ∧ RowC (bq 3).2.2 (bq 3).2.1 (toldQ qo)) (cond (D 1) (Mem w.heap.size [] w wv (((bq 1).1, (bq 1).2.2) :: [(R2, akC qo), (R1, akC q)]) ∧ RowC (bq 1).2.2 (bq 1).2.1 (toldQ q)) (Mem w.heap.size [] w wv ([(R2, akC qo), (R1, akC q)])))) 75 (by rfl) (by rfl) (by rfl) ⟨(fun h => by cases h), (fun h => by cases h), H.drew⟩ ⟨⟨rfl, ?p0⟩, ⟨rfl, ?p1⟩, ⟨rfl, ?p2⟩, ⟨rfl, ?p3⟩, ⟨rfl, ?p4⟩, ⟨rfl, ?p5⟩, trivial⟩ ?_
  case p0 =>
    intro D bq a' w' hk hc he hl hW
    (try dsimp only at hW)
    have n1 : D 1 = false := hc.no .data hk rfl (by simp) rfl
    have n3 : D 3 = false := hc.no .chain n1 rfl (by simp) rfl
    have f1 : a'.tmps.getD 1 undef = .pointer (some ⟨R1, 0, none⟩) := (hl 1).trans ((vsy_no rfl).trans rfl)
    have hM := pcond_f n1 (pcond_f n3 hW.2.2)
    exact wp_sloadA _ _ rfl _ f1 1 hM (akC q) rfl (by kernel_rfl) (by kernel_rfl) ⟨(0, 0, #[]), rfl, hW.1, hW.2.1, hW.2.2⟩
  case p1 =>
    intro D bq a' w' hk hc he hl hW
    (try dsimp only at hW)
    have n3 : D 3 = false := hc.no .chain hk rfl (by simp) rfl
    have n4 : D 4 = false := hc.no .data hk rfl (by simp) rfl
    have e0 : a'.tmps.getD 14 undef = .agg (akC q) := (hl 14).trans (vsy_at (f := fun _ => .agg (akC q)) rfl (he ⟨0, .data⟩ (by simp) rfl) rfl)
    have hM := pcond_f hk (pcond_f n3 hW.2.2)
    refine wp_callp (vals := #[.agg (akC q)]) rfl rfl (by simp only [List.map_toArray, List.map_cons, List.map_nil, Act.eval, e0]) (by kernel_rfl) (QT1.out _) ?_
    rintro e w2 ⟨R, cs, cap, rfl, hC1, hM1⟩
    have hA := Mem.join1 hM hM1
    exact ⟨_, rfl, (R, cap, cs), rfl, (fun h => by rw [show doneB D 1 4 = D 4 from rfl, n4] at h; cases h), hW.2.1, pcond_mk n3 ⟨hA, hC1⟩⟩
  case p2 =>
    intro D bq a' w' hk hc he hl hW
    (try dsimp only at hW)
    have n3 : D 3 = false := hc.no .data hk rfl (by simp) rfl
    have f3 : a'.tmps.getD 3 undef = .pointer (some ⟨R2, 0, none⟩) := (hl 3).trans ((vsy_no rfl).trans rfl)
    have hM := pcondB (pcond_f n3 hW.2.2)
    exact wp_sloadA _ _ rfl _ f3 0 hM (akC qo) rfl (by kernel_rfl) (by kernel_rfl) ⟨(0, 0, #[]), rfl, hW.1, hW.2.1, hW.2.2⟩
  case p3 =>
    intro D bq a' w' hk hc he hl hW
    (try dsimp only at hW)
    have n5 : D 5 = false := hc.no .data hk rfl (by simp) rfl
    have e2 : a'.tmps.getD 16 undef = .agg (akC qo) := (hl 16).trans (vsy_at (f := fun _ => .agg (akC qo)) rfl (he ⟨2, .data⟩ (by simp) rfl) rfl)
    have hx := pcond_t (he ⟨1, .chain⟩ (by simp) rfl) (pcond_f hk hW.2.2)
    refine wp_callp (vals := #[.agg (akC qo)]) rfl rfl (by simp only [List.map_toArray, List.map_cons, List.map_nil, Act.eval, e2]) (by kernel_rfl) (QT2.out _) ?_
    rintro e w2 ⟨R, cs, cap, rfl, hC2, hM2⟩
    have hA := Mem.join1 hx.1 hM2
    exact ⟨_, rfl, (R, cap, cs), rfl, hW.1, (fun h => by rw [show doneB D 3 5 = D 5 from rfl, n5] at h; cases h), ⟨hA, hx.2, hC2⟩⟩
  case p4 =>
    intro D bq a' w' hk hc he hl hW
    (try dsimp only at hW)
    have e1 : a'.tmps.getD 15 undef = .slice (some ⟨(bq 1).1, 0, none⟩) 13 (bq 1).2.1 := (hl 15).trans (vsy_at (f := fun R : Nat × Nat × Array Value => .slice (some ⟨R.1, 0, none⟩) 13 R.2.1) rfl (he ⟨1, .data⟩ (by simp) rfl) rfl)
    exact wp_val (.slice (some ⟨(bq 1).1, 0, none⟩) 13 (bq 1).2.1) (by simp only [execOp, Act.eval, List.map_toArray, List.map_cons, List.map_nil]; rw [e1]; kernel_rfl) ⟨bq 1, rfl, (fun _ => rfl), hW.2.1, hW.2.2⟩
  case p5 =>
    intro D bq a' w' hk hc he hl hW
    (try dsimp only at hW)
    have e3 : a'.tmps.getD 17 undef = .slice (some ⟨(bq 3).1, 0, none⟩) 13 (bq 3).2.1 := (hl 17).trans (vsy_at (f := fun R : Nat × Nat × Array Value => .slice (some ⟨R.1, 0, none⟩) 13 R.2.1) rfl (he ⟨3, .data⟩ (by simp) rfl) rfl)
    exact wp_val (.slice (some ⟨(bq 3).1, 0, none⟩) 13 (bq 3).2.1) (by simp only [execOp, Act.eval, List.map_toArray, List.map_cons, List.map_nil]; rw [e3]; kernel_rfl) ⟨bq 3, rfl, hW.1, (fun _ => rfl), hW.2.2⟩
  intro D bq wv hD hW
  (try dsimp only at hW)
  have e4 := hW.1 (hD 4 (by decide))
  have e5 := hW.2.1 (hD 5 (by decide))
  have hx := pcond_t (hD 3 (by decide)) hW.2.2
  clear H hD hW
  simp only [putAll, vsYf, Nat.reduceAdd, List.foldl_cons, List.foldl_nil, Act.put, List.setIfInBounds_toArray, List.set_cons_succ, List.set_cons_zero]
  rw [e4, e5]
  clear e4 e5
  generalize bq 1 = r1 at *
  generalize bq 3 = r3 at *
  obtain ⟨T1, cap1, cs1⟩ := r1
  obtain ⟨T2, cap2, cs2⟩ := r3
  obtain ⟨H, hC1, hC2⟩ := hx
  dsimp only at H hC1 hC2 ⊢
  replace H := H.sub (l' := [(T2, cs2), (T1, cs1)]) (List.Sublist.cons_cons _ (List.Sublist.cons_cons _ (List.nil_sublist _)))
  clear QT1 QT2
  go_wp2_with fail
  go_loopw [6] (fun i wr => ∃ k : Nat, k ≤ 13 ∧ i = .int .i64 k ∧ Mem w.heap.size [] w wr [(T2, cs2), (T1, cs1)]) (fun i _ => 13 - (intOf i).toNat)
  case atStart => exact ⟨0, Nat.zero_le _, rfl, H⟩
  case round =>
    clear H
    obtain ⟨k, hk, rfl, H⟩ := hrel
    by_cases hlt : k < 13
    · obtain ⟨e1, e2, e3, e4⟩ := HE.out k hlt
      obtain ⟨x1, x2, x3, x4, hx⟩ : ∃ v x p s, (toldQ q).getD k dR = (v, x, p, s) := ⟨_, _, _, _, rfl⟩
      obtain ⟨y1, y2, y3, y4, hy⟩ : ∃ v x p s, (toldQ qo).getD k dR = (v, x, p, s) := ⟨_, _, _, _, rfl⟩
      rw [hx, hy] at e1 e2
      rw [hy] at e3 e4
      dsimp only at e1 e2 e3 e4
      subst e1 e2 e3 e4
      obtain ⟨g0, g1, g2, g3⟩ := hC1.cell hlt hx
      obtain ⟨k0, k1, k2, k3⟩ := hC2.cell hlt hy
      clear hx hy g1 g3
      have HH := Lib.hid H
      have H1 := Lib.hid hC1
      have H2 := Lib.hid hC2
      clear H hC1 hC2 HE
      go_wp2_with fail
      (refine wp_region_quiet_below (by kernel_rfl) (by kernel_rfl) ?_); (repeat (first | (go_big_quiet_want; refine gate_qload _ _ rfl ?_; refine quiet_mload1 _ _ rfl _ _ rfl 1 HH.out _ _ rfl g0 (by decide +kernel) ?_; simp only [Act.put, List.setIfInBounds_toArray, List.set_cons_succ, List.set_cons_zero]; go_big_quiet_on) | (go_big_quiet_want; refine gate_qload _ _ rfl ?_; refine quiet_mload1 _ _ rfl _ _ rfl 1 HH.out _ _ rfl g2 (by decide +kernel) ?_; simp only [Act.put, List.setIfInBounds_toArray, List.set_cons_succ, List.set_cons_zero]; go_big_quiet_on) | (go_big_quiet_want; refine gate_qload _ _ rfl ?_; refine quiet_mload1 _ _ rfl _ _ rfl 0 HH.out _ _ rfl k0 (by decide +kernel) ?_; simp only [Act.put, List.setIfInBounds_toArray, List.set_cons_succ, List.set_cons_zero]; go_big_quiet_on) | (go_big_quiet_want; refine gate_qload _ _ rfl ?_; refine quiet_mload1 _ _ rfl _ _ rfl 0 HH.out _ _ rfl k1 (by decide +kernel) ?_; simp only [Act.put, List.setIfInBounds_toArray, List.set_cons_succ, List.set_cons_zero]; go_big_quiet_on) | (go_big_quiet_want; refine gate_qload _ _ rfl ?_; refine quiet_mload1 _ _ rfl _ _ rfl 0 HH.out _ _ rfl k2 (by decide +kernel) ?_; simp only [Act.put, List.setIfInBounds_toArray, List.set_cons_succ, List.set_cons_zero]; go_big_quiet_on) | (go_big_quiet_want; refine gate_qload _ _ rfl ?_; refine quiet_mload1 _ _ rfl _ _ rfl 0 HH.out _ _ rfl k3 (by decide +kernel) ?_; simp only [Act.put, List.setIfInBounds_toArray, List.set_cons_succ, List.set_cons_zero]; go_big_quiet_on) | go_big_quiet_step (fail))); (refine wpQuiet_nil ?_); intro _ hw2; obtain ⟨⟨dq, osq⟩, hw3⟩ := hw2; (subst hw3); have hq := below_regrown wr dq osq; generalize Go.Sort.grow (redrawn wr dq) osq = wq at hq ⊢
      go_wp2
      go_roundw
      case rel => exact ⟨k + 1, by omega, by go_num, HH.out.next hq⟩
      case measure => simp [intOf]; omega
    · obtain rfl : k = 13 := by omega
      go_wp2_with (first
        | (go_at_call 21; (with_reducible refine (QA.out _).mono ?_); rintro e w2 ⟨rfl, hB⟩; replace H := H.next hB; clear hB) | fail)
      go_ret
      exact ⟨rfl, H.toBelow⟩
end Go.Proofs.Ytckfjiacnjjopaa
