/-
  Layer 8's told: thirteen results in a row. Over this seat's translation; bytes are from 0 to 255. (Written by gen_alu.py.)
-/
import Derived.Test.YtckfjiacnjjopaaAaw
import Derived.Test.YtckfjiacnjjopaaAtk
import Derived.Test.YtckfjiacnjjopaaRgy
namespace Go.Proofs.Ytckfjiacnjjopaa
open Go.RowKit
set_option linter.unusedSimpArgs false
set_option linter.unusedVariables false
set_option maxRecDepth 20000

def toldQ (q : Ak) : List Res := toldL q.p q.s q.a q.x q.m q.y q.b q.k
/-- What told hands back: a row of these results. -/
def ToldP (L : List Res) (w : World) (e : Ending) (w' : World) : Prop := ∃ R cs cap, e = .returned (.slice (some ⟨R, 0, none⟩) 13 cap) ∧ RowC cs cap L ∧ Mem w.heap.size [] w w' [(R, cs)]
set_option maxHeartbeats 16000000 in
theorem told_ct (q : Ak) (ok : AkOk q) (w : World) : Calls Try.prog 39 #[.agg (akC q)] w (ToldP (toldQ q) w) := by
  have Q1 := Lib.hid (fun wr => aadc_ct q.p q.s q.a q.x q.m q.y wr ok.p0 ok.p1 ok.s0 ok.s1 ok.a0 ok.a1 ok.m0 ok.m1)
  have Q2 := Lib.hid (fun wr => asbc_ct q.p q.s q.a q.x q.m q.y wr ok.p0 ok.p1 ok.s0 ok.s1 ok.a0 ok.a1 ok.m0 ok.m1)
  have Q3 := Lib.hid (fun wr => asbx_ct q.p q.s q.a q.x q.m q.y wr ok.p0 ok.p1 ok.s0 ok.s1 ok.a0 ok.a1 ok.m0 ok.m1)
  have Q4 := Lib.hid (fun wr => aasl_ct q.p q.s q.a q.x wr ok.p0 ok.p1 ok.s0 ok.s1 ok.a0 ok.a1)
  have Q5 := Lib.hid (fun wr => alsr_ct q.p q.s q.a q.x wr ok.p0 ok.p1 ok.s0 ok.s1 ok.a0 ok.a1)
  have Q6 := Lib.hid (fun wr => arol_ct q.p q.s q.a q.x wr ok.p0 ok.p1 ok.s0 ok.s1 ok.a0 ok.a1)
  have Q7 := Lib.hid (fun wr => aror_ct q.p q.s q.a q.x wr ok.p0 ok.p1 ok.s0 ok.s1 ok.a0 ok.a1)
  have Q8 := Lib.hid (fun wr => aarr_ct q.p q.s q.a q.x q.m q.y wr ok.p0 ok.p1 ok.s0 ok.s1 ok.a0 ok.a1 ok.m0 ok.m1)
  have HZF := Lib.hid alloc_fl
  have HZB := Lib.hid alloc_by
  have H := Mem.start w
  obtain ⟨p0, p1, s0, s1, a0, a1, m0, m1, b0, b1⟩ := ok
  go_enter Try.func39, Try.ntmps39
  go_wp2_with (first
    | (go_at_call 22; (with_reducible refine (Q1.out _).mono ?_); rintro e w2 ⟨rfl, hB⟩; replace H := H.next hB; clear hB)
    | (go_at_call 24; (with_reducible refine (Q2.out _).mono ?_); rintro e w2 ⟨rfl, hB⟩; replace H := H.next hB; clear hB)
    | (go_at_call 26; (with_reducible refine (Q3.out _).mono ?_); rintro e w2 ⟨rfl, hB⟩; replace H := H.next hB; clear hB)
    | (go_at_call 31; (with_reducible refine (Q4.out _).mono ?_); rintro e w2 ⟨rfl, hB⟩; replace H := H.next hB; clear hB)
    | (go_at_call 33; (with_reducible refine (Q5.out _).mono ?_); rintro e w2 ⟨rfl, hB⟩; replace H := H.next hB; clear hB)
    | (go_at_call 35; (with_reducible refine (Q6.out _).mono ?_); rintro e w2 ⟨rfl, hB⟩; replace H := H.next hB; clear hB)
    | (go_at_call 36; (with_reducible refine (Q7.out _).mono ?_); rintro e w2 ⟨rfl, hB⟩; replace H := H.next hB; clear hB)
    | (go_at_call 37; (with_reducible refine (Q8.out _).mono ?_); rintro e w2 ⟨rfl, hB⟩; replace H := H.next hB; clear hB)
    | go_skip | (refine gate_load _ _ rfl ?_; first | (refine wpList_mload rfl _ _ rfl _ _ rfl 0 H _ (#[.int .u8 q.p, .int .u8 q.s]) rfl (by decide +kernel) (by kernel_rfl) (ak_f q) ?_) | (refine wpList_mload rfl _ _ rfl _ _ rfl 1 H _ (#[.int .u8 q.p, .int .u8 q.s]) rfl (by decide +kernel) (by kernel_rfl) (ak_f q) ?_) | (refine wpList_mload rfl _ _ rfl _ _ rfl 2 H _ (#[.int .u8 q.p, .int .u8 q.s]) rfl (by decide +kernel) (by kernel_rfl) (ak_f q) ?_) | (refine wpList_mload rfl _ _ rfl _ _ rfl 3 H _ (#[.int .u8 q.p, .int .u8 q.s]) rfl (by decide +kernel) (by kernel_rfl) (ak_f q) ?_) | (refine wpList_mload rfl _ _ rfl _ _ rfl 4 H _ (#[.int .u8 q.p, .int .u8 q.s]) rfl (by decide +kernel) (by kernel_rfl) (ak_f q) ?_))
    | go_skip | (refine gate_load _ _ rfl ?_; first | (refine wpList_mload rfl _ _ rfl _ _ rfl 0 H _ (#[.int .u8 q.a, .bool q.x]) rfl (by decide +kernel) (by kernel_rfl) (ak_a q) ?_) | (refine wpList_mload rfl _ _ rfl _ _ rfl 1 H _ (#[.int .u8 q.a, .bool q.x]) rfl (by decide +kernel) (by kernel_rfl) (ak_a q) ?_) | (refine wpList_mload rfl _ _ rfl _ _ rfl 2 H _ (#[.int .u8 q.a, .bool q.x]) rfl (by decide +kernel) (by kernel_rfl) (ak_a q) ?_) | (refine wpList_mload rfl _ _ rfl _ _ rfl 3 H _ (#[.int .u8 q.a, .bool q.x]) rfl (by decide +kernel) (by kernel_rfl) (ak_a q) ?_) | (refine wpList_mload rfl _ _ rfl _ _ rfl 4 H _ (#[.int .u8 q.a, .bool q.x]) rfl (by decide +kernel) (by kernel_rfl) (ak_a q) ?_))
    | go_skip | (refine gate_load _ _ rfl ?_; first | (refine wpList_mload rfl _ _ rfl _ _ rfl 0 H _ (#[.int .u8 q.m, .bool q.y]) rfl (by decide +kernel) (by kernel_rfl) (ak_m q) ?_) | (refine wpList_mload rfl _ _ rfl _ _ rfl 1 H _ (#[.int .u8 q.m, .bool q.y]) rfl (by decide +kernel) (by kernel_rfl) (ak_m q) ?_) | (refine wpList_mload rfl _ _ rfl _ _ rfl 2 H _ (#[.int .u8 q.m, .bool q.y]) rfl (by decide +kernel) (by kernel_rfl) (ak_m q) ?_) | (refine wpList_mload rfl _ _ rfl _ _ rfl 3 H _ (#[.int .u8 q.m, .bool q.y]) rfl (by decide +kernel) (by kernel_rfl) (ak_m q) ?_) | (refine wpList_mload rfl _ _ rfl _ _ rfl 4 H _ (#[.int .u8 q.m, .bool q.y]) rfl (by decide +kernel) (by kernel_rfl) (ak_m q) ?_))
    | (refine wpList_mrow rfl _ _ _ rfl H _ (by simp only [List.map_toArray, List.map_cons, List.map_nil, Act.eval]; rfl) _ _ (build_rs1 _ _ _ _) ?_; clear H; intro Rr w1 H)
    | (refine wpList_mapp0 rfl _ _ rfl _ _ _ _ H rfl rfl ?_; clear H; intro Ro cs cap w1 H hC)
    | (refine wpList_mapp rfl _ _ rfl _ _ _ _ _ _ _ hC H rfl rfl rfl (by decide) _ rfl ?_; clear H hC; intro Ro cs cap w1 H hC)
    | (refine wpList_mboxA rfl _ _ rfl H _ rfl ?_; clear H; intro Rq w1 _ H)
    | go_skip | (refine wpList_mboxA rfl _ _ rfl H _ rfl ?_; clear H; intro _ w1 _ H) | (refine gate_load _ _ rfl ?_; first | (refine wpList_mloadA rfl _ _ rfl _ rfl 0 H _ rfl (by decide +kernel) (by kernel_rfl) ?_) | (refine wpList_mloadA rfl _ _ rfl _ rfl 1 H _ rfl (by decide +kernel) (by kernel_rfl) ?_) | (refine wpList_mloadA rfl _ _ rfl _ rfl 2 H _ rfl (by decide +kernel) (by kernel_rfl) ?_) | (refine wpList_mloadA rfl _ _ rfl _ rfl 3 H _ rfl (by decide +kernel) (by kernel_rfl) ?_) | (refine wpList_mloadA rfl _ _ rfl _ rfl 4 H _ rfl (by decide +kernel) (by kernel_rfl) ?_) | (refine wpList_mload1 rfl _ _ rfl _ _ rfl 0 H _ (.int _ _) rfl rfl (by decide +kernel) ?_) | (refine wpList_mload1 rfl _ _ rfl _ _ rfl 1 H _ (.int _ _) rfl rfl (by decide +kernel) ?_) | (refine wpList_mload1 rfl _ _ rfl _ _ rfl 2 H _ (.int _ _) rfl rfl (by decide +kernel) ?_) | (refine wpList_mload1 rfl _ _ rfl _ _ rfl 3 H _ (.int _ _) rfl rfl (by decide +kernel) ?_) | (refine wpList_mload1 rfl _ _ rfl _ _ rfl 4 H _ (.int _ _) rfl rfl (by decide +kernel) ?_) | (refine wpList_mload1 rfl _ _ rfl _ _ rfl 0 H _ (.bool _) rfl rfl (by decide +kernel) ?_) | (refine wpList_mload1 rfl _ _ rfl _ _ rfl 1 H _ (.bool _) rfl rfl (by decide +kernel) ?_) | (refine wpList_mload1 rfl _ _ rfl _ _ rfl 2 H _ (.bool _) rfl rfl (by decide +kernel) ?_) | (refine wpList_mload1 rfl _ _ rfl _ _ rfl 3 H _ (.bool _) rfl rfl (by decide +kernel) ?_) | (refine wpList_mload1 rfl _ _ rfl _ _ rfl 4 H _ (.bool _) rfl rfl (by decide +kernel) ?_) | (refine wpList_mload1 rfl _ _ rfl _ _ rfl 0 H _ (.pointer _) rfl rfl (by decide +kernel) ?_) | (refine wpList_mload1 rfl _ _ rfl _ _ rfl 1 H _ (.pointer _) rfl rfl (by decide +kernel) ?_) | (refine wpList_mload1 rfl _ _ rfl _ _ rfl 2 H _ (.pointer _) rfl rfl (by decide +kernel) ?_) | (refine wpList_mload1 rfl _ _ rfl _ _ rfl 3 H _ (.pointer _) rfl rfl (by decide +kernel) ?_) | (refine wpList_mload1 rfl _ _ rfl _ _ rfl 4 H _ (.pointer _) rfl rfl (by decide +kernel) ?_) | (refine wpList_mload1 rfl _ _ rfl _ _ rfl 0 H _ (.string _) rfl rfl (by decide +kernel) ?_) | (refine wpList_mload1 rfl _ _ rfl _ _ rfl 1 H _ (.string _) rfl rfl (by decide +kernel) ?_) | (refine wpList_mload1 rfl _ _ rfl _ _ rfl 2 H _ (.string _) rfl rfl (by decide +kernel) ?_) | (refine wpList_mload1 rfl _ _ rfl _ _ rfl 3 H _ (.string _) rfl rfl (by decide +kernel) ?_) | (refine wpList_mload1 rfl _ _ rfl _ _ rfl 4 H _ (.string _) rfl rfl (by decide +kernel) ?_) | (refine wpList_mload1 rfl _ _ rfl _ _ rfl 0 H _ (.slice _ _ _) rfl rfl (by decide +kernel) ?_) | (refine wpList_mload1 rfl _ _ rfl _ _ rfl 1 H _ (.slice _ _ _) rfl rfl (by decide +kernel) ?_) | (refine wpList_mload1 rfl _ _ rfl _ _ rfl 2 H _ (.slice _ _ _) rfl rfl (by decide +kernel) ?_) | (refine wpList_mload1 rfl _ _ rfl _ _ rfl 3 H _ (.slice _ _ _) rfl rfl (by decide +kernel) ?_) | (refine wpList_mload1 rfl _ _ rfl _ _ rfl 4 H _ (.slice _ _ _) rfl rfl (by decide +kernel) ?_)) | (refine gate_store _ _ _ rfl ?_; (first | (refine wpList_mstoreA rfl _ _ _ rfl rfl _ rfl 0 H _ _ rfl rfl (by kernel_rfl) (by kernel_rfl) (by kernel_rfl) ?_) | (refine wpList_mstoreA rfl _ _ _ rfl rfl _ rfl 1 H _ _ rfl rfl (by kernel_rfl) (by kernel_rfl) (by kernel_rfl) ?_) | (refine wpList_mstoreA rfl _ _ _ rfl rfl _ rfl 2 H _ _ rfl rfl (by kernel_rfl) (by kernel_rfl) (by kernel_rfl) ?_) | (refine wpList_mstoreA rfl _ _ _ rfl rfl _ rfl 3 H _ _ rfl rfl (by kernel_rfl) (by kernel_rfl) (by kernel_rfl) ?_) | (refine wpList_mstoreA rfl _ _ _ rfl rfl _ rfl 4 H _ _ rfl rfl (by kernel_rfl) (by kernel_rfl) (by kernel_rfl) ?_) | (refine wpList_mstore rfl _ _ _ rfl rfl _ _ rfl 0 H _ _ rfl (.int _ _) rfl (by kernel_rfl) (of_decide_eq_true (by kernel_rfl)) (by kernel_rfl) rfl ?_) | (refine wpList_mstore rfl _ _ _ rfl rfl _ _ rfl 1 H _ _ rfl (.int _ _) rfl (by kernel_rfl) (of_decide_eq_true (by kernel_rfl)) (by kernel_rfl) rfl ?_) | (refine wpList_mstore rfl _ _ _ rfl rfl _ _ rfl 2 H _ _ rfl (.int _ _) rfl (by kernel_rfl) (of_decide_eq_true (by kernel_rfl)) (by kernel_rfl) rfl ?_) | (refine wpList_mstore rfl _ _ _ rfl rfl _ _ rfl 3 H _ _ rfl (.int _ _) rfl (by kernel_rfl) (of_decide_eq_true (by kernel_rfl)) (by kernel_rfl) rfl ?_) | (refine wpList_mstore rfl _ _ _ rfl rfl _ _ rfl 4 H _ _ rfl (.int _ _) rfl (by kernel_rfl) (of_decide_eq_true (by kernel_rfl)) (by kernel_rfl) rfl ?_) | (refine wpList_mstore rfl _ _ _ rfl rfl _ _ rfl 0 H _ _ rfl (.bool _) rfl (by kernel_rfl) (of_decide_eq_true (by kernel_rfl)) (by kernel_rfl) rfl ?_) | (refine wpList_mstore rfl _ _ _ rfl rfl _ _ rfl 1 H _ _ rfl (.bool _) rfl (by kernel_rfl) (of_decide_eq_true (by kernel_rfl)) (by kernel_rfl) rfl ?_) | (refine wpList_mstore rfl _ _ _ rfl rfl _ _ rfl 2 H _ _ rfl (.bool _) rfl (by kernel_rfl) (of_decide_eq_true (by kernel_rfl)) (by kernel_rfl) rfl ?_) | (refine wpList_mstore rfl _ _ _ rfl rfl _ _ rfl 3 H _ _ rfl (.bool _) rfl (by kernel_rfl) (of_decide_eq_true (by kernel_rfl)) (by kernel_rfl) rfl ?_) | (refine wpList_mstore rfl _ _ _ rfl rfl _ _ rfl 4 H _ _ rfl (.bool _) rfl (by kernel_rfl) (of_decide_eq_true (by kernel_rfl)) (by kernel_rfl) rfl ?_) | (refine wpList_mstore rfl _ _ _ rfl rfl _ _ rfl 0 H _ _ rfl (.pointer _) rfl (by kernel_rfl) (of_decide_eq_true (by kernel_rfl)) (by kernel_rfl) rfl ?_) | (refine wpList_mstore rfl _ _ _ rfl rfl _ _ rfl 1 H _ _ rfl (.pointer _) rfl (by kernel_rfl) (of_decide_eq_true (by kernel_rfl)) (by kernel_rfl) rfl ?_) | (refine wpList_mstore rfl _ _ _ rfl rfl _ _ rfl 2 H _ _ rfl (.pointer _) rfl (by kernel_rfl) (of_decide_eq_true (by kernel_rfl)) (by kernel_rfl) rfl ?_) | (refine wpList_mstore rfl _ _ _ rfl rfl _ _ rfl 3 H _ _ rfl (.pointer _) rfl (by kernel_rfl) (of_decide_eq_true (by kernel_rfl)) (by kernel_rfl) rfl ?_) | (refine wpList_mstore rfl _ _ _ rfl rfl _ _ rfl 4 H _ _ rfl (.pointer _) rfl (by kernel_rfl) (of_decide_eq_true (by kernel_rfl)) (by kernel_rfl) rfl ?_) | (refine wpList_mstore rfl _ _ _ rfl rfl _ _ rfl 0 H _ _ rfl (.string _) rfl (by kernel_rfl) (of_decide_eq_true (by kernel_rfl)) (by kernel_rfl) rfl ?_) | (refine wpList_mstore rfl _ _ _ rfl rfl _ _ rfl 1 H _ _ rfl (.string _) rfl (by kernel_rfl) (of_decide_eq_true (by kernel_rfl)) (by kernel_rfl) rfl ?_) | (refine wpList_mstore rfl _ _ _ rfl rfl _ _ rfl 2 H _ _ rfl (.string _) rfl (by kernel_rfl) (of_decide_eq_true (by kernel_rfl)) (by kernel_rfl) rfl ?_) | (refine wpList_mstore rfl _ _ _ rfl rfl _ _ rfl 3 H _ _ rfl (.string _) rfl (by kernel_rfl) (of_decide_eq_true (by kernel_rfl)) (by kernel_rfl) rfl ?_) | (refine wpList_mstore rfl _ _ _ rfl rfl _ _ rfl 4 H _ _ rfl (.string _) rfl (by kernel_rfl) (of_decide_eq_true (by kernel_rfl)) (by kernel_rfl) rfl ?_) | (refine wpList_mstore rfl _ _ _ rfl rfl _ _ rfl 0 H _ _ rfl (.slice _ _ _) rfl (by kernel_rfl) (of_decide_eq_true (by kernel_rfl)) (by kernel_rfl) rfl ?_) | (refine wpList_mstore rfl _ _ _ rfl rfl _ _ rfl 1 H _ _ rfl (.slice _ _ _) rfl (by kernel_rfl) (of_decide_eq_true (by kernel_rfl)) (by kernel_rfl) rfl ?_) | (refine wpList_mstore rfl _ _ _ rfl rfl _ _ rfl 2 H _ _ rfl (.slice _ _ _) rfl (by kernel_rfl) (of_decide_eq_true (by kernel_rfl)) (by kernel_rfl) rfl ?_) | (refine wpList_mstore rfl _ _ _ rfl rfl _ _ rfl 3 H _ _ rfl (.slice _ _ _) rfl (by kernel_rfl) (of_decide_eq_true (by kernel_rfl)) (by kernel_rfl) rfl ?_) | (refine wpList_mstore rfl _ _ _ rfl rfl _ _ rfl 4 H _ _ rfl (.slice _ _ _) rfl (by kernel_rfl) (of_decide_eq_true (by kernel_rfl)) (by kernel_rfl) rfl ?_)); clear H; intro w1 H; simp only [List.set_cons_zero, List.set_cons_succ] at H)
    | (refine wpList_mnew rfl _ rfl H _ HZF.out ?_; clear H; intro R5 w1 _ H)
    | (refine wpList_mnew rfl _ rfl H _ HZB.out ?_; clear H; intro R4 w1 _ H) | fail)
  (try simp only [Act.put, List.setIfInBounds_toArray, List.set_cons_succ, List.set_cons_zero])
  obtain ⟨cf, hcf⟩ : ∃ cf, #[.int .u8 (arrP q.p q.a q.m (cI q.p)), .int .u8 (arrS q.s (q.x || q.y) (hasV q.s 1))] = (cf : Array Value) := ⟨_, rfl⟩
  obtain ⟨cb, hcb⟩ : ∃ cb, #[.int .u8 (arrV q.a q.m (cI q.p)), .bool (q.x || q.y || hasV q.s 1)] = (cb : Array Value) := ⟨_, rfl⟩
  rw [hcf, hcb] at H
  clear hcf hcb
  clear Q1 Q2 Q3 Q4 Q5 Q6 Q7 Q8
  obtain ⟨L8, hL8⟩ : ∃ L8, L8 = (toldQ q).take 8 := ⟨_, rfl⟩
  replace hC : RowC cs cap ((toldQ q).take 8) := hC
  refine wp_region_y ((0, 0) : Nat × Nat) (by kernel_rfl) (by kernel_rfl) [(some 126, fun _ => .slice (some ⟨Ro, 0, none⟩) 8 cap), (some 127, fun _ => .pointer (some ⟨Rq, 0, none⟩)), (some 128, fun _ => .agg #[.int .u8 (q.p), .int .u8 (q.s)]), (some 129, fun _ => .pointer (some ⟨Rq, 6, none⟩)), (some 130, fun _ => .int .u8 (q.b)), (some 131, fun _ => .agg #[.int .u8 (oneI (hasV (q.p) (q.b))), .bool (hasV (q.s) (q.b))]), (some 132, fun _ => .pointer (some ⟨Rq, 0, none⟩)), (some 133, fun _ => .agg #[.int .u8 (q.p), .int .u8 (q.s)]), (some 134, fun _ => .pointer (some ⟨Rq, 6, none⟩)), (some 135, fun _ => .int .u8 (q.b)), (some 136, fun _ => .pointer (some ⟨Rq, 2, none⟩)), (some 137, fun _ => .agg #[.int .u8 (q.a), .bool (q.x)]), (some 138, fun _ => .agg #[.int .u8 (pbV (q.p) (q.b) (q.a != 0)), .int .u8 (pbV (q.s) (q.b) (q.x))]), (some 139, fun _ => .agg #[.int .u8 (oneI (hasV (q.p) (q.b))), .bool (hasV (q.s) (q.b)), .int .u8 (pbV (q.p) (q.b) (q.a != 0)), .int .u8 (pbV (q.s) (q.b) (q.x))]), (some 140, fun R : Nat × Nat => .slice (some ⟨R.1, 0, none⟩) 1 1), (some 141, fun R : Nat × Nat => .slice (some ⟨R.1, 0, none⟩) 9 R.2), (some 3, fun R : Nat × Nat => .slice (some ⟨R.1, 0, none⟩) 9 R.2)] (fun D bq wv => cond (D 16) (∃ cs2, Mem w.heap.size [] w wv (((bq 16).1, cs2) :: [(R5, cf), (R4, cb), (Rq, akC q)]) ∧ RowC cs2 (bq 16).2 ((toldQ q).take 8 ++ [((oneI (hasV (q.p) (q.b))), (hasV (q.s) (q.b)), (pbV (q.p) (q.b) (q.a != 0)), (pbV (q.s) (q.b) (q.x)))])) (cond (D 15) (∃ cs2, Mem w.heap.size [] w wv (((bq 15).1, cs2) :: [(R5, cf), (R4, cb), (Rq, akC q)]) ∧ RowC cs2 (bq 15).2 ((toldQ q).take 8 ++ [((oneI (hasV (q.p) (q.b))), (hasV (q.s) (q.b)), (pbV (q.p) (q.b) (q.a != 0)), (pbV (q.s) (q.b) (q.x)))])) (Mem w.heap.size [] w wv (cond (D 14) (((bq 14).1, (flatRes [((oneI (hasV (q.p) (q.b))), (hasV (q.s) (q.b)), (pbV (q.p) (q.b) (q.a != 0)), (pbV (q.s) (q.b) (q.x)))]).toArray) :: [(Ro, cs), (R5, cf), (R4, cb), (Rq, akC q)]) [(Ro, cs), (R5, cf), (R4, cb), (Rq, akC q)])))) 179 (by rfl) (by rfl) (by rfl) H.drew ⟨⟨rfl, ?p0⟩, ⟨rfl, ?p1⟩, ⟨rfl, ?p2⟩, ⟨rfl, ?p3⟩, ⟨rfl, ?p4⟩, ⟨rfl, ?p5⟩, ⟨rfl, ?p6⟩, ⟨rfl, ?p7⟩, ⟨rfl, ?p8⟩, ⟨rfl, ?p9⟩, ⟨rfl, ?p10⟩, ⟨rfl, ?p11⟩, ⟨rfl, ?p12⟩, ⟨rfl, ?p13⟩, ⟨rfl, ?p14⟩, ⟨rfl, ?p15⟩, ⟨rfl, ?p16⟩, trivial⟩ ?_
  case p0 =>
    intro D bq a' w' hk hc he hl hW
    (try dsimp only at hW)
    have n15 : D 15 = false := hc.no .data hk rfl (by simp) rfl
    have n16 : D 16 = false := hc.no .phase hk rfl (by simp) rfl
    have hW0 := pcond_f n15 (pcond_f n16 hW)
    have f3 : a'.tmps.getD 3 undef = .slice (some ⟨Ro, 0, none⟩) 8 cap := (hl 3).trans ((vsy_off rfl n16 rfl).trans rfl)
    exact wp_val (.slice (some ⟨Ro, 0, none⟩) 8 cap) (by simp only [execOp, Act.eval, List.map_toArray, List.map_cons, List.map_nil]; rw [f3]; kernel_rfl) ⟨(0, 0), rfl, pcond_mk n16 (pcond_mk n15 (hW0))⟩
  case p1 =>
    intro D bq a' w' hk hc he hl hW
    (try dsimp only at hW)
    have n2 : D 2 = false := hc.no .data hk rfl (by simp) rfl
    have n5 : D 5 = false := hc.no .data n2 rfl (by simp) rfl
    have n12 : D 12 = false := hc.no .chain n5 rfl (by simp) rfl
    have n15 : D 15 = false := hc.no .chain n12 rfl (by simp) rfl
    have n16 : D 16 = false := hc.no .phase hk rfl (by simp) rfl
    have hW0 := pcond_f n15 (pcond_f n16 hW)
    have f1 : a'.tmps.getD 1 undef = .pointer (some ⟨Rq, 0, none⟩) := (hl 1).trans ((vsy_no rfl).trans rfl)
    exact wp_val (.pointer (some ⟨Rq, 0, none⟩)) (by simp only [execOp, Act.eval, List.map_toArray, List.map_cons, List.map_nil]; rw [f1]; kernel_rfl) ⟨(0, 0), rfl, pcond_mk n16 (pcond_mk n15 (hW0))⟩
  case p2 =>
    intro D bq a' w' hk hc he hl hW
    (try dsimp only at hW)
    have n5 : D 5 = false := hc.no .data hk rfl (by simp) rfl
    have n12 : D 12 = false := hc.no .chain n5 rfl (by simp) rfl
    have n15 : D 15 = false := hc.no .chain n12 rfl (by simp) rfl
    have n16 : D 16 = false := hc.no .phase hk rfl (by simp) rfl
    have hW0 := pcond_f n15 (pcond_f n16 hW)
    have e1 : a'.tmps.getD 127 undef = .pointer (some ⟨Rq, 0, none⟩) := (hl 127).trans (vsy_at (f := fun _ => .pointer (some ⟨Rq, 0, none⟩)) rfl (he ⟨1, .data⟩ (by simp) rfl) rfl)
    exact wp_sload _ _ rfl _ _ e1 3 (Mem.condB hW0) (akC q) #[.int .u8 (q.p), .int .u8 (q.s)] rfl (by kernel_rfl) (by kernel_rfl) (ak_f q) ⟨(0, 0), rfl, pcond_mk n16 (pcond_mk n15 (hW0))⟩
  case p3 =>
    intro D bq a' w' hk hc he hl hW
    (try dsimp only at hW)
    have n4 : D 4 = false := hc.no .data hk rfl (by simp) rfl
    have n5 : D 5 = false := hc.no .data n4 rfl (by simp) rfl
    have n12 : D 12 = false := hc.no .chain n5 rfl (by simp) rfl
    have n15 : D 15 = false := hc.no .chain n12 rfl (by simp) rfl
    have n16 : D 16 = false := hc.no .phase hk rfl (by simp) rfl
    have hW0 := pcond_f n15 (pcond_f n16 hW)
    have f1 : a'.tmps.getD 1 undef = .pointer (some ⟨Rq, 0, none⟩) := (hl 1).trans ((vsy_no rfl).trans rfl)
    exact wp_val (.pointer (some ⟨Rq, 6, none⟩)) (by simp only [execOp, Act.eval, List.map_toArray, List.map_cons, List.map_nil]; rw [f1]; kernel_rfl) ⟨(0, 0), rfl, pcond_mk n16 (pcond_mk n15 (hW0))⟩
  case p4 =>
    intro D bq a' w' hk hc he hl hW
    (try dsimp only at hW)
    have n5 : D 5 = false := hc.no .data hk rfl (by simp) rfl
    have n12 : D 12 = false := hc.no .chain n5 rfl (by simp) rfl
    have n15 : D 15 = false := hc.no .chain n12 rfl (by simp) rfl
    have n16 : D 16 = false := hc.no .phase hk rfl (by simp) rfl
    have hW0 := pcond_f n15 (pcond_f n16 hW)
    have e3 : a'.tmps.getD 129 undef = .pointer (some ⟨Rq, 6, none⟩) := (hl 129).trans (vsy_at (f := fun _ => .pointer (some ⟨Rq, 6, none⟩)) rfl (he ⟨3, .data⟩ (by simp) rfl) rfl)
    exact wp_sload1 _ _ rfl _ _ e3 3 (Mem.condB hW0) _ (.int .u8 (q.b)) rfl rfl (by decide +kernel) ⟨(0, 0), rfl, pcond_mk n16 (pcond_mk n15 (hW0))⟩
  case p5 =>
    intro D bq a' w' hk hc he hl hW
    (try dsimp only at hW)
    have n12 : D 12 = false := hc.no .chain hk rfl (by simp) rfl
    have n15 : D 15 = false := hc.no .chain n12 rfl (by simp) rfl
    have n16 : D 16 = false := hc.no .phase hk rfl (by simp) rfl
    have hW0 := pcond_f n15 (pcond_f n16 hW)
    have e2 : a'.tmps.getD 128 undef = .agg #[.int .u8 (q.p), .int .u8 (q.s)] := (hl 128).trans (vsy_at (f := fun _ => .agg #[.int .u8 (q.p), .int .u8 (q.s)]) rfl (he ⟨2, .data⟩ (by simp) rfl) rfl)
    have e4 : a'.tmps.getD 130 undef = .int .u8 (q.b) := (hl 130).trans (vsy_at (f := fun _ => .int .u8 (q.b)) rfl (he ⟨4, .data⟩ (by simp) rfl) rfl)
    refine wp_callp (vals := #[.agg #[.int .u8 (q.p), .int .u8 (q.s)], .int .u8 (q.b)]) rfl rfl (by simp only [List.map_toArray, List.map_cons, List.map_nil, Act.eval, e2, e4]) (by kernel_rfl) (aget_ct (q.p) (q.s) (q.b) w' (by first | assumption | with_reducible exact (pbV_le _ _ _).1 | with_reducible exact (pbV_le _ _ _).2 | with_reducible exact (nzP_le _ _).1 | with_reducible exact (nzP_le _ _).2 | with_reducible exact (nzS_le _ _).1 | with_reducible exact (nzS_le _ _).2 | with_reducible exact (clr_le _ (by assumption) (by assumption)).1 | with_reducible exact (clr_le _ (by assumption) (by assumption)).2 | with_reducible exact (clr_le _ (nzP_le _ _).1 (nzP_le _ _).2).1 | with_reducible exact (clr_le _ (nzP_le _ _).1 (nzP_le _ _).2).2 | with_reducible exact (clr_le _ (nzS_le _ _).1 (nzS_le _ _).2).1 | with_reducible exact (clr_le _ (nzS_le _ _).1 (nzS_le _ _).2).2 | with_reducible exact (clr_le _ (pbV_le _ _ _).1 (pbV_le _ _ _).2).1 | with_reducible exact (clr_le _ (pbV_le _ _ _).1 (pbV_le _ _ _).2).2 | with_reducible exact (adcV_le _ _ _).1 | with_reducible exact (adcV_le _ _ _).2 | with_reducible exact (lessV_le _ _).1 | with_reducible exact (lessV_le _ _).2 | with_reducible exact (leftV_le _ _).1 | with_reducible exact (leftV_le _ _).2 | with_reducible exact (rightV_le _ _).1 | with_reducible exact (rightV_le _ _).2 | with_reducible exact (bothV_le _ _ (by assumption) (by assumption) (by assumption) (by assumption)).1 | with_reducible exact (bothV_le _ _ (by assumption) (by assumption) (by assumption) (by assumption)).2 | decide | omega) (by first | assumption | with_reducible exact (pbV_le _ _ _).1 | with_reducible exact (pbV_le _ _ _).2 | with_reducible exact (nzP_le _ _).1 | with_reducible exact (nzP_le _ _).2 | with_reducible exact (nzS_le _ _).1 | with_reducible exact (nzS_le _ _).2 | with_reducible exact (clr_le _ (by assumption) (by assumption)).1 | with_reducible exact (clr_le _ (by assumption) (by assumption)).2 | with_reducible exact (clr_le _ (nzP_le _ _).1 (nzP_le _ _).2).1 | with_reducible exact (clr_le _ (nzP_le _ _).1 (nzP_le _ _).2).2 | with_reducible exact (clr_le _ (nzS_le _ _).1 (nzS_le _ _).2).1 | with_reducible exact (clr_le _ (nzS_le _ _).1 (nzS_le _ _).2).2 | with_reducible exact (clr_le _ (pbV_le _ _ _).1 (pbV_le _ _ _).2).1 | with_reducible exact (clr_le _ (pbV_le _ _ _).1 (pbV_le _ _ _).2).2 | with_reducible exact (adcV_le _ _ _).1 | with_reducible exact (adcV_le _ _ _).2 | with_reducible exact (lessV_le _ _).1 | with_reducible exact (lessV_le _ _).2 | with_reducible exact (leftV_le _ _).1 | with_reducible exact (leftV_le _ _).2 | with_reducible exact (rightV_le _ _).1 | with_reducible exact (rightV_le _ _).2 | with_reducible exact (bothV_le _ _ (by assumption) (by assumption) (by assumption) (by assumption)).1 | with_reducible exact (bothV_le _ _ (by assumption) (by assumption) (by assumption) (by assumption)).2 | decide | omega) (by first | assumption | with_reducible exact (pbV_le _ _ _).1 | with_reducible exact (pbV_le _ _ _).2 | with_reducible exact (nzP_le _ _).1 | with_reducible exact (nzP_le _ _).2 | with_reducible exact (nzS_le _ _).1 | with_reducible exact (nzS_le _ _).2 | with_reducible exact (clr_le _ (by assumption) (by assumption)).1 | with_reducible exact (clr_le _ (by assumption) (by assumption)).2 | with_reducible exact (clr_le _ (nzP_le _ _).1 (nzP_le _ _).2).1 | with_reducible exact (clr_le _ (nzP_le _ _).1 (nzP_le _ _).2).2 | with_reducible exact (clr_le _ (nzS_le _ _).1 (nzS_le _ _).2).1 | with_reducible exact (clr_le _ (nzS_le _ _).1 (nzS_le _ _).2).2 | with_reducible exact (clr_le _ (pbV_le _ _ _).1 (pbV_le _ _ _).2).1 | with_reducible exact (clr_le _ (pbV_le _ _ _).1 (pbV_le _ _ _).2).2 | with_reducible exact (adcV_le _ _ _).1 | with_reducible exact (adcV_le _ _ _).2 | with_reducible exact (lessV_le _ _).1 | with_reducible exact (lessV_le _ _).2 | with_reducible exact (leftV_le _ _).1 | with_reducible exact (leftV_le _ _).2 | with_reducible exact (rightV_le _ _).1 | with_reducible exact (rightV_le _ _).2 | with_reducible exact (bothV_le _ _ (by assumption) (by assumption) (by assumption) (by assumption)).1 | with_reducible exact (bothV_le _ _ (by assumption) (by assumption) (by assumption) (by assumption)).2 | decide | omega) (by first | assumption | with_reducible exact (pbV_le _ _ _).1 | with_reducible exact (pbV_le _ _ _).2 | with_reducible exact (nzP_le _ _).1 | with_reducible exact (nzP_le _ _).2 | with_reducible exact (nzS_le _ _).1 | with_reducible exact (nzS_le _ _).2 | with_reducible exact (clr_le _ (by assumption) (by assumption)).1 | with_reducible exact (clr_le _ (by assumption) (by assumption)).2 | with_reducible exact (clr_le _ (nzP_le _ _).1 (nzP_le _ _).2).1 | with_reducible exact (clr_le _ (nzP_le _ _).1 (nzP_le _ _).2).2 | with_reducible exact (clr_le _ (nzS_le _ _).1 (nzS_le _ _).2).1 | with_reducible exact (clr_le _ (nzS_le _ _).1 (nzS_le _ _).2).2 | with_reducible exact (clr_le _ (pbV_le _ _ _).1 (pbV_le _ _ _).2).1 | with_reducible exact (clr_le _ (pbV_le _ _ _).1 (pbV_le _ _ _).2).2 | with_reducible exact (adcV_le _ _ _).1 | with_reducible exact (adcV_le _ _ _).2 | with_reducible exact (lessV_le _ _).1 | with_reducible exact (lessV_le _ _).2 | with_reducible exact (leftV_le _ _).1 | with_reducible exact (leftV_le _ _).2 | with_reducible exact (rightV_le _ _).1 | with_reducible exact (rightV_le _ _).2 | with_reducible exact (bothV_le _ _ (by assumption) (by assumption) (by assumption) (by assumption)).1 | with_reducible exact (bothV_le _ _ (by assumption) (by assumption) (by assumption) (by assumption)).2 | decide | omega) (by first | assumption | with_reducible exact (pbV_le _ _ _).1 | with_reducible exact (pbV_le _ _ _).2 | with_reducible exact (nzP_le _ _).1 | with_reducible exact (nzP_le _ _).2 | with_reducible exact (nzS_le _ _).1 | with_reducible exact (nzS_le _ _).2 | with_reducible exact (clr_le _ (by assumption) (by assumption)).1 | with_reducible exact (clr_le _ (by assumption) (by assumption)).2 | with_reducible exact (clr_le _ (nzP_le _ _).1 (nzP_le _ _).2).1 | with_reducible exact (clr_le _ (nzP_le _ _).1 (nzP_le _ _).2).2 | with_reducible exact (clr_le _ (nzS_le _ _).1 (nzS_le _ _).2).1 | with_reducible exact (clr_le _ (nzS_le _ _).1 (nzS_le _ _).2).2 | with_reducible exact (clr_le _ (pbV_le _ _ _).1 (pbV_le _ _ _).2).1 | with_reducible exact (clr_le _ (pbV_le _ _ _).1 (pbV_le _ _ _).2).2 | with_reducible exact (adcV_le _ _ _).1 | with_reducible exact (adcV_le _ _ _).2 | with_reducible exact (lessV_le _ _).1 | with_reducible exact (lessV_le _ _).2 | with_reducible exact (leftV_le _ _).1 | with_reducible exact (leftV_le _ _).2 | with_reducible exact (rightV_le _ _).1 | with_reducible exact (rightV_le _ _).2 | with_reducible exact (bothV_le _ _ (by assumption) (by assumption) (by assumption) (by assumption)).1 | with_reducible exact (bothV_le _ _ (by assumption) (by assumption) (by assumption) (by assumption)).2 | decide | omega) (by first | assumption | with_reducible exact (pbV_le _ _ _).1 | with_reducible exact (pbV_le _ _ _).2 | with_reducible exact (nzP_le _ _).1 | with_reducible exact (nzP_le _ _).2 | with_reducible exact (nzS_le _ _).1 | with_reducible exact (nzS_le _ _).2 | with_reducible exact (clr_le _ (by assumption) (by assumption)).1 | with_reducible exact (clr_le _ (by assumption) (by assumption)).2 | with_reducible exact (clr_le _ (nzP_le _ _).1 (nzP_le _ _).2).1 | with_reducible exact (clr_le _ (nzP_le _ _).1 (nzP_le _ _).2).2 | with_reducible exact (clr_le _ (nzS_le _ _).1 (nzS_le _ _).2).1 | with_reducible exact (clr_le _ (nzS_le _ _).1 (nzS_le _ _).2).2 | with_reducible exact (clr_le _ (pbV_le _ _ _).1 (pbV_le _ _ _).2).1 | with_reducible exact (clr_le _ (pbV_le _ _ _).1 (pbV_le _ _ _).2).2 | with_reducible exact (adcV_le _ _ _).1 | with_reducible exact (adcV_le _ _ _).2 | with_reducible exact (lessV_le _ _).1 | with_reducible exact (lessV_le _ _).2 | with_reducible exact (leftV_le _ _).1 | with_reducible exact (leftV_le _ _).2 | with_reducible exact (rightV_le _ _).1 | with_reducible exact (rightV_le _ _).2 | with_reducible exact (bothV_le _ _ (by assumption) (by assumption) (by assumption) (by assumption)).1 | with_reducible exact (bothV_le _ _ (by assumption) (by assumption) (by assumption) (by assumption)).2 | decide | omega)) ?_
    rintro e w2 ⟨rfl, hB⟩
    exact ⟨_, rfl, (0, 0), rfl, pcond_mk n16 (pcond_mk n15 (Mem.next hW0 hB))⟩
  case p6 =>
    intro D bq a' w' hk hc he hl hW
    (try dsimp only at hW)
    have n7 : D 7 = false := hc.no .data hk rfl (by simp) rfl
    have n12 : D 12 = false := hc.no .data n7 rfl (by simp) rfl
    have n15 : D 15 = false := hc.no .chain n12 rfl (by simp) rfl
    have n16 : D 16 = false := hc.no .phase hk rfl (by simp) rfl
    have hW0 := pcond_f n15 (pcond_f n16 hW)
    have f1 : a'.tmps.getD 1 undef = .pointer (some ⟨Rq, 0, none⟩) := (hl 1).trans ((vsy_no rfl).trans rfl)
    exact wp_val (.pointer (some ⟨Rq, 0, none⟩)) (by simp only [execOp, Act.eval, List.map_toArray, List.map_cons, List.map_nil]; rw [f1]; kernel_rfl) ⟨(0, 0), rfl, pcond_mk n16 (pcond_mk n15 (hW0))⟩
  case p7 =>
    intro D bq a' w' hk hc he hl hW
    (try dsimp only at hW)
    have n12 : D 12 = false := hc.no .data hk rfl (by simp) rfl
    have n15 : D 15 = false := hc.no .chain n12 rfl (by simp) rfl
    have n16 : D 16 = false := hc.no .phase hk rfl (by simp) rfl
    have hW0 := pcond_f n15 (pcond_f n16 hW)
    have e6 : a'.tmps.getD 132 undef = .pointer (some ⟨Rq, 0, none⟩) := (hl 132).trans (vsy_at (f := fun _ => .pointer (some ⟨Rq, 0, none⟩)) rfl (he ⟨6, .data⟩ (by simp) rfl) rfl)
    exact wp_sload _ _ rfl _ _ e6 3 (Mem.condB hW0) (akC q) #[.int .u8 (q.p), .int .u8 (q.s)] rfl (by kernel_rfl) (by kernel_rfl) (ak_f q) ⟨(0, 0), rfl, pcond_mk n16 (pcond_mk n15 (hW0))⟩
  case p8 =>
    intro D bq a' w' hk hc he hl hW
    (try dsimp only at hW)
    have n9 : D 9 = false := hc.no .data hk rfl (by simp) rfl
    have n12 : D 12 = false := hc.no .data n9 rfl (by simp) rfl
    have n15 : D 15 = false := hc.no .chain n12 rfl (by simp) rfl
    have n16 : D 16 = false := hc.no .phase hk rfl (by simp) rfl
    have hW0 := pcond_f n15 (pcond_f n16 hW)
    have f1 : a'.tmps.getD 1 undef = .pointer (some ⟨Rq, 0, none⟩) := (hl 1).trans ((vsy_no rfl).trans rfl)
    exact wp_val (.pointer (some ⟨Rq, 6, none⟩)) (by simp only [execOp, Act.eval, List.map_toArray, List.map_cons, List.map_nil]; rw [f1]; kernel_rfl) ⟨(0, 0), rfl, pcond_mk n16 (pcond_mk n15 (hW0))⟩
  case p9 =>
    intro D bq a' w' hk hc he hl hW
    (try dsimp only at hW)
    have n12 : D 12 = false := hc.no .data hk rfl (by simp) rfl
    have n15 : D 15 = false := hc.no .chain n12 rfl (by simp) rfl
    have n16 : D 16 = false := hc.no .phase hk rfl (by simp) rfl
    have hW0 := pcond_f n15 (pcond_f n16 hW)
    have e8 : a'.tmps.getD 134 undef = .pointer (some ⟨Rq, 6, none⟩) := (hl 134).trans (vsy_at (f := fun _ => .pointer (some ⟨Rq, 6, none⟩)) rfl (he ⟨8, .data⟩ (by simp) rfl) rfl)
    exact wp_sload1 _ _ rfl _ _ e8 3 (Mem.condB hW0) _ (.int .u8 (q.b)) rfl rfl (by decide +kernel) ⟨(0, 0), rfl, pcond_mk n16 (pcond_mk n15 (hW0))⟩
  case p10 =>
    intro D bq a' w' hk hc he hl hW
    (try dsimp only at hW)
    have n11 : D 11 = false := hc.no .data hk rfl (by simp) rfl
    have n12 : D 12 = false := hc.no .data n11 rfl (by simp) rfl
    have n15 : D 15 = false := hc.no .chain n12 rfl (by simp) rfl
    have n16 : D 16 = false := hc.no .phase hk rfl (by simp) rfl
    have hW0 := pcond_f n15 (pcond_f n16 hW)
    have f1 : a'.tmps.getD 1 undef = .pointer (some ⟨Rq, 0, none⟩) := (hl 1).trans ((vsy_no rfl).trans rfl)
    exact wp_val (.pointer (some ⟨Rq, 2, none⟩)) (by simp only [execOp, Act.eval, List.map_toArray, List.map_cons, List.map_nil]; rw [f1]; kernel_rfl) ⟨(0, 0), rfl, pcond_mk n16 (pcond_mk n15 (hW0))⟩
  case p11 =>
    intro D bq a' w' hk hc he hl hW
    (try dsimp only at hW)
    have n12 : D 12 = false := hc.no .data hk rfl (by simp) rfl
    have n15 : D 15 = false := hc.no .chain n12 rfl (by simp) rfl
    have n16 : D 16 = false := hc.no .phase hk rfl (by simp) rfl
    have hW0 := pcond_f n15 (pcond_f n16 hW)
    have e10 : a'.tmps.getD 136 undef = .pointer (some ⟨Rq, 2, none⟩) := (hl 136).trans (vsy_at (f := fun _ => .pointer (some ⟨Rq, 2, none⟩)) rfl (he ⟨10, .data⟩ (by simp) rfl) rfl)
    exact wp_sload _ _ rfl _ _ e10 3 (Mem.condB hW0) (akC q) #[.int .u8 (q.a), .bool (q.x)] rfl (by kernel_rfl) (by kernel_rfl) (ak_a q) ⟨(0, 0), rfl, pcond_mk n16 (pcond_mk n15 (hW0))⟩
  case p12 =>
    intro D bq a' w' hk hc he hl hW
    (try dsimp only at hW)
    have n15 : D 15 = false := hc.no .chain hk rfl (by simp) rfl
    have n16 : D 16 = false := hc.no .phase hk rfl (by simp) rfl
    have hW0 := pcond_f n15 (pcond_f n16 hW)
    have e7 : a'.tmps.getD 133 undef = .agg #[.int .u8 (q.p), .int .u8 (q.s)] := (hl 133).trans (vsy_at (f := fun _ => .agg #[.int .u8 (q.p), .int .u8 (q.s)]) rfl (he ⟨7, .data⟩ (by simp) rfl) rfl)
    have e9 : a'.tmps.getD 135 undef = .int .u8 (q.b) := (hl 135).trans (vsy_at (f := fun _ => .int .u8 (q.b)) rfl (he ⟨9, .data⟩ (by simp) rfl) rfl)
    have e11 : a'.tmps.getD 137 undef = .agg #[.int .u8 (q.a), .bool (q.x)] := (hl 137).trans (vsy_at (f := fun _ => .agg #[.int .u8 (q.a), .bool (q.x)]) rfl (he ⟨11, .data⟩ (by simp) rfl) rfl)
    refine wp_callp (vals := #[.agg #[.int .u8 (q.p), .int .u8 (q.s)], .int .u8 (q.b), .agg #[.int .u8 (q.a), .bool (q.x)]]) rfl rfl (by simp only [List.map_toArray, List.map_cons, List.map_nil, Act.eval, e7, e9, e11]) (by kernel_rfl) (aset_ct (q.p) (q.s) (q.b) (q.a) (q.a != 0) (q.x) (rfl) w' (by first | assumption | with_reducible exact (pbV_le _ _ _).1 | with_reducible exact (pbV_le _ _ _).2 | with_reducible exact (nzP_le _ _).1 | with_reducible exact (nzP_le _ _).2 | with_reducible exact (nzS_le _ _).1 | with_reducible exact (nzS_le _ _).2 | with_reducible exact (clr_le _ (by assumption) (by assumption)).1 | with_reducible exact (clr_le _ (by assumption) (by assumption)).2 | with_reducible exact (clr_le _ (nzP_le _ _).1 (nzP_le _ _).2).1 | with_reducible exact (clr_le _ (nzP_le _ _).1 (nzP_le _ _).2).2 | with_reducible exact (clr_le _ (nzS_le _ _).1 (nzS_le _ _).2).1 | with_reducible exact (clr_le _ (nzS_le _ _).1 (nzS_le _ _).2).2 | with_reducible exact (clr_le _ (pbV_le _ _ _).1 (pbV_le _ _ _).2).1 | with_reducible exact (clr_le _ (pbV_le _ _ _).1 (pbV_le _ _ _).2).2 | with_reducible exact (adcV_le _ _ _).1 | with_reducible exact (adcV_le _ _ _).2 | with_reducible exact (lessV_le _ _).1 | with_reducible exact (lessV_le _ _).2 | with_reducible exact (leftV_le _ _).1 | with_reducible exact (leftV_le _ _).2 | with_reducible exact (rightV_le _ _).1 | with_reducible exact (rightV_le _ _).2 | with_reducible exact (bothV_le _ _ (by assumption) (by assumption) (by assumption) (by assumption)).1 | with_reducible exact (bothV_le _ _ (by assumption) (by assumption) (by assumption) (by assumption)).2 | decide | omega) (by first | assumption | with_reducible exact (pbV_le _ _ _).1 | with_reducible exact (pbV_le _ _ _).2 | with_reducible exact (nzP_le _ _).1 | with_reducible exact (nzP_le _ _).2 | with_reducible exact (nzS_le _ _).1 | with_reducible exact (nzS_le _ _).2 | with_reducible exact (clr_le _ (by assumption) (by assumption)).1 | with_reducible exact (clr_le _ (by assumption) (by assumption)).2 | with_reducible exact (clr_le _ (nzP_le _ _).1 (nzP_le _ _).2).1 | with_reducible exact (clr_le _ (nzP_le _ _).1 (nzP_le _ _).2).2 | with_reducible exact (clr_le _ (nzS_le _ _).1 (nzS_le _ _).2).1 | with_reducible exact (clr_le _ (nzS_le _ _).1 (nzS_le _ _).2).2 | with_reducible exact (clr_le _ (pbV_le _ _ _).1 (pbV_le _ _ _).2).1 | with_reducible exact (clr_le _ (pbV_le _ _ _).1 (pbV_le _ _ _).2).2 | with_reducible exact (adcV_le _ _ _).1 | with_reducible exact (adcV_le _ _ _).2 | with_reducible exact (lessV_le _ _).1 | with_reducible exact (lessV_le _ _).2 | with_reducible exact (leftV_le _ _).1 | with_reducible exact (leftV_le _ _).2 | with_reducible exact (rightV_le _ _).1 | with_reducible exact (rightV_le _ _).2 | with_reducible exact (bothV_le _ _ (by assumption) (by assumption) (by assumption) (by assumption)).1 | with_reducible exact (bothV_le _ _ (by assumption) (by assumption) (by assumption) (by assumption)).2 | decide | omega) (by first | assumption | with_reducible exact (pbV_le _ _ _).1 | with_reducible exact (pbV_le _ _ _).2 | with_reducible exact (nzP_le _ _).1 | with_reducible exact (nzP_le _ _).2 | with_reducible exact (nzS_le _ _).1 | with_reducible exact (nzS_le _ _).2 | with_reducible exact (clr_le _ (by assumption) (by assumption)).1 | with_reducible exact (clr_le _ (by assumption) (by assumption)).2 | with_reducible exact (clr_le _ (nzP_le _ _).1 (nzP_le _ _).2).1 | with_reducible exact (clr_le _ (nzP_le _ _).1 (nzP_le _ _).2).2 | with_reducible exact (clr_le _ (nzS_le _ _).1 (nzS_le _ _).2).1 | with_reducible exact (clr_le _ (nzS_le _ _).1 (nzS_le _ _).2).2 | with_reducible exact (clr_le _ (pbV_le _ _ _).1 (pbV_le _ _ _).2).1 | with_reducible exact (clr_le _ (pbV_le _ _ _).1 (pbV_le _ _ _).2).2 | with_reducible exact (adcV_le _ _ _).1 | with_reducible exact (adcV_le _ _ _).2 | with_reducible exact (lessV_le _ _).1 | with_reducible exact (lessV_le _ _).2 | with_reducible exact (leftV_le _ _).1 | with_reducible exact (leftV_le _ _).2 | with_reducible exact (rightV_le _ _).1 | with_reducible exact (rightV_le _ _).2 | with_reducible exact (bothV_le _ _ (by assumption) (by assumption) (by assumption) (by assumption)).1 | with_reducible exact (bothV_le _ _ (by assumption) (by assumption) (by assumption) (by assumption)).2 | decide | omega) (by first | assumption | with_reducible exact (pbV_le _ _ _).1 | with_reducible exact (pbV_le _ _ _).2 | with_reducible exact (nzP_le _ _).1 | with_reducible exact (nzP_le _ _).2 | with_reducible exact (nzS_le _ _).1 | with_reducible exact (nzS_le _ _).2 | with_reducible exact (clr_le _ (by assumption) (by assumption)).1 | with_reducible exact (clr_le _ (by assumption) (by assumption)).2 | with_reducible exact (clr_le _ (nzP_le _ _).1 (nzP_le _ _).2).1 | with_reducible exact (clr_le _ (nzP_le _ _).1 (nzP_le _ _).2).2 | with_reducible exact (clr_le _ (nzS_le _ _).1 (nzS_le _ _).2).1 | with_reducible exact (clr_le _ (nzS_le _ _).1 (nzS_le _ _).2).2 | with_reducible exact (clr_le _ (pbV_le _ _ _).1 (pbV_le _ _ _).2).1 | with_reducible exact (clr_le _ (pbV_le _ _ _).1 (pbV_le _ _ _).2).2 | with_reducible exact (adcV_le _ _ _).1 | with_reducible exact (adcV_le _ _ _).2 | with_reducible exact (lessV_le _ _).1 | with_reducible exact (lessV_le _ _).2 | with_reducible exact (leftV_le _ _).1 | with_reducible exact (leftV_le _ _).2 | with_reducible exact (rightV_le _ _).1 | with_reducible exact (rightV_le _ _).2 | with_reducible exact (bothV_le _ _ (by assumption) (by assumption) (by assumption) (by assumption)).1 | with_reducible exact (bothV_le _ _ (by assumption) (by assumption) (by assumption) (by assumption)).2 | decide | omega) (by first | assumption | with_reducible exact (pbV_le _ _ _).1 | with_reducible exact (pbV_le _ _ _).2 | with_reducible exact (nzP_le _ _).1 | with_reducible exact (nzP_le _ _).2 | with_reducible exact (nzS_le _ _).1 | with_reducible exact (nzS_le _ _).2 | with_reducible exact (clr_le _ (by assumption) (by assumption)).1 | with_reducible exact (clr_le _ (by assumption) (by assumption)).2 | with_reducible exact (clr_le _ (nzP_le _ _).1 (nzP_le _ _).2).1 | with_reducible exact (clr_le _ (nzP_le _ _).1 (nzP_le _ _).2).2 | with_reducible exact (clr_le _ (nzS_le _ _).1 (nzS_le _ _).2).1 | with_reducible exact (clr_le _ (nzS_le _ _).1 (nzS_le _ _).2).2 | with_reducible exact (clr_le _ (pbV_le _ _ _).1 (pbV_le _ _ _).2).1 | with_reducible exact (clr_le _ (pbV_le _ _ _).1 (pbV_le _ _ _).2).2 | with_reducible exact (adcV_le _ _ _).1 | with_reducible exact (adcV_le _ _ _).2 | with_reducible exact (lessV_le _ _).1 | with_reducible exact (lessV_le _ _).2 | with_reducible exact (leftV_le _ _).1 | with_reducible exact (leftV_le _ _).2 | with_reducible exact (rightV_le _ _).1 | with_reducible exact (rightV_le _ _).2 | with_reducible exact (bothV_le _ _ (by assumption) (by assumption) (by assumption) (by assumption)).1 | with_reducible exact (bothV_le _ _ (by assumption) (by assumption) (by assumption) (by assumption)).2 | decide | omega) (by first | assumption | with_reducible exact (pbV_le _ _ _).1 | with_reducible exact (pbV_le _ _ _).2 | with_reducible exact (nzP_le _ _).1 | with_reducible exact (nzP_le _ _).2 | with_reducible exact (nzS_le _ _).1 | with_reducible exact (nzS_le _ _).2 | with_reducible exact (clr_le _ (by assumption) (by assumption)).1 | with_reducible exact (clr_le _ (by assumption) (by assumption)).2 | with_reducible exact (clr_le _ (nzP_le _ _).1 (nzP_le _ _).2).1 | with_reducible exact (clr_le _ (nzP_le _ _).1 (nzP_le _ _).2).2 | with_reducible exact (clr_le _ (nzS_le _ _).1 (nzS_le _ _).2).1 | with_reducible exact (clr_le _ (nzS_le _ _).1 (nzS_le _ _).2).2 | with_reducible exact (clr_le _ (pbV_le _ _ _).1 (pbV_le _ _ _).2).1 | with_reducible exact (clr_le _ (pbV_le _ _ _).1 (pbV_le _ _ _).2).2 | with_reducible exact (adcV_le _ _ _).1 | with_reducible exact (adcV_le _ _ _).2 | with_reducible exact (lessV_le _ _).1 | with_reducible exact (lessV_le _ _).2 | with_reducible exact (leftV_le _ _).1 | with_reducible exact (leftV_le _ _).2 | with_reducible exact (rightV_le _ _).1 | with_reducible exact (rightV_le _ _).2 | with_reducible exact (bothV_le _ _ (by assumption) (by assumption) (by assumption) (by assumption)).1 | with_reducible exact (bothV_le _ _ (by assumption) (by assumption) (by assumption) (by assumption)).2 | decide | omega)) ?_
    rintro e w2 ⟨rfl, hB⟩
    exact ⟨_, rfl, (0, 0), rfl, pcond_mk n16 (pcond_mk n15 (Mem.next hW0 hB))⟩
  case p13 =>
    intro D bq a' w' hk hc he hl hW
    (try dsimp only at hW)
    have n14 : D 14 = false := hc.no .data hk rfl (by simp) rfl
    have n15 : D 15 = false := hc.no .data n14 rfl (by simp) rfl
    have n16 : D 16 = false := hc.no .phase hk rfl (by simp) rfl
    have hW0 := pcond_f n15 (pcond_f n16 hW)
    have e5 : a'.tmps.getD 131 undef = .agg #[.int .u8 (oneI (hasV (q.p) (q.b))), .bool (hasV (q.s) (q.b))] := (hl 131).trans (vsy_at (f := fun _ => .agg #[.int .u8 (oneI (hasV (q.p) (q.b))), .bool (hasV (q.s) (q.b))]) rfl (he ⟨5, .data⟩ (by simp) rfl) rfl)
    have e12 : a'.tmps.getD 138 undef = .agg #[.int .u8 (pbV (q.p) (q.b) (q.a != 0)), .int .u8 (pbV (q.s) (q.b) (q.x))] := (hl 138).trans (vsy_at (f := fun _ => .agg #[.int .u8 (pbV (q.p) (q.b) (q.a != 0)), .int .u8 (pbV (q.s) (q.b) (q.x))]) rfl (he ⟨12, .data⟩ (by simp) rfl) rfl)
    exact wp_val (.agg #[.int .u8 (oneI (hasV (q.p) (q.b))), .bool (hasV (q.s) (q.b)), .int .u8 (pbV (q.p) (q.b) (q.a != 0)), .int .u8 (pbV (q.s) (q.b) (q.x))]) (by simp only [execOp, Act.eval, List.map_toArray, List.map_cons, List.map_nil]; rw [e5, e12]; kernel_rfl) ⟨(0, 0), rfl, pcond_mk n16 (pcond_mk n15 (hW0))⟩
  case p14 =>
    intro D bq a' w' hk hc he hl hW
    (try dsimp only at hW)
    have n15 : D 15 = false := hc.no .data hk rfl (by simp) rfl
    have n16 : D 16 = false := hc.no .phase hk rfl (by simp) rfl
    have hW0 := pcond_f n15 (pcond_f n16 hW)
    have e13 : a'.tmps.getD 139 undef = .agg #[.int .u8 (oneI (hasV (q.p) (q.b))), .bool (hasV (q.s) (q.b)), .int .u8 (pbV (q.p) (q.b) (q.a != 0)), .int .u8 (pbV (q.s) (q.b) (q.x))] := (hl 139).trans (vsy_at (f := fun _ => .agg #[.int .u8 (oneI (hasV (q.p) (q.b))), .bool (hasV (q.s) (q.b)), .int .u8 (pbV (q.p) (q.b) (q.a != 0)), .int .u8 (pbV (q.s) (q.b) (q.x))]) rfl (he ⟨13, .data⟩ (by simp) rfl) rfl)
    have hM := Mem.ofF hk hW0
    have hA := fun T => Mem.new hM (flatRes [((oneI (hasV (q.p) (q.b))), (hasV (q.s) (q.b)), (pbV (q.p) (q.b) (q.a != 0)), (pbV (q.s) (q.b) (q.x)))]).toArray T
    exact wp_row _ _ _ rfl _ (by simp only [List.map_toArray, List.map_cons, List.map_nil, Act.eval, e13]) _ _ (build_rs1 (oneI (hasV (q.p) (q.b))) (hasV (q.s) (q.b)) (pbV (q.p) (q.b) (q.a != 0)) (pbV (q.s) (q.b) (q.x))) ⟨(_, 0), rfl, pcond_mk n16 (pcond_mk n15 (hA _))⟩
  case p15 =>
    intro D bq a' w' hk hc he hl hW
    (try dsimp only at hW)
    have n16 : D 16 = false := hc.no .data hk rfl (by simp) rfl
    have hW0 := pcond_f hk (pcond_f n16 hW)
    have e0 : a'.tmps.getD 126 undef = .slice (some ⟨Ro, 0, none⟩) 8 cap := (hl 126).trans (vsy_at (f := fun _ => .slice (some ⟨Ro, 0, none⟩) 8 cap) rfl (he ⟨0, .data⟩ (by simp) rfl) rfl)
    have e14 : a'.tmps.getD 140 undef = .slice (some ⟨(bq 14).1, 0, none⟩) 1 1 := (hl 140).trans (vsy_at (f := fun R : Nat × Nat => .slice (some ⟨R.1, 0, none⟩) 1 1) rfl (he ⟨14, .data⟩ (by simp) rfl) rfl)
    have hM := Mem.ofT (he ⟨14, .data⟩ (by simp) rfl) hW0
    obtain ⟨Rn, cs2, cap2, w2, hr, h2, h3⟩ := mem_app 42 8 cap ((toldQ q).take 8) [((oneI (hasV (q.p) (q.b))), (hasV (q.s) (q.b)), (pbV (q.p) (q.b) (q.a != 0)), (pbV (q.s) (q.b) (q.x)))] 1 rfl rfl (by decide) (by decide) hC hM
    exact wp_apx _ _ _ _ rfl _ _ e0 e14 _ w2 hr ⟨(Rn, cap2), rfl, pcond_mk n16 ⟨cs2, h2, h3⟩⟩
  case p16 =>
    intro D bq a' w' hk hc he hl hW
    (try dsimp only at hW)
    have e15 : a'.tmps.getD 141 undef = .slice (some ⟨(bq 15).1, 0, none⟩) 9 (bq 15).2 := (hl 141).trans (vsy_at (f := fun R : Nat × Nat => .slice (some ⟨R.1, 0, none⟩) 9 R.2) rfl (he ⟨15, .data⟩ (by simp) rfl) rfl)
    have hP := pcond_t (he ⟨15, .data⟩ (by simp) rfl) (pcond_f hk hW)
    exact wp_val (.slice (some ⟨(bq 15).1, 0, none⟩) 9 (bq 15).2) (by simp only [execOp, Act.eval, List.map_toArray, List.map_cons, List.map_nil]; rw [e15]; kernel_rfl) ⟨bq 15, rfl, hP⟩
  intro D bq wv hD hW
  (try dsimp only at hW)
  obtain ⟨cs2, H2, hC2⟩ := pcond_t (hD 16 (by decide)) hW
  clear H hC hD hW
  simp only [putAll, vsYf, Nat.reduceAdd, List.foldl_cons, List.foldl_nil, Act.put, List.setIfInBounds_toArray, List.set_cons_succ, List.set_cons_zero]
  generalize bq 16 = r16 at *
  (try generalize bq 15 = r15 at *)
  (try generalize bq 14 = r14 at *)
  obtain ⟨Ro, cap⟩ := r16
  have H := H2
  have hC := hC2
  clear H2 hC2
  dsimp only at H hC ⊢
  generalize cs2 = cs at *
  go_wp2_with fail
  (try simp only [Act.put, List.setIfInBounds_toArray, List.set_cons_succ, List.set_cons_zero])
  refine wp_region_y ((0, 0) : Nat × Nat) (by kernel_rfl) (by kernel_rfl) [(some 142, fun _ => .slice (some ⟨Ro, 0, none⟩) 9 cap), (some 143, fun _ => .pointer (some ⟨Rq, 0, none⟩)), (some 144, fun _ => .agg #[.int .u8 (q.p), .int .u8 (q.s)]), (some 145, fun _ => .pointer (some ⟨Rq, 7, none⟩)), (some 146, fun _ => .bool (q.k)), (some 147, fun _ => .agg #[.int .u8 (pushV (q.p) (q.k)), .bool (hasV (q.s) 207)]), (some 148, fun _ => .pointer (some ⟨Rq, 2, none⟩)), (some 149, fun _ => .agg #[.int .u8 (q.a), .bool (q.x)]), (some 150, fun _ => .agg #[.int .u8 (clr (q.a)), .int .u8 (pullS (q.x))]), (some 151, fun _ => .agg #[.int .u8 (pushV (q.p) (q.k)), .bool (hasV (q.s) 207), .int .u8 (clr (q.a)), .int .u8 (pullS (q.x))]), (some 152, fun R : Nat × Nat => .slice (some ⟨R.1, 0, none⟩) 1 1), (some 153, fun R : Nat × Nat => .slice (some ⟨R.1, 0, none⟩) 10 R.2), (some 3, fun R : Nat × Nat => .slice (some ⟨R.1, 0, none⟩) 10 R.2)] (fun D bq wv => cond (D 12) (∃ cs2, Mem w.heap.size [] w wv (((bq 12).1, cs2) :: [(R5, cf), (R4, cb), (Rq, akC q)]) ∧ RowC cs2 (bq 12).2 ((toldQ q).take 8 ++ [((oneI (hasV (q.p) (q.b))), (hasV (q.s) (q.b)), (pbV (q.p) (q.b) (q.a != 0)), (pbV (q.s) (q.b) (q.x)))] ++ [((pushV (q.p) (q.k)), (hasV (q.s) 207), (clr (q.a)), (pullS (q.x)))])) (cond (D 11) (∃ cs2, Mem w.heap.size [] w wv (((bq 11).1, cs2) :: [(R5, cf), (R4, cb), (Rq, akC q)]) ∧ RowC cs2 (bq 11).2 ((toldQ q).take 8 ++ [((oneI (hasV (q.p) (q.b))), (hasV (q.s) (q.b)), (pbV (q.p) (q.b) (q.a != 0)), (pbV (q.s) (q.b) (q.x)))] ++ [((pushV (q.p) (q.k)), (hasV (q.s) 207), (clr (q.a)), (pullS (q.x)))])) (Mem w.heap.size [] w wv (cond (D 10) (((bq 10).1, (flatRes [((pushV (q.p) (q.k)), (hasV (q.s) 207), (clr (q.a)), (pullS (q.x)))]).toArray) :: [(Ro, cs), (R5, cf), (R4, cb), (Rq, akC q)]) [(Ro, cs), (R5, cf), (R4, cb), (Rq, akC q)])))) 179 (by rfl) (by rfl) (by rfl) H.drew ⟨⟨rfl, ?p0⟩, ⟨rfl, ?p1⟩, ⟨rfl, ?p2⟩, ⟨rfl, ?p3⟩, ⟨rfl, ?p4⟩, ⟨rfl, ?p5⟩, ⟨rfl, ?p6⟩, ⟨rfl, ?p7⟩, ⟨rfl, ?p8⟩, ⟨rfl, ?p9⟩, ⟨rfl, ?p10⟩, ⟨rfl, ?p11⟩, ⟨rfl, ?p12⟩, trivial⟩ ?_
  case p0 =>
    intro D bq a' w' hk hc he hl hW
    (try dsimp only at hW)
    have n11 : D 11 = false := hc.no .data hk rfl (by simp) rfl
    have n12 : D 12 = false := hc.no .phase hk rfl (by simp) rfl
    have hW0 := pcond_f n11 (pcond_f n12 hW)
    have f3 : a'.tmps.getD 3 undef = .slice (some ⟨Ro, 0, none⟩) 9 cap := (hl 3).trans ((vsy_off rfl n12 rfl).trans rfl)
    exact wp_val (.slice (some ⟨Ro, 0, none⟩) 9 cap) (by simp only [execOp, Act.eval, List.map_toArray, List.map_cons, List.map_nil]; rw [f3]; kernel_rfl) ⟨(0, 0), rfl, pcond_mk n12 (pcond_mk n11 (hW0))⟩
  case p1 =>
    intro D bq a' w' hk hc he hl hW
    (try dsimp only at hW)
    have n2 : D 2 = false := hc.no .data hk rfl (by simp) rfl
    have n5 : D 5 = false := hc.no .data n2 rfl (by simp) rfl
    have n8 : D 8 = false := hc.no .chain n5 rfl (by simp) rfl
    have n11 : D 11 = false := hc.no .chain n8 rfl (by simp) rfl
    have n12 : D 12 = false := hc.no .phase hk rfl (by simp) rfl
    have hW0 := pcond_f n11 (pcond_f n12 hW)
    have f1 : a'.tmps.getD 1 undef = .pointer (some ⟨Rq, 0, none⟩) := (hl 1).trans ((vsy_no rfl).trans rfl)
    exact wp_val (.pointer (some ⟨Rq, 0, none⟩)) (by simp only [execOp, Act.eval, List.map_toArray, List.map_cons, List.map_nil]; rw [f1]; kernel_rfl) ⟨(0, 0), rfl, pcond_mk n12 (pcond_mk n11 (hW0))⟩
  case p2 =>
    intro D bq a' w' hk hc he hl hW
    (try dsimp only at hW)
    have n5 : D 5 = false := hc.no .data hk rfl (by simp) rfl
    have n8 : D 8 = false := hc.no .chain n5 rfl (by simp) rfl
    have n11 : D 11 = false := hc.no .chain n8 rfl (by simp) rfl
    have n12 : D 12 = false := hc.no .phase hk rfl (by simp) rfl
    have hW0 := pcond_f n11 (pcond_f n12 hW)
    have e1 : a'.tmps.getD 143 undef = .pointer (some ⟨Rq, 0, none⟩) := (hl 143).trans (vsy_at (f := fun _ => .pointer (some ⟨Rq, 0, none⟩)) rfl (he ⟨1, .data⟩ (by simp) rfl) rfl)
    exact wp_sload _ _ rfl _ _ e1 3 (Mem.condB hW0) (akC q) #[.int .u8 (q.p), .int .u8 (q.s)] rfl (by kernel_rfl) (by kernel_rfl) (ak_f q) ⟨(0, 0), rfl, pcond_mk n12 (pcond_mk n11 (hW0))⟩
  case p3 =>
    intro D bq a' w' hk hc he hl hW
    (try dsimp only at hW)
    have n4 : D 4 = false := hc.no .data hk rfl (by simp) rfl
    have n5 : D 5 = false := hc.no .data n4 rfl (by simp) rfl
    have n8 : D 8 = false := hc.no .chain n5 rfl (by simp) rfl
    have n11 : D 11 = false := hc.no .chain n8 rfl (by simp) rfl
    have n12 : D 12 = false := hc.no .phase hk rfl (by simp) rfl
    have hW0 := pcond_f n11 (pcond_f n12 hW)
    have f1 : a'.tmps.getD 1 undef = .pointer (some ⟨Rq, 0, none⟩) := (hl 1).trans ((vsy_no rfl).trans rfl)
    exact wp_val (.pointer (some ⟨Rq, 7, none⟩)) (by simp only [execOp, Act.eval, List.map_toArray, List.map_cons, List.map_nil]; rw [f1]; kernel_rfl) ⟨(0, 0), rfl, pcond_mk n12 (pcond_mk n11 (hW0))⟩
  case p4 =>
    intro D bq a' w' hk hc he hl hW
    (try dsimp only at hW)
    have n5 : D 5 = false := hc.no .data hk rfl (by simp) rfl
    have n8 : D 8 = false := hc.no .chain n5 rfl (by simp) rfl
    have n11 : D 11 = false := hc.no .chain n8 rfl (by simp) rfl
    have n12 : D 12 = false := hc.no .phase hk rfl (by simp) rfl
    have hW0 := pcond_f n11 (pcond_f n12 hW)
    have e3 : a'.tmps.getD 145 undef = .pointer (some ⟨Rq, 7, none⟩) := (hl 145).trans (vsy_at (f := fun _ => .pointer (some ⟨Rq, 7, none⟩)) rfl (he ⟨3, .data⟩ (by simp) rfl) rfl)
    exact wp_sload1 _ _ rfl _ _ e3 3 (Mem.condB hW0) _ (.bool (q.k)) rfl rfl (by decide +kernel) ⟨(0, 0), rfl, pcond_mk n12 (pcond_mk n11 (hW0))⟩
  case p5 =>
    intro D bq a' w' hk hc he hl hW
    (try dsimp only at hW)
    have n8 : D 8 = false := hc.no .chain hk rfl (by simp) rfl
    have n11 : D 11 = false := hc.no .chain n8 rfl (by simp) rfl
    have n12 : D 12 = false := hc.no .phase hk rfl (by simp) rfl
    have hW0 := pcond_f n11 (pcond_f n12 hW)
    have e2 : a'.tmps.getD 144 undef = .agg #[.int .u8 (q.p), .int .u8 (q.s)] := (hl 144).trans (vsy_at (f := fun _ => .agg #[.int .u8 (q.p), .int .u8 (q.s)]) rfl (he ⟨2, .data⟩ (by simp) rfl) rfl)
    have e4 : a'.tmps.getD 146 undef = .bool (q.k) := (hl 146).trans (vsy_at (f := fun _ => .bool (q.k)) rfl (he ⟨4, .data⟩ (by simp) rfl) rfl)
    refine wp_callp (vals := #[.agg #[.int .u8 (q.p), .int .u8 (q.s)], .bool (q.k)]) rfl rfl (by simp only [List.map_toArray, List.map_cons, List.map_nil, Act.eval, e2, e4]) (by kernel_rfl) (apush_ct (q.p) (q.s) (q.k) w' (by first | assumption | with_reducible exact (pbV_le _ _ _).1 | with_reducible exact (pbV_le _ _ _).2 | with_reducible exact (nzP_le _ _).1 | with_reducible exact (nzP_le _ _).2 | with_reducible exact (nzS_le _ _).1 | with_reducible exact (nzS_le _ _).2 | with_reducible exact (clr_le _ (by assumption) (by assumption)).1 | with_reducible exact (clr_le _ (by assumption) (by assumption)).2 | with_reducible exact (clr_le _ (nzP_le _ _).1 (nzP_le _ _).2).1 | with_reducible exact (clr_le _ (nzP_le _ _).1 (nzP_le _ _).2).2 | with_reducible exact (clr_le _ (nzS_le _ _).1 (nzS_le _ _).2).1 | with_reducible exact (clr_le _ (nzS_le _ _).1 (nzS_le _ _).2).2 | with_reducible exact (clr_le _ (pbV_le _ _ _).1 (pbV_le _ _ _).2).1 | with_reducible exact (clr_le _ (pbV_le _ _ _).1 (pbV_le _ _ _).2).2 | with_reducible exact (adcV_le _ _ _).1 | with_reducible exact (adcV_le _ _ _).2 | with_reducible exact (lessV_le _ _).1 | with_reducible exact (lessV_le _ _).2 | with_reducible exact (leftV_le _ _).1 | with_reducible exact (leftV_le _ _).2 | with_reducible exact (rightV_le _ _).1 | with_reducible exact (rightV_le _ _).2 | with_reducible exact (bothV_le _ _ (by assumption) (by assumption) (by assumption) (by assumption)).1 | with_reducible exact (bothV_le _ _ (by assumption) (by assumption) (by assumption) (by assumption)).2 | decide | omega) (by first | assumption | with_reducible exact (pbV_le _ _ _).1 | with_reducible exact (pbV_le _ _ _).2 | with_reducible exact (nzP_le _ _).1 | with_reducible exact (nzP_le _ _).2 | with_reducible exact (nzS_le _ _).1 | with_reducible exact (nzS_le _ _).2 | with_reducible exact (clr_le _ (by assumption) (by assumption)).1 | with_reducible exact (clr_le _ (by assumption) (by assumption)).2 | with_reducible exact (clr_le _ (nzP_le _ _).1 (nzP_le _ _).2).1 | with_reducible exact (clr_le _ (nzP_le _ _).1 (nzP_le _ _).2).2 | with_reducible exact (clr_le _ (nzS_le _ _).1 (nzS_le _ _).2).1 | with_reducible exact (clr_le _ (nzS_le _ _).1 (nzS_le _ _).2).2 | with_reducible exact (clr_le _ (pbV_le _ _ _).1 (pbV_le _ _ _).2).1 | with_reducible exact (clr_le _ (pbV_le _ _ _).1 (pbV_le _ _ _).2).2 | with_reducible exact (adcV_le _ _ _).1 | with_reducible exact (adcV_le _ _ _).2 | with_reducible exact (lessV_le _ _).1 | with_reducible exact (lessV_le _ _).2 | with_reducible exact (leftV_le _ _).1 | with_reducible exact (leftV_le _ _).2 | with_reducible exact (rightV_le _ _).1 | with_reducible exact (rightV_le _ _).2 | with_reducible exact (bothV_le _ _ (by assumption) (by assumption) (by assumption) (by assumption)).1 | with_reducible exact (bothV_le _ _ (by assumption) (by assumption) (by assumption) (by assumption)).2 | decide | omega) (by first | assumption | with_reducible exact (pbV_le _ _ _).1 | with_reducible exact (pbV_le _ _ _).2 | with_reducible exact (nzP_le _ _).1 | with_reducible exact (nzP_le _ _).2 | with_reducible exact (nzS_le _ _).1 | with_reducible exact (nzS_le _ _).2 | with_reducible exact (clr_le _ (by assumption) (by assumption)).1 | with_reducible exact (clr_le _ (by assumption) (by assumption)).2 | with_reducible exact (clr_le _ (nzP_le _ _).1 (nzP_le _ _).2).1 | with_reducible exact (clr_le _ (nzP_le _ _).1 (nzP_le _ _).2).2 | with_reducible exact (clr_le _ (nzS_le _ _).1 (nzS_le _ _).2).1 | with_reducible exact (clr_le _ (nzS_le _ _).1 (nzS_le _ _).2).2 | with_reducible exact (clr_le _ (pbV_le _ _ _).1 (pbV_le _ _ _).2).1 | with_reducible exact (clr_le _ (pbV_le _ _ _).1 (pbV_le _ _ _).2).2 | with_reducible exact (adcV_le _ _ _).1 | with_reducible exact (adcV_le _ _ _).2 | with_reducible exact (lessV_le _ _).1 | with_reducible exact (lessV_le _ _).2 | with_reducible exact (leftV_le _ _).1 | with_reducible exact (leftV_le _ _).2 | with_reducible exact (rightV_le _ _).1 | with_reducible exact (rightV_le _ _).2 | with_reducible exact (bothV_le _ _ (by assumption) (by assumption) (by assumption) (by assumption)).1 | with_reducible exact (bothV_le _ _ (by assumption) (by assumption) (by assumption) (by assumption)).2 | decide | omega) (by first | assumption | with_reducible exact (pbV_le _ _ _).1 | with_reducible exact (pbV_le _ _ _).2 | with_reducible exact (nzP_le _ _).1 | with_reducible exact (nzP_le _ _).2 | with_reducible exact (nzS_le _ _).1 | with_reducible exact (nzS_le _ _).2 | with_reducible exact (clr_le _ (by assumption) (by assumption)).1 | with_reducible exact (clr_le _ (by assumption) (by assumption)).2 | with_reducible exact (clr_le _ (nzP_le _ _).1 (nzP_le _ _).2).1 | with_reducible exact (clr_le _ (nzP_le _ _).1 (nzP_le _ _).2).2 | with_reducible exact (clr_le _ (nzS_le _ _).1 (nzS_le _ _).2).1 | with_reducible exact (clr_le _ (nzS_le _ _).1 (nzS_le _ _).2).2 | with_reducible exact (clr_le _ (pbV_le _ _ _).1 (pbV_le _ _ _).2).1 | with_reducible exact (clr_le _ (pbV_le _ _ _).1 (pbV_le _ _ _).2).2 | with_reducible exact (adcV_le _ _ _).1 | with_reducible exact (adcV_le _ _ _).2 | with_reducible exact (lessV_le _ _).1 | with_reducible exact (lessV_le _ _).2 | with_reducible exact (leftV_le _ _).1 | with_reducible exact (leftV_le _ _).2 | with_reducible exact (rightV_le _ _).1 | with_reducible exact (rightV_le _ _).2 | with_reducible exact (bothV_le _ _ (by assumption) (by assumption) (by assumption) (by assumption)).1 | with_reducible exact (bothV_le _ _ (by assumption) (by assumption) (by assumption) (by assumption)).2 | decide | omega)) ?_
    rintro e w2 ⟨rfl, hB⟩
    exact ⟨_, rfl, (0, 0), rfl, pcond_mk n12 (pcond_mk n11 (Mem.next hW0 hB))⟩
  case p6 =>
    intro D bq a' w' hk hc he hl hW
    (try dsimp only at hW)
    have n7 : D 7 = false := hc.no .data hk rfl (by simp) rfl
    have n8 : D 8 = false := hc.no .data n7 rfl (by simp) rfl
    have n11 : D 11 = false := hc.no .chain n8 rfl (by simp) rfl
    have n12 : D 12 = false := hc.no .phase hk rfl (by simp) rfl
    have hW0 := pcond_f n11 (pcond_f n12 hW)
    have f1 : a'.tmps.getD 1 undef = .pointer (some ⟨Rq, 0, none⟩) := (hl 1).trans ((vsy_no rfl).trans rfl)
    exact wp_val (.pointer (some ⟨Rq, 2, none⟩)) (by simp only [execOp, Act.eval, List.map_toArray, List.map_cons, List.map_nil]; rw [f1]; kernel_rfl) ⟨(0, 0), rfl, pcond_mk n12 (pcond_mk n11 (hW0))⟩
  case p7 =>
    intro D bq a' w' hk hc he hl hW
    (try dsimp only at hW)
    have n8 : D 8 = false := hc.no .data hk rfl (by simp) rfl
    have n11 : D 11 = false := hc.no .chain n8 rfl (by simp) rfl
    have n12 : D 12 = false := hc.no .phase hk rfl (by simp) rfl
    have hW0 := pcond_f n11 (pcond_f n12 hW)
    have e6 : a'.tmps.getD 148 undef = .pointer (some ⟨Rq, 2, none⟩) := (hl 148).trans (vsy_at (f := fun _ => .pointer (some ⟨Rq, 2, none⟩)) rfl (he ⟨6, .data⟩ (by simp) rfl) rfl)
    exact wp_sload _ _ rfl _ _ e6 3 (Mem.condB hW0) (akC q) #[.int .u8 (q.a), .bool (q.x)] rfl (by kernel_rfl) (by kernel_rfl) (ak_a q) ⟨(0, 0), rfl, pcond_mk n12 (pcond_mk n11 (hW0))⟩
  case p8 =>
    intro D bq a' w' hk hc he hl hW
    (try dsimp only at hW)
    have n11 : D 11 = false := hc.no .chain hk rfl (by simp) rfl
    have n12 : D 12 = false := hc.no .phase hk rfl (by simp) rfl
    have hW0 := pcond_f n11 (pcond_f n12 hW)
    have e7 : a'.tmps.getD 149 undef = .agg #[.int .u8 (q.a), .bool (q.x)] := (hl 149).trans (vsy_at (f := fun _ => .agg #[.int .u8 (q.a), .bool (q.x)]) rfl (he ⟨7, .data⟩ (by simp) rfl) rfl)
    refine wp_callp (vals := #[.agg #[.int .u8 (q.a), .bool (q.x)]]) rfl rfl (by simp only [List.map_toArray, List.map_cons, List.map_nil, Act.eval, e7]) (by kernel_rfl) (apull_ct (q.a) (q.x) w' (by first | assumption | with_reducible exact (pbV_le _ _ _).1 | with_reducible exact (pbV_le _ _ _).2 | with_reducible exact (nzP_le _ _).1 | with_reducible exact (nzP_le _ _).2 | with_reducible exact (nzS_le _ _).1 | with_reducible exact (nzS_le _ _).2 | with_reducible exact (clr_le _ (by assumption) (by assumption)).1 | with_reducible exact (clr_le _ (by assumption) (by assumption)).2 | with_reducible exact (clr_le _ (nzP_le _ _).1 (nzP_le _ _).2).1 | with_reducible exact (clr_le _ (nzP_le _ _).1 (nzP_le _ _).2).2 | with_reducible exact (clr_le _ (nzS_le _ _).1 (nzS_le _ _).2).1 | with_reducible exact (clr_le _ (nzS_le _ _).1 (nzS_le _ _).2).2 | with_reducible exact (clr_le _ (pbV_le _ _ _).1 (pbV_le _ _ _).2).1 | with_reducible exact (clr_le _ (pbV_le _ _ _).1 (pbV_le _ _ _).2).2 | with_reducible exact (adcV_le _ _ _).1 | with_reducible exact (adcV_le _ _ _).2 | with_reducible exact (lessV_le _ _).1 | with_reducible exact (lessV_le _ _).2 | with_reducible exact (leftV_le _ _).1 | with_reducible exact (leftV_le _ _).2 | with_reducible exact (rightV_le _ _).1 | with_reducible exact (rightV_le _ _).2 | with_reducible exact (bothV_le _ _ (by assumption) (by assumption) (by assumption) (by assumption)).1 | with_reducible exact (bothV_le _ _ (by assumption) (by assumption) (by assumption) (by assumption)).2 | decide | omega) (by first | assumption | with_reducible exact (pbV_le _ _ _).1 | with_reducible exact (pbV_le _ _ _).2 | with_reducible exact (nzP_le _ _).1 | with_reducible exact (nzP_le _ _).2 | with_reducible exact (nzS_le _ _).1 | with_reducible exact (nzS_le _ _).2 | with_reducible exact (clr_le _ (by assumption) (by assumption)).1 | with_reducible exact (clr_le _ (by assumption) (by assumption)).2 | with_reducible exact (clr_le _ (nzP_le _ _).1 (nzP_le _ _).2).1 | with_reducible exact (clr_le _ (nzP_le _ _).1 (nzP_le _ _).2).2 | with_reducible exact (clr_le _ (nzS_le _ _).1 (nzS_le _ _).2).1 | with_reducible exact (clr_le _ (nzS_le _ _).1 (nzS_le _ _).2).2 | with_reducible exact (clr_le _ (pbV_le _ _ _).1 (pbV_le _ _ _).2).1 | with_reducible exact (clr_le _ (pbV_le _ _ _).1 (pbV_le _ _ _).2).2 | with_reducible exact (adcV_le _ _ _).1 | with_reducible exact (adcV_le _ _ _).2 | with_reducible exact (lessV_le _ _).1 | with_reducible exact (lessV_le _ _).2 | with_reducible exact (leftV_le _ _).1 | with_reducible exact (leftV_le _ _).2 | with_reducible exact (rightV_le _ _).1 | with_reducible exact (rightV_le _ _).2 | with_reducible exact (bothV_le _ _ (by assumption) (by assumption) (by assumption) (by assumption)).1 | with_reducible exact (bothV_le _ _ (by assumption) (by assumption) (by assumption) (by assumption)).2 | decide | omega)) ?_
    rintro e w2 ⟨rfl, hB⟩
    exact ⟨_, rfl, (0, 0), rfl, pcond_mk n12 (pcond_mk n11 (Mem.next hW0 hB))⟩
  case p9 =>
    intro D bq a' w' hk hc he hl hW
    (try dsimp only at hW)
    have n10 : D 10 = false := hc.no .data hk rfl (by simp) rfl
    have n11 : D 11 = false := hc.no .data n10 rfl (by simp) rfl
    have n12 : D 12 = false := hc.no .phase hk rfl (by simp) rfl
    have hW0 := pcond_f n11 (pcond_f n12 hW)
    have e5 : a'.tmps.getD 147 undef = .agg #[.int .u8 (pushV (q.p) (q.k)), .bool (hasV (q.s) 207)] := (hl 147).trans (vsy_at (f := fun _ => .agg #[.int .u8 (pushV (q.p) (q.k)), .bool (hasV (q.s) 207)]) rfl (he ⟨5, .data⟩ (by simp) rfl) rfl)
    have e8 : a'.tmps.getD 150 undef = .agg #[.int .u8 (clr (q.a)), .int .u8 (pullS (q.x))] := (hl 150).trans (vsy_at (f := fun _ => .agg #[.int .u8 (clr (q.a)), .int .u8 (pullS (q.x))]) rfl (he ⟨8, .data⟩ (by simp) rfl) rfl)
    exact wp_val (.agg #[.int .u8 (pushV (q.p) (q.k)), .bool (hasV (q.s) 207), .int .u8 (clr (q.a)), .int .u8 (pullS (q.x))]) (by simp only [execOp, Act.eval, List.map_toArray, List.map_cons, List.map_nil]; rw [e5, e8]; kernel_rfl) ⟨(0, 0), rfl, pcond_mk n12 (pcond_mk n11 (hW0))⟩
  case p10 =>
    intro D bq a' w' hk hc he hl hW
    (try dsimp only at hW)
    have n11 : D 11 = false := hc.no .data hk rfl (by simp) rfl
    have n12 : D 12 = false := hc.no .phase hk rfl (by simp) rfl
    have hW0 := pcond_f n11 (pcond_f n12 hW)
    have e9 : a'.tmps.getD 151 undef = .agg #[.int .u8 (pushV (q.p) (q.k)), .bool (hasV (q.s) 207), .int .u8 (clr (q.a)), .int .u8 (pullS (q.x))] := (hl 151).trans (vsy_at (f := fun _ => .agg #[.int .u8 (pushV (q.p) (q.k)), .bool (hasV (q.s) 207), .int .u8 (clr (q.a)), .int .u8 (pullS (q.x))]) rfl (he ⟨9, .data⟩ (by simp) rfl) rfl)
    have hM := Mem.ofF hk hW0
    have hA := fun T => Mem.new hM (flatRes [((pushV (q.p) (q.k)), (hasV (q.s) 207), (clr (q.a)), (pullS (q.x)))]).toArray T
    exact wp_row _ _ _ rfl _ (by simp only [List.map_toArray, List.map_cons, List.map_nil, Act.eval, e9]) _ _ (build_rs1 (pushV (q.p) (q.k)) (hasV (q.s) 207) (clr (q.a)) (pullS (q.x))) ⟨(_, 0), rfl, pcond_mk n12 (pcond_mk n11 (hA _))⟩
  case p11 =>
    intro D bq a' w' hk hc he hl hW
    (try dsimp only at hW)
    have n12 : D 12 = false := hc.no .data hk rfl (by simp) rfl
    have hW0 := pcond_f hk (pcond_f n12 hW)
    have e0 : a'.tmps.getD 142 undef = .slice (some ⟨Ro, 0, none⟩) 9 cap := (hl 142).trans (vsy_at (f := fun _ => .slice (some ⟨Ro, 0, none⟩) 9 cap) rfl (he ⟨0, .data⟩ (by simp) rfl) rfl)
    have e10 : a'.tmps.getD 152 undef = .slice (some ⟨(bq 10).1, 0, none⟩) 1 1 := (hl 152).trans (vsy_at (f := fun R : Nat × Nat => .slice (some ⟨R.1, 0, none⟩) 1 1) rfl (he ⟨10, .data⟩ (by simp) rfl) rfl)
    have hM := Mem.ofT (he ⟨10, .data⟩ (by simp) rfl) hW0
    obtain ⟨Rn, cs2, cap2, w2, hr, h2, h3⟩ := mem_app 42 9 cap ((toldQ q).take 8 ++ [((oneI (hasV (q.p) (q.b))), (hasV (q.s) (q.b)), (pbV (q.p) (q.b) (q.a != 0)), (pbV (q.s) (q.b) (q.x)))]) [((pushV (q.p) (q.k)), (hasV (q.s) 207), (clr (q.a)), (pullS (q.x)))] 1 rfl rfl (by decide) (by decide) hC hM
    exact wp_apx _ _ _ _ rfl _ _ e0 e10 _ w2 hr ⟨(Rn, cap2), rfl, pcond_mk n12 ⟨cs2, h2, h3⟩⟩
  case p12 =>
    intro D bq a' w' hk hc he hl hW
    (try dsimp only at hW)
    have e11 : a'.tmps.getD 153 undef = .slice (some ⟨(bq 11).1, 0, none⟩) 10 (bq 11).2 := (hl 153).trans (vsy_at (f := fun R : Nat × Nat => .slice (some ⟨R.1, 0, none⟩) 10 R.2) rfl (he ⟨11, .data⟩ (by simp) rfl) rfl)
    have hP := pcond_t (he ⟨11, .data⟩ (by simp) rfl) (pcond_f hk hW)
    exact wp_val (.slice (some ⟨(bq 11).1, 0, none⟩) 10 (bq 11).2) (by simp only [execOp, Act.eval, List.map_toArray, List.map_cons, List.map_nil]; rw [e11]; kernel_rfl) ⟨bq 11, rfl, hP⟩
  intro D bq wv hD hW
  (try dsimp only at hW)
  obtain ⟨cs2, H2, hC2⟩ := pcond_t (hD 12 (by decide)) hW
  clear H hC hD hW
  simp only [putAll, vsYf, Nat.reduceAdd, List.foldl_cons, List.foldl_nil, Act.put, List.setIfInBounds_toArray, List.set_cons_succ, List.set_cons_zero]
  generalize bq 12 = r12 at *
  (try generalize bq 11 = r11 at *)
  (try generalize bq 10 = r10 at *)
  obtain ⟨Ro, cap⟩ := r12
  have H := H2
  have hC := hC2
  clear H2 hC2
  dsimp only at H hC ⊢
  generalize cs2 = cs at *
  go_wp2_with fail
  (try simp only [Act.put, List.setIfInBounds_toArray, List.set_cons_succ, List.set_cons_zero])
  refine wp_region_y ((0, 0) : Nat × Nat) (by kernel_rfl) (by kernel_rfl) [(some 154, fun _ => .slice (some ⟨Ro, 0, none⟩) 10 cap), (some 155, fun _ => .pointer (some ⟨Rq, 0, none⟩)), (some 156, fun _ => .agg #[.int .u8 (q.p), .int .u8 (q.s)]), (some 157, fun _ => .pointer (some ⟨Rq, 2, none⟩)), (some 158, fun _ => .agg #[.int .u8 (q.a), .bool (q.x)]), (some 159, fun _ => .pointer (some ⟨Rq, 4, none⟩)), (some 160, fun _ => .agg #[.int .u8 (q.m), .bool (q.y)]), (some 161, fun _ => .agg #[.int .u8 (lessP (q.p) (q.a) (q.m)), .int .u8 (lessS (q.s) ((q.x) || (q.y)))]), (some 162, fun _ => .agg #[.int .u8 (0), .bool (false), .int .u8 (lessP (q.p) (q.a) (q.m)), .int .u8 (lessS (q.s) ((q.x) || (q.y)))]), (some 163, fun _ => .pointer (some ⟨Rq, 0, none⟩)), (some 164, fun _ => .agg #[.int .u8 (q.p), .int .u8 (q.s)]), (some 165, fun _ => .pointer (some ⟨Rq, 2, none⟩)), (some 166, fun _ => .agg #[.int .u8 (q.a), .bool (q.x)]), (some 167, fun _ => .pointer (some ⟨Rq, 4, none⟩)), (some 168, fun _ => .agg #[.int .u8 (q.m), .bool (q.y)]), (some 169, fun _ => .agg #[.int .u8 (bitP (q.p) (q.a) (q.m)), .int .u8 (bitS (q.s) (q.x) (q.y))]), (some 170, fun _ => .agg #[.int .u8 (0), .bool (false), .int .u8 (bitP (q.p) (q.a) (q.m)), .int .u8 (bitS (q.s) (q.x) (q.y))]), (some 171, fun _ => .pointer (some ⟨Rq, 0, none⟩)), (some 172, fun _ => .agg #[.int .u8 (q.p), .int .u8 (q.s)]), (some 173, fun _ => .pointer (some ⟨Rq, 2, none⟩)), (some 174, fun _ => .agg #[.int .u8 (q.a), .bool (q.x)]), (some 175, fun _ => .agg #[.int .u8 (nzP (q.p) (q.a)), .int .u8 (nzS (q.s) (q.x))]), (some 176, fun _ => .agg #[.int .u8 (0), .bool (false), .int .u8 (nzP (q.p) (q.a)), .int .u8 (nzS (q.s) (q.x))]), (some 177, fun R : Nat × Nat => .slice (some ⟨R.1, 0, none⟩) 3 3), (some 178, fun R : Nat × Nat => .slice (some ⟨R.1, 0, none⟩) 13 R.2), (some 2, fun R : Nat × Nat => .slice (some ⟨R.1, 0, none⟩) 13 R.2)] (fun D bq wv => cond (D 25) (∃ cs2, Mem w.heap.size [] w wv (((bq 25).1, cs2) :: [(R5, cf), (R4, cb), (Rq, akC q)]) ∧ RowC cs2 (bq 25).2 ((toldQ q).take 8 ++ [((oneI (hasV (q.p) (q.b))), (hasV (q.s) (q.b)), (pbV (q.p) (q.b) (q.a != 0)), (pbV (q.s) (q.b) (q.x)))] ++ [((pushV (q.p) (q.k)), (hasV (q.s) 207), (clr (q.a)), (pullS (q.x)))] ++ [((0), (false), (lessP (q.p) (q.a) (q.m)), (lessS (q.s) ((q.x) || (q.y)))), ((0), (false), (bitP (q.p) (q.a) (q.m)), (bitS (q.s) (q.x) (q.y))), ((0), (false), (nzP (q.p) (q.a)), (nzS (q.s) (q.x)))])) (cond (D 24) (∃ cs2, Mem w.heap.size [] w wv (((bq 24).1, cs2) :: [(R5, cf), (R4, cb), (Rq, akC q)]) ∧ RowC cs2 (bq 24).2 ((toldQ q).take 8 ++ [((oneI (hasV (q.p) (q.b))), (hasV (q.s) (q.b)), (pbV (q.p) (q.b) (q.a != 0)), (pbV (q.s) (q.b) (q.x)))] ++ [((pushV (q.p) (q.k)), (hasV (q.s) 207), (clr (q.a)), (pullS (q.x)))] ++ [((0), (false), (lessP (q.p) (q.a) (q.m)), (lessS (q.s) ((q.x) || (q.y)))), ((0), (false), (bitP (q.p) (q.a) (q.m)), (bitS (q.s) (q.x) (q.y))), ((0), (false), (nzP (q.p) (q.a)), (nzS (q.s) (q.x)))])) (Mem w.heap.size [] w wv (cond (D 23) (((bq 23).1, (flatRes [((0), (false), (lessP (q.p) (q.a) (q.m)), (lessS (q.s) ((q.x) || (q.y)))), ((0), (false), (bitP (q.p) (q.a) (q.m)), (bitS (q.s) (q.x) (q.y))), ((0), (false), (nzP (q.p) (q.a)), (nzS (q.s) (q.x)))]).toArray) :: [(Ro, cs), (R5, cf), (R4, cb), (Rq, akC q)]) [(Ro, cs), (R5, cf), (R4, cb), (Rq, akC q)])))) 179 (by rfl) (by rfl) (by rfl) H.drew ⟨⟨rfl, ?p0⟩, ⟨rfl, ?p1⟩, ⟨rfl, ?p2⟩, ⟨rfl, ?p3⟩, ⟨rfl, ?p4⟩, ⟨rfl, ?p5⟩, ⟨rfl, ?p6⟩, ⟨rfl, ?p7⟩, ⟨rfl, ?p8⟩, ⟨rfl, ?p9⟩, ⟨rfl, ?p10⟩, ⟨rfl, ?p11⟩, ⟨rfl, ?p12⟩, ⟨rfl, ?p13⟩, ⟨rfl, ?p14⟩, ⟨rfl, ?p15⟩, ⟨rfl, ?p16⟩, ⟨rfl, ?p17⟩, ⟨rfl, ?p18⟩, ⟨rfl, ?p19⟩, ⟨rfl, ?p20⟩, ⟨rfl, ?p21⟩, ⟨rfl, ?p22⟩, ⟨rfl, ?p23⟩, ⟨rfl, ?p24⟩, ⟨rfl, ?p25⟩, trivial⟩ ?_
  case p0 =>
    intro D bq a' w' hk hc he hl hW
    (try dsimp only at hW)
    have n24 : D 24 = false := hc.no .data hk rfl (by simp) rfl
    have n25 : D 25 = false := hc.no .phase hk rfl (by simp) rfl
    have hW0 := pcond_f n24 (pcond_f n25 hW)
    have f3 : a'.tmps.getD 3 undef = .slice (some ⟨Ro, 0, none⟩) 10 cap := (hl 3).trans ((vsy_no rfl).trans rfl)
    exact wp_val (.slice (some ⟨Ro, 0, none⟩) 10 cap) (by simp only [execOp, Act.eval, List.map_toArray, List.map_cons, List.map_nil]; rw [f3]; kernel_rfl) ⟨(0, 0), rfl, pcond_mk n25 (pcond_mk n24 (hW0))⟩
  case p1 =>
    intro D bq a' w' hk hc he hl hW
    (try dsimp only at hW)
    have n2 : D 2 = false := hc.no .data hk rfl (by simp) rfl
    have n7 : D 7 = false := hc.no .data n2 rfl (by simp) rfl
    have n8 : D 8 = false := hc.no .data n7 rfl (by simp) rfl
    have n23 : D 23 = false := hc.no .data n8 rfl (by simp) rfl
    have n24 : D 24 = false := hc.no .data n23 rfl (by simp) rfl
    have n25 : D 25 = false := hc.no .phase hk rfl (by simp) rfl
    have hW0 := pcond_f n24 (pcond_f n25 hW)
    have f1 : a'.tmps.getD 1 undef = .pointer (some ⟨Rq, 0, none⟩) := (hl 1).trans ((vsy_no rfl).trans rfl)
    exact wp_val (.pointer (some ⟨Rq, 0, none⟩)) (by simp only [execOp, Act.eval, List.map_toArray, List.map_cons, List.map_nil]; rw [f1]; kernel_rfl) ⟨(0, 0), rfl, pcond_mk n25 (pcond_mk n24 (hW0))⟩
  case p2 =>
    intro D bq a' w' hk hc he hl hW
    (try dsimp only at hW)
    have n7 : D 7 = false := hc.no .data hk rfl (by simp) rfl
    have n8 : D 8 = false := hc.no .data n7 rfl (by simp) rfl
    have n23 : D 23 = false := hc.no .data n8 rfl (by simp) rfl
    have n24 : D 24 = false := hc.no .data n23 rfl (by simp) rfl
    have n25 : D 25 = false := hc.no .phase hk rfl (by simp) rfl
    have hW0 := pcond_f n24 (pcond_f n25 hW)
    have e1 : a'.tmps.getD 155 undef = .pointer (some ⟨Rq, 0, none⟩) := (hl 155).trans (vsy_at (f := fun _ => .pointer (some ⟨Rq, 0, none⟩)) rfl (he ⟨1, .data⟩ (by simp) rfl) rfl)
    exact wp_sload _ _ rfl _ _ e1 3 (Mem.condB hW0) (akC q) #[.int .u8 (q.p), .int .u8 (q.s)] rfl (by kernel_rfl) (by kernel_rfl) (ak_f q) ⟨(0, 0), rfl, pcond_mk n25 (pcond_mk n24 (hW0))⟩
  case p3 =>
    intro D bq a' w' hk hc he hl hW
    (try dsimp only at hW)
    have n4 : D 4 = false := hc.no .data hk rfl (by simp) rfl
    have n7 : D 7 = false := hc.no .data n4 rfl (by simp) rfl
    have n8 : D 8 = false := hc.no .data n7 rfl (by simp) rfl
    have n23 : D 23 = false := hc.no .data n8 rfl (by simp) rfl
    have n24 : D 24 = false := hc.no .data n23 rfl (by simp) rfl
    have n25 : D 25 = false := hc.no .phase hk rfl (by simp) rfl
    have hW0 := pcond_f n24 (pcond_f n25 hW)
    have f1 : a'.tmps.getD 1 undef = .pointer (some ⟨Rq, 0, none⟩) := (hl 1).trans ((vsy_no rfl).trans rfl)
    exact wp_val (.pointer (some ⟨Rq, 2, none⟩)) (by simp only [execOp, Act.eval, List.map_toArray, List.map_cons, List.map_nil]; rw [f1]; kernel_rfl) ⟨(0, 0), rfl, pcond_mk n25 (pcond_mk n24 (hW0))⟩
  case p4 =>
    intro D bq a' w' hk hc he hl hW
    (try dsimp only at hW)
    have n7 : D 7 = false := hc.no .data hk rfl (by simp) rfl
    have n8 : D 8 = false := hc.no .data n7 rfl (by simp) rfl
    have n23 : D 23 = false := hc.no .data n8 rfl (by simp) rfl
    have n24 : D 24 = false := hc.no .data n23 rfl (by simp) rfl
    have n25 : D 25 = false := hc.no .phase hk rfl (by simp) rfl
    have hW0 := pcond_f n24 (pcond_f n25 hW)
    have e3 : a'.tmps.getD 157 undef = .pointer (some ⟨Rq, 2, none⟩) := (hl 157).trans (vsy_at (f := fun _ => .pointer (some ⟨Rq, 2, none⟩)) rfl (he ⟨3, .data⟩ (by simp) rfl) rfl)
    exact wp_sload _ _ rfl _ _ e3 3 (Mem.condB hW0) (akC q) #[.int .u8 (q.a), .bool (q.x)] rfl (by kernel_rfl) (by kernel_rfl) (ak_a q) ⟨(0, 0), rfl, pcond_mk n25 (pcond_mk n24 (hW0))⟩
  case p5 =>
    intro D bq a' w' hk hc he hl hW
    (try dsimp only at hW)
    have n6 : D 6 = false := hc.no .data hk rfl (by simp) rfl
    have n7 : D 7 = false := hc.no .data n6 rfl (by simp) rfl
    have n8 : D 8 = false := hc.no .data n7 rfl (by simp) rfl
    have n23 : D 23 = false := hc.no .data n8 rfl (by simp) rfl
    have n24 : D 24 = false := hc.no .data n23 rfl (by simp) rfl
    have n25 : D 25 = false := hc.no .phase hk rfl (by simp) rfl
    have hW0 := pcond_f n24 (pcond_f n25 hW)
    have f1 : a'.tmps.getD 1 undef = .pointer (some ⟨Rq, 0, none⟩) := (hl 1).trans ((vsy_no rfl).trans rfl)
    exact wp_val (.pointer (some ⟨Rq, 4, none⟩)) (by simp only [execOp, Act.eval, List.map_toArray, List.map_cons, List.map_nil]; rw [f1]; kernel_rfl) ⟨(0, 0), rfl, pcond_mk n25 (pcond_mk n24 (hW0))⟩
  case p6 =>
    intro D bq a' w' hk hc he hl hW
    (try dsimp only at hW)
    have n7 : D 7 = false := hc.no .data hk rfl (by simp) rfl
    have n8 : D 8 = false := hc.no .data n7 rfl (by simp) rfl
    have n23 : D 23 = false := hc.no .data n8 rfl (by simp) rfl
    have n24 : D 24 = false := hc.no .data n23 rfl (by simp) rfl
    have n25 : D 25 = false := hc.no .phase hk rfl (by simp) rfl
    have hW0 := pcond_f n24 (pcond_f n25 hW)
    have e5 : a'.tmps.getD 159 undef = .pointer (some ⟨Rq, 4, none⟩) := (hl 159).trans (vsy_at (f := fun _ => .pointer (some ⟨Rq, 4, none⟩)) rfl (he ⟨5, .data⟩ (by simp) rfl) rfl)
    exact wp_sload _ _ rfl _ _ e5 3 (Mem.condB hW0) (akC q) #[.int .u8 (q.m), .bool (q.y)] rfl (by kernel_rfl) (by kernel_rfl) (ak_m q) ⟨(0, 0), rfl, pcond_mk n25 (pcond_mk n24 (hW0))⟩
  case p7 =>
    intro D bq a' w' hk hc he hl hW
    (try dsimp only at hW)
    have n8 : D 8 = false := hc.no .data hk rfl (by simp) rfl
    have n23 : D 23 = false := hc.no .data n8 rfl (by simp) rfl
    have n24 : D 24 = false := hc.no .data n23 rfl (by simp) rfl
    have n25 : D 25 = false := hc.no .phase hk rfl (by simp) rfl
    have hW0 := pcond_f n24 (pcond_f n25 hW)
    have e2 : a'.tmps.getD 156 undef = .agg #[.int .u8 (q.p), .int .u8 (q.s)] := (hl 156).trans (vsy_at (f := fun _ => .agg #[.int .u8 (q.p), .int .u8 (q.s)]) rfl (he ⟨2, .data⟩ (by simp) rfl) rfl)
    have e4 : a'.tmps.getD 158 undef = .agg #[.int .u8 (q.a), .bool (q.x)] := (hl 158).trans (vsy_at (f := fun _ => .agg #[.int .u8 (q.a), .bool (q.x)]) rfl (he ⟨4, .data⟩ (by simp) rfl) rfl)
    have e6 : a'.tmps.getD 160 undef = .agg #[.int .u8 (q.m), .bool (q.y)] := (hl 160).trans (vsy_at (f := fun _ => .agg #[.int .u8 (q.m), .bool (q.y)]) rfl (he ⟨6, .data⟩ (by simp) rfl) rfl)
    refine wp_callp (vals := #[.agg #[.int .u8 (q.p), .int .u8 (q.s)], .agg #[.int .u8 (q.a), .bool (q.x)], .agg #[.int .u8 (q.m), .bool (q.y)]]) rfl rfl (by simp only [List.map_toArray, List.map_cons, List.map_nil, Act.eval, e2, e4, e6]) (by kernel_rfl) (acmp_ct (q.p) (q.s) (q.a) (q.x) (q.m) (q.y) w' (by first | assumption | with_reducible exact (pbV_le _ _ _).1 | with_reducible exact (pbV_le _ _ _).2 | with_reducible exact (nzP_le _ _).1 | with_reducible exact (nzP_le _ _).2 | with_reducible exact (nzS_le _ _).1 | with_reducible exact (nzS_le _ _).2 | with_reducible exact (clr_le _ (by assumption) (by assumption)).1 | with_reducible exact (clr_le _ (by assumption) (by assumption)).2 | with_reducible exact (clr_le _ (nzP_le _ _).1 (nzP_le _ _).2).1 | with_reducible exact (clr_le _ (nzP_le _ _).1 (nzP_le _ _).2).2 | with_reducible exact (clr_le _ (nzS_le _ _).1 (nzS_le _ _).2).1 | with_reducible exact (clr_le _ (nzS_le _ _).1 (nzS_le _ _).2).2 | with_reducible exact (clr_le _ (pbV_le _ _ _).1 (pbV_le _ _ _).2).1 | with_reducible exact (clr_le _ (pbV_le _ _ _).1 (pbV_le _ _ _).2).2 | with_reducible exact (adcV_le _ _ _).1 | with_reducible exact (adcV_le _ _ _).2 | with_reducible exact (lessV_le _ _).1 | with_reducible exact (lessV_le _ _).2 | with_reducible exact (leftV_le _ _).1 | with_reducible exact (leftV_le _ _).2 | with_reducible exact (rightV_le _ _).1 | with_reducible exact (rightV_le _ _).2 | with_reducible exact (bothV_le _ _ (by assumption) (by assumption) (by assumption) (by assumption)).1 | with_reducible exact (bothV_le _ _ (by assumption) (by assumption) (by assumption) (by assumption)).2 | decide | omega) (by first | assumption | with_reducible exact (pbV_le _ _ _).1 | with_reducible exact (pbV_le _ _ _).2 | with_reducible exact (nzP_le _ _).1 | with_reducible exact (nzP_le _ _).2 | with_reducible exact (nzS_le _ _).1 | with_reducible exact (nzS_le _ _).2 | with_reducible exact (clr_le _ (by assumption) (by assumption)).1 | with_reducible exact (clr_le _ (by assumption) (by assumption)).2 | with_reducible exact (clr_le _ (nzP_le _ _).1 (nzP_le _ _).2).1 | with_reducible exact (clr_le _ (nzP_le _ _).1 (nzP_le _ _).2).2 | with_reducible exact (clr_le _ (nzS_le _ _).1 (nzS_le _ _).2).1 | with_reducible exact (clr_le _ (nzS_le _ _).1 (nzS_le _ _).2).2 | with_reducible exact (clr_le _ (pbV_le _ _ _).1 (pbV_le _ _ _).2).1 | with_reducible exact (clr_le _ (pbV_le _ _ _).1 (pbV_le _ _ _).2).2 | with_reducible exact (adcV_le _ _ _).1 | with_reducible exact (adcV_le _ _ _).2 | with_reducible exact (lessV_le _ _).1 | with_reducible exact (lessV_le _ _).2 | with_reducible exact (leftV_le _ _).1 | with_reducible exact (leftV_le _ _).2 | with_reducible exact (rightV_le _ _).1 | with_reducible exact (rightV_le _ _).2 | with_reducible exact (bothV_le _ _ (by assumption) (by assumption) (by assumption) (by assumption)).1 | with_reducible exact (bothV_le _ _ (by assumption) (by assumption) (by assumption) (by assumption)).2 | decide | omega) (by first | assumption | with_reducible exact (pbV_le _ _ _).1 | with_reducible exact (pbV_le _ _ _).2 | with_reducible exact (nzP_le _ _).1 | with_reducible exact (nzP_le _ _).2 | with_reducible exact (nzS_le _ _).1 | with_reducible exact (nzS_le _ _).2 | with_reducible exact (clr_le _ (by assumption) (by assumption)).1 | with_reducible exact (clr_le _ (by assumption) (by assumption)).2 | with_reducible exact (clr_le _ (nzP_le _ _).1 (nzP_le _ _).2).1 | with_reducible exact (clr_le _ (nzP_le _ _).1 (nzP_le _ _).2).2 | with_reducible exact (clr_le _ (nzS_le _ _).1 (nzS_le _ _).2).1 | with_reducible exact (clr_le _ (nzS_le _ _).1 (nzS_le _ _).2).2 | with_reducible exact (clr_le _ (pbV_le _ _ _).1 (pbV_le _ _ _).2).1 | with_reducible exact (clr_le _ (pbV_le _ _ _).1 (pbV_le _ _ _).2).2 | with_reducible exact (adcV_le _ _ _).1 | with_reducible exact (adcV_le _ _ _).2 | with_reducible exact (lessV_le _ _).1 | with_reducible exact (lessV_le _ _).2 | with_reducible exact (leftV_le _ _).1 | with_reducible exact (leftV_le _ _).2 | with_reducible exact (rightV_le _ _).1 | with_reducible exact (rightV_le _ _).2 | with_reducible exact (bothV_le _ _ (by assumption) (by assumption) (by assumption) (by assumption)).1 | with_reducible exact (bothV_le _ _ (by assumption) (by assumption) (by assumption) (by assumption)).2 | decide | omega) (by first | assumption | with_reducible exact (pbV_le _ _ _).1 | with_reducible exact (pbV_le _ _ _).2 | with_reducible exact (nzP_le _ _).1 | with_reducible exact (nzP_le _ _).2 | with_reducible exact (nzS_le _ _).1 | with_reducible exact (nzS_le _ _).2 | with_reducible exact (clr_le _ (by assumption) (by assumption)).1 | with_reducible exact (clr_le _ (by assumption) (by assumption)).2 | with_reducible exact (clr_le _ (nzP_le _ _).1 (nzP_le _ _).2).1 | with_reducible exact (clr_le _ (nzP_le _ _).1 (nzP_le _ _).2).2 | with_reducible exact (clr_le _ (nzS_le _ _).1 (nzS_le _ _).2).1 | with_reducible exact (clr_le _ (nzS_le _ _).1 (nzS_le _ _).2).2 | with_reducible exact (clr_le _ (pbV_le _ _ _).1 (pbV_le _ _ _).2).1 | with_reducible exact (clr_le _ (pbV_le _ _ _).1 (pbV_le _ _ _).2).2 | with_reducible exact (adcV_le _ _ _).1 | with_reducible exact (adcV_le _ _ _).2 | with_reducible exact (lessV_le _ _).1 | with_reducible exact (lessV_le _ _).2 | with_reducible exact (leftV_le _ _).1 | with_reducible exact (leftV_le _ _).2 | with_reducible exact (rightV_le _ _).1 | with_reducible exact (rightV_le _ _).2 | with_reducible exact (bothV_le _ _ (by assumption) (by assumption) (by assumption) (by assumption)).1 | with_reducible exact (bothV_le _ _ (by assumption) (by assumption) (by assumption) (by assumption)).2 | decide | omega) (by first | assumption | with_reducible exact (pbV_le _ _ _).1 | with_reducible exact (pbV_le _ _ _).2 | with_reducible exact (nzP_le _ _).1 | with_reducible exact (nzP_le _ _).2 | with_reducible exact (nzS_le _ _).1 | with_reducible exact (nzS_le _ _).2 | with_reducible exact (clr_le _ (by assumption) (by assumption)).1 | with_reducible exact (clr_le _ (by assumption) (by assumption)).2 | with_reducible exact (clr_le _ (nzP_le _ _).1 (nzP_le _ _).2).1 | with_reducible exact (clr_le _ (nzP_le _ _).1 (nzP_le _ _).2).2 | with_reducible exact (clr_le _ (nzS_le _ _).1 (nzS_le _ _).2).1 | with_reducible exact (clr_le _ (nzS_le _ _).1 (nzS_le _ _).2).2 | with_reducible exact (clr_le _ (pbV_le _ _ _).1 (pbV_le _ _ _).2).1 | with_reducible exact (clr_le _ (pbV_le _ _ _).1 (pbV_le _ _ _).2).2 | with_reducible exact (adcV_le _ _ _).1 | with_reducible exact (adcV_le _ _ _).2 | with_reducible exact (lessV_le _ _).1 | with_reducible exact (lessV_le _ _).2 | with_reducible exact (leftV_le _ _).1 | with_reducible exact (leftV_le _ _).2 | with_reducible exact (rightV_le _ _).1 | with_reducible exact (rightV_le _ _).2 | with_reducible exact (bothV_le _ _ (by assumption) (by assumption) (by assumption) (by assumption)).1 | with_reducible exact (bothV_le _ _ (by assumption) (by assumption) (by assumption) (by assumption)).2 | decide | omega) (by first | assumption | with_reducible exact (pbV_le _ _ _).1 | with_reducible exact (pbV_le _ _ _).2 | with_reducible exact (nzP_le _ _).1 | with_reducible exact (nzP_le _ _).2 | with_reducible exact (nzS_le _ _).1 | with_reducible exact (nzS_le _ _).2 | with_reducible exact (clr_le _ (by assumption) (by assumption)).1 | with_reducible exact (clr_le _ (by assumption) (by assumption)).2 | with_reducible exact (clr_le _ (nzP_le _ _).1 (nzP_le _ _).2).1 | with_reducible exact (clr_le _ (nzP_le _ _).1 (nzP_le _ _).2).2 | with_reducible exact (clr_le _ (nzS_le _ _).1 (nzS_le _ _).2).1 | with_reducible exact (clr_le _ (nzS_le _ _).1 (nzS_le _ _).2).2 | with_reducible exact (clr_le _ (pbV_le _ _ _).1 (pbV_le _ _ _).2).1 | with_reducible exact (clr_le _ (pbV_le _ _ _).1 (pbV_le _ _ _).2).2 | with_reducible exact (adcV_le _ _ _).1 | with_reducible exact (adcV_le _ _ _).2 | with_reducible exact (lessV_le _ _).1 | with_reducible exact (lessV_le _ _).2 | with_reducible exact (leftV_le _ _).1 | with_reducible exact (leftV_le _ _).2 | with_reducible exact (rightV_le _ _).1 | with_reducible exact (rightV_le _ _).2 | with_reducible exact (bothV_le _ _ (by assumption) (by assumption) (by assumption) (by assumption)).1 | with_reducible exact (bothV_le _ _ (by assumption) (by assumption) (by assumption) (by assumption)).2 | decide | omega) (by first | assumption | with_reducible exact (pbV_le _ _ _).1 | with_reducible exact (pbV_le _ _ _).2 | with_reducible exact (nzP_le _ _).1 | with_reducible exact (nzP_le _ _).2 | with_reducible exact (nzS_le _ _).1 | with_reducible exact (nzS_le _ _).2 | with_reducible exact (clr_le _ (by assumption) (by assumption)).1 | with_reducible exact (clr_le _ (by assumption) (by assumption)).2 | with_reducible exact (clr_le _ (nzP_le _ _).1 (nzP_le _ _).2).1 | with_reducible exact (clr_le _ (nzP_le _ _).1 (nzP_le _ _).2).2 | with_reducible exact (clr_le _ (nzS_le _ _).1 (nzS_le _ _).2).1 | with_reducible exact (clr_le _ (nzS_le _ _).1 (nzS_le _ _).2).2 | with_reducible exact (clr_le _ (pbV_le _ _ _).1 (pbV_le _ _ _).2).1 | with_reducible exact (clr_le _ (pbV_le _ _ _).1 (pbV_le _ _ _).2).2 | with_reducible exact (adcV_le _ _ _).1 | with_reducible exact (adcV_le _ _ _).2 | with_reducible exact (lessV_le _ _).1 | with_reducible exact (lessV_le _ _).2 | with_reducible exact (leftV_le _ _).1 | with_reducible exact (leftV_le _ _).2 | with_reducible exact (rightV_le _ _).1 | with_reducible exact (rightV_le _ _).2 | with_reducible exact (bothV_le _ _ (by assumption) (by assumption) (by assumption) (by assumption)).1 | with_reducible exact (bothV_le _ _ (by assumption) (by assumption) (by assumption) (by assumption)).2 | decide | omega) (by first | assumption | with_reducible exact (pbV_le _ _ _).1 | with_reducible exact (pbV_le _ _ _).2 | with_reducible exact (nzP_le _ _).1 | with_reducible exact (nzP_le _ _).2 | with_reducible exact (nzS_le _ _).1 | with_reducible exact (nzS_le _ _).2 | with_reducible exact (clr_le _ (by assumption) (by assumption)).1 | with_reducible exact (clr_le _ (by assumption) (by assumption)).2 | with_reducible exact (clr_le _ (nzP_le _ _).1 (nzP_le _ _).2).1 | with_reducible exact (clr_le _ (nzP_le _ _).1 (nzP_le _ _).2).2 | with_reducible exact (clr_le _ (nzS_le _ _).1 (nzS_le _ _).2).1 | with_reducible exact (clr_le _ (nzS_le _ _).1 (nzS_le _ _).2).2 | with_reducible exact (clr_le _ (pbV_le _ _ _).1 (pbV_le _ _ _).2).1 | with_reducible exact (clr_le _ (pbV_le _ _ _).1 (pbV_le _ _ _).2).2 | with_reducible exact (adcV_le _ _ _).1 | with_reducible exact (adcV_le _ _ _).2 | with_reducible exact (lessV_le _ _).1 | with_reducible exact (lessV_le _ _).2 | with_reducible exact (leftV_le _ _).1 | with_reducible exact (leftV_le _ _).2 | with_reducible exact (rightV_le _ _).1 | with_reducible exact (rightV_le _ _).2 | with_reducible exact (bothV_le _ _ (by assumption) (by assumption) (by assumption) (by assumption)).1 | with_reducible exact (bothV_le _ _ (by assumption) (by assumption) (by assumption) (by assumption)).2 | decide | omega)) ?_
    rintro e w2 ⟨rfl, hB⟩
    exact ⟨_, rfl, (0, 0), rfl, pcond_mk n25 (pcond_mk n24 (Mem.next hW0 hB))⟩
  case p8 =>
    intro D bq a' w' hk hc he hl hW
    (try dsimp only at hW)
    have n23 : D 23 = false := hc.no .data hk rfl (by simp) rfl
    have n24 : D 24 = false := hc.no .data n23 rfl (by simp) rfl
    have n25 : D 25 = false := hc.no .phase hk rfl (by simp) rfl
    have hW0 := pcond_f n24 (pcond_f n25 hW)
    have e7 : a'.tmps.getD 161 undef = .agg #[.int .u8 (lessP (q.p) (q.a) (q.m)), .int .u8 (lessS (q.s) ((q.x) || (q.y)))] := (hl 161).trans (vsy_at (f := fun _ => .agg #[.int .u8 (lessP (q.p) (q.a) (q.m)), .int .u8 (lessS (q.s) ((q.x) || (q.y)))]) rfl (he ⟨7, .data⟩ (by simp) rfl) rfl)
    exact wp_val (.agg #[.int .u8 (0), .bool (false), .int .u8 (lessP (q.p) (q.a) (q.m)), .int .u8 (lessS (q.s) ((q.x) || (q.y)))]) (by simp only [execOp, Act.eval, List.map_toArray, List.map_cons, List.map_nil]; rw [e7]; kernel_rfl) ⟨(0, 0), rfl, pcond_mk n25 (pcond_mk n24 (hW0))⟩
  case p9 =>
    intro D bq a' w' hk hc he hl hW
    (try dsimp only at hW)
    have n10 : D 10 = false := hc.no .data hk rfl (by simp) rfl
    have n15 : D 15 = false := hc.no .data n10 rfl (by simp) rfl
    have n21 : D 21 = false := hc.no .chain n15 rfl (by simp) rfl
    have n24 : D 24 = false := hc.no .chain n21 rfl (by simp) rfl
    have n25 : D 25 = false := hc.no .phase hk rfl (by simp) rfl
    have hW0 := pcond_f n24 (pcond_f n25 hW)
    have f1 : a'.tmps.getD 1 undef = .pointer (some ⟨Rq, 0, none⟩) := (hl 1).trans ((vsy_no rfl).trans rfl)
    exact wp_val (.pointer (some ⟨Rq, 0, none⟩)) (by simp only [execOp, Act.eval, List.map_toArray, List.map_cons, List.map_nil]; rw [f1]; kernel_rfl) ⟨(0, 0), rfl, pcond_mk n25 (pcond_mk n24 (hW0))⟩
  case p10 =>
    intro D bq a' w' hk hc he hl hW
    (try dsimp only at hW)
    have n15 : D 15 = false := hc.no .data hk rfl (by simp) rfl
    have n21 : D 21 = false := hc.no .chain n15 rfl (by simp) rfl
    have n24 : D 24 = false := hc.no .chain n21 rfl (by simp) rfl
    have n25 : D 25 = false := hc.no .phase hk rfl (by simp) rfl
    have hW0 := pcond_f n24 (pcond_f n25 hW)
    have e9 : a'.tmps.getD 163 undef = .pointer (some ⟨Rq, 0, none⟩) := (hl 163).trans (vsy_at (f := fun _ => .pointer (some ⟨Rq, 0, none⟩)) rfl (he ⟨9, .data⟩ (by simp) rfl) rfl)
    exact wp_sload _ _ rfl _ _ e9 3 (Mem.condB hW0) (akC q) #[.int .u8 (q.p), .int .u8 (q.s)] rfl (by kernel_rfl) (by kernel_rfl) (ak_f q) ⟨(0, 0), rfl, pcond_mk n25 (pcond_mk n24 (hW0))⟩
  case p11 =>
    intro D bq a' w' hk hc he hl hW
    (try dsimp only at hW)
    have n12 : D 12 = false := hc.no .data hk rfl (by simp) rfl
    have n15 : D 15 = false := hc.no .data n12 rfl (by simp) rfl
    have n21 : D 21 = false := hc.no .chain n15 rfl (by simp) rfl
    have n24 : D 24 = false := hc.no .chain n21 rfl (by simp) rfl
    have n25 : D 25 = false := hc.no .phase hk rfl (by simp) rfl
    have hW0 := pcond_f n24 (pcond_f n25 hW)
    have f1 : a'.tmps.getD 1 undef = .pointer (some ⟨Rq, 0, none⟩) := (hl 1).trans ((vsy_no rfl).trans rfl)
    exact wp_val (.pointer (some ⟨Rq, 2, none⟩)) (by simp only [execOp, Act.eval, List.map_toArray, List.map_cons, List.map_nil]; rw [f1]; kernel_rfl) ⟨(0, 0), rfl, pcond_mk n25 (pcond_mk n24 (hW0))⟩
  case p12 =>
    intro D bq a' w' hk hc he hl hW
    (try dsimp only at hW)
    have n15 : D 15 = false := hc.no .data hk rfl (by simp) rfl
    have n21 : D 21 = false := hc.no .chain n15 rfl (by simp) rfl
    have n24 : D 24 = false := hc.no .chain n21 rfl (by simp) rfl
    have n25 : D 25 = false := hc.no .phase hk rfl (by simp) rfl
    have hW0 := pcond_f n24 (pcond_f n25 hW)
    have e11 : a'.tmps.getD 165 undef = .pointer (some ⟨Rq, 2, none⟩) := (hl 165).trans (vsy_at (f := fun _ => .pointer (some ⟨Rq, 2, none⟩)) rfl (he ⟨11, .data⟩ (by simp) rfl) rfl)
    exact wp_sload _ _ rfl _ _ e11 3 (Mem.condB hW0) (akC q) #[.int .u8 (q.a), .bool (q.x)] rfl (by kernel_rfl) (by kernel_rfl) (ak_a q) ⟨(0, 0), rfl, pcond_mk n25 (pcond_mk n24 (hW0))⟩
  case p13 =>
    intro D bq a' w' hk hc he hl hW
    (try dsimp only at hW)
    have n14 : D 14 = false := hc.no .data hk rfl (by simp) rfl
    have n15 : D 15 = false := hc.no .data n14 rfl (by simp) rfl
    have n21 : D 21 = false := hc.no .chain n15 rfl (by simp) rfl
    have n24 : D 24 = false := hc.no .chain n21 rfl (by simp) rfl
    have n25 : D 25 = false := hc.no .phase hk rfl (by simp) rfl
    have hW0 := pcond_f n24 (pcond_f n25 hW)
    have f1 : a'.tmps.getD 1 undef = .pointer (some ⟨Rq, 0, none⟩) := (hl 1).trans ((vsy_no rfl).trans rfl)
    exact wp_val (.pointer (some ⟨Rq, 4, none⟩)) (by simp only [execOp, Act.eval, List.map_toArray, List.map_cons, List.map_nil]; rw [f1]; kernel_rfl) ⟨(0, 0), rfl, pcond_mk n25 (pcond_mk n24 (hW0))⟩
  case p14 =>
    intro D bq a' w' hk hc he hl hW
    (try dsimp only at hW)
    have n15 : D 15 = false := hc.no .data hk rfl (by simp) rfl
    have n21 : D 21 = false := hc.no .chain n15 rfl (by simp) rfl
    have n24 : D 24 = false := hc.no .chain n21 rfl (by simp) rfl
    have n25 : D 25 = false := hc.no .phase hk rfl (by simp) rfl
    have hW0 := pcond_f n24 (pcond_f n25 hW)
    have e13 : a'.tmps.getD 167 undef = .pointer (some ⟨Rq, 4, none⟩) := (hl 167).trans (vsy_at (f := fun _ => .pointer (some ⟨Rq, 4, none⟩)) rfl (he ⟨13, .data⟩ (by simp) rfl) rfl)
    exact wp_sload _ _ rfl _ _ e13 3 (Mem.condB hW0) (akC q) #[.int .u8 (q.m), .bool (q.y)] rfl (by kernel_rfl) (by kernel_rfl) (ak_m q) ⟨(0, 0), rfl, pcond_mk n25 (pcond_mk n24 (hW0))⟩
  case p15 =>
    intro D bq a' w' hk hc he hl hW
    (try dsimp only at hW)
    have n21 : D 21 = false := hc.no .chain hk rfl (by simp) rfl
    have n24 : D 24 = false := hc.no .chain n21 rfl (by simp) rfl
    have n25 : D 25 = false := hc.no .phase hk rfl (by simp) rfl
    have hW0 := pcond_f n24 (pcond_f n25 hW)
    have e10 : a'.tmps.getD 164 undef = .agg #[.int .u8 (q.p), .int .u8 (q.s)] := (hl 164).trans (vsy_at (f := fun _ => .agg #[.int .u8 (q.p), .int .u8 (q.s)]) rfl (he ⟨10, .data⟩ (by simp) rfl) rfl)
    have e12 : a'.tmps.getD 166 undef = .agg #[.int .u8 (q.a), .bool (q.x)] := (hl 166).trans (vsy_at (f := fun _ => .agg #[.int .u8 (q.a), .bool (q.x)]) rfl (he ⟨12, .data⟩ (by simp) rfl) rfl)
    have e14 : a'.tmps.getD 168 undef = .agg #[.int .u8 (q.m), .bool (q.y)] := (hl 168).trans (vsy_at (f := fun _ => .agg #[.int .u8 (q.m), .bool (q.y)]) rfl (he ⟨14, .data⟩ (by simp) rfl) rfl)
    refine wp_callp (vals := #[.agg #[.int .u8 (q.p), .int .u8 (q.s)], .agg #[.int .u8 (q.a), .bool (q.x)], .agg #[.int .u8 (q.m), .bool (q.y)]]) rfl rfl (by simp only [List.map_toArray, List.map_cons, List.map_nil, Act.eval, e10, e12, e14]) (by kernel_rfl) (abit_ct (q.p) (q.s) (q.a) (q.x) (q.m) (q.y) w' (by first | assumption | with_reducible exact (pbV_le _ _ _).1 | with_reducible exact (pbV_le _ _ _).2 | with_reducible exact (nzP_le _ _).1 | with_reducible exact (nzP_le _ _).2 | with_reducible exact (nzS_le _ _).1 | with_reducible exact (nzS_le _ _).2 | with_reducible exact (clr_le _ (by assumption) (by assumption)).1 | with_reducible exact (clr_le _ (by assumption) (by assumption)).2 | with_reducible exact (clr_le _ (nzP_le _ _).1 (nzP_le _ _).2).1 | with_reducible exact (clr_le _ (nzP_le _ _).1 (nzP_le _ _).2).2 | with_reducible exact (clr_le _ (nzS_le _ _).1 (nzS_le _ _).2).1 | with_reducible exact (clr_le _ (nzS_le _ _).1 (nzS_le _ _).2).2 | with_reducible exact (clr_le _ (pbV_le _ _ _).1 (pbV_le _ _ _).2).1 | with_reducible exact (clr_le _ (pbV_le _ _ _).1 (pbV_le _ _ _).2).2 | with_reducible exact (adcV_le _ _ _).1 | with_reducible exact (adcV_le _ _ _).2 | with_reducible exact (lessV_le _ _).1 | with_reducible exact (lessV_le _ _).2 | with_reducible exact (leftV_le _ _).1 | with_reducible exact (leftV_le _ _).2 | with_reducible exact (rightV_le _ _).1 | with_reducible exact (rightV_le _ _).2 | with_reducible exact (bothV_le _ _ (by assumption) (by assumption) (by assumption) (by assumption)).1 | with_reducible exact (bothV_le _ _ (by assumption) (by assumption) (by assumption) (by assumption)).2 | decide | omega) (by first | assumption | with_reducible exact (pbV_le _ _ _).1 | with_reducible exact (pbV_le _ _ _).2 | with_reducible exact (nzP_le _ _).1 | with_reducible exact (nzP_le _ _).2 | with_reducible exact (nzS_le _ _).1 | with_reducible exact (nzS_le _ _).2 | with_reducible exact (clr_le _ (by assumption) (by assumption)).1 | with_reducible exact (clr_le _ (by assumption) (by assumption)).2 | with_reducible exact (clr_le _ (nzP_le _ _).1 (nzP_le _ _).2).1 | with_reducible exact (clr_le _ (nzP_le _ _).1 (nzP_le _ _).2).2 | with_reducible exact (clr_le _ (nzS_le _ _).1 (nzS_le _ _).2).1 | with_reducible exact (clr_le _ (nzS_le _ _).1 (nzS_le _ _).2).2 | with_reducible exact (clr_le _ (pbV_le _ _ _).1 (pbV_le _ _ _).2).1 | with_reducible exact (clr_le _ (pbV_le _ _ _).1 (pbV_le _ _ _).2).2 | with_reducible exact (adcV_le _ _ _).1 | with_reducible exact (adcV_le _ _ _).2 | with_reducible exact (lessV_le _ _).1 | with_reducible exact (lessV_le _ _).2 | with_reducible exact (leftV_le _ _).1 | with_reducible exact (leftV_le _ _).2 | with_reducible exact (rightV_le _ _).1 | with_reducible exact (rightV_le _ _).2 | with_reducible exact (bothV_le _ _ (by assumption) (by assumption) (by assumption) (by assumption)).1 | with_reducible exact (bothV_le _ _ (by assumption) (by assumption) (by assumption) (by assumption)).2 | decide | omega) (by first | assumption | with_reducible exact (pbV_le _ _ _).1 | with_reducible exact (pbV_le _ _ _).2 | with_reducible exact (nzP_le _ _).1 | with_reducible exact (nzP_le _ _).2 | with_reducible exact (nzS_le _ _).1 | with_reducible exact (nzS_le _ _).2 | with_reducible exact (clr_le _ (by assumption) (by assumption)).1 | with_reducible exact (clr_le _ (by assumption) (by assumption)).2 | with_reducible exact (clr_le _ (nzP_le _ _).1 (nzP_le _ _).2).1 | with_reducible exact (clr_le _ (nzP_le _ _).1 (nzP_le _ _).2).2 | with_reducible exact (clr_le _ (nzS_le _ _).1 (nzS_le _ _).2).1 | with_reducible exact (clr_le _ (nzS_le _ _).1 (nzS_le _ _).2).2 | with_reducible exact (clr_le _ (pbV_le _ _ _).1 (pbV_le _ _ _).2).1 | with_reducible exact (clr_le _ (pbV_le _ _ _).1 (pbV_le _ _ _).2).2 | with_reducible exact (adcV_le _ _ _).1 | with_reducible exact (adcV_le _ _ _).2 | with_reducible exact (lessV_le _ _).1 | with_reducible exact (lessV_le _ _).2 | with_reducible exact (leftV_le _ _).1 | with_reducible exact (leftV_le _ _).2 | with_reducible exact (rightV_le _ _).1 | with_reducible exact (rightV_le _ _).2 | with_reducible exact (bothV_le _ _ (by assumption) (by assumption) (by assumption) (by assumption)).1 | with_reducible exact (bothV_le _ _ (by assumption) (by assumption) (by assumption) (by assumption)).2 | decide | omega) (by first | assumption | with_reducible exact (pbV_le _ _ _).1 | with_reducible exact (pbV_le _ _ _).2 | with_reducible exact (nzP_le _ _).1 | with_reducible exact (nzP_le _ _).2 | with_reducible exact (nzS_le _ _).1 | with_reducible exact (nzS_le _ _).2 | with_reducible exact (clr_le _ (by assumption) (by assumption)).1 | with_reducible exact (clr_le _ (by assumption) (by assumption)).2 | with_reducible exact (clr_le _ (nzP_le _ _).1 (nzP_le _ _).2).1 | with_reducible exact (clr_le _ (nzP_le _ _).1 (nzP_le _ _).2).2 | with_reducible exact (clr_le _ (nzS_le _ _).1 (nzS_le _ _).2).1 | with_reducible exact (clr_le _ (nzS_le _ _).1 (nzS_le _ _).2).2 | with_reducible exact (clr_le _ (pbV_le _ _ _).1 (pbV_le _ _ _).2).1 | with_reducible exact (clr_le _ (pbV_le _ _ _).1 (pbV_le _ _ _).2).2 | with_reducible exact (adcV_le _ _ _).1 | with_reducible exact (adcV_le _ _ _).2 | with_reducible exact (lessV_le _ _).1 | with_reducible exact (lessV_le _ _).2 | with_reducible exact (leftV_le _ _).1 | with_reducible exact (leftV_le _ _).2 | with_reducible exact (rightV_le _ _).1 | with_reducible exact (rightV_le _ _).2 | with_reducible exact (bothV_le _ _ (by assumption) (by assumption) (by assumption) (by assumption)).1 | with_reducible exact (bothV_le _ _ (by assumption) (by assumption) (by assumption) (by assumption)).2 | decide | omega) (by first | assumption | with_reducible exact (pbV_le _ _ _).1 | with_reducible exact (pbV_le _ _ _).2 | with_reducible exact (nzP_le _ _).1 | with_reducible exact (nzP_le _ _).2 | with_reducible exact (nzS_le _ _).1 | with_reducible exact (nzS_le _ _).2 | with_reducible exact (clr_le _ (by assumption) (by assumption)).1 | with_reducible exact (clr_le _ (by assumption) (by assumption)).2 | with_reducible exact (clr_le _ (nzP_le _ _).1 (nzP_le _ _).2).1 | with_reducible exact (clr_le _ (nzP_le _ _).1 (nzP_le _ _).2).2 | with_reducible exact (clr_le _ (nzS_le _ _).1 (nzS_le _ _).2).1 | with_reducible exact (clr_le _ (nzS_le _ _).1 (nzS_le _ _).2).2 | with_reducible exact (clr_le _ (pbV_le _ _ _).1 (pbV_le _ _ _).2).1 | with_reducible exact (clr_le _ (pbV_le _ _ _).1 (pbV_le _ _ _).2).2 | with_reducible exact (adcV_le _ _ _).1 | with_reducible exact (adcV_le _ _ _).2 | with_reducible exact (lessV_le _ _).1 | with_reducible exact (lessV_le _ _).2 | with_reducible exact (leftV_le _ _).1 | with_reducible exact (leftV_le _ _).2 | with_reducible exact (rightV_le _ _).1 | with_reducible exact (rightV_le _ _).2 | with_reducible exact (bothV_le _ _ (by assumption) (by assumption) (by assumption) (by assumption)).1 | with_reducible exact (bothV_le _ _ (by assumption) (by assumption) (by assumption) (by assumption)).2 | decide | omega) (by first | assumption | with_reducible exact (pbV_le _ _ _).1 | with_reducible exact (pbV_le _ _ _).2 | with_reducible exact (nzP_le _ _).1 | with_reducible exact (nzP_le _ _).2 | with_reducible exact (nzS_le _ _).1 | with_reducible exact (nzS_le _ _).2 | with_reducible exact (clr_le _ (by assumption) (by assumption)).1 | with_reducible exact (clr_le _ (by assumption) (by assumption)).2 | with_reducible exact (clr_le _ (nzP_le _ _).1 (nzP_le _ _).2).1 | with_reducible exact (clr_le _ (nzP_le _ _).1 (nzP_le _ _).2).2 | with_reducible exact (clr_le _ (nzS_le _ _).1 (nzS_le _ _).2).1 | with_reducible exact (clr_le _ (nzS_le _ _).1 (nzS_le _ _).2).2 | with_reducible exact (clr_le _ (pbV_le _ _ _).1 (pbV_le _ _ _).2).1 | with_reducible exact (clr_le _ (pbV_le _ _ _).1 (pbV_le _ _ _).2).2 | with_reducible exact (adcV_le _ _ _).1 | with_reducible exact (adcV_le _ _ _).2 | with_reducible exact (lessV_le _ _).1 | with_reducible exact (lessV_le _ _).2 | with_reducible exact (leftV_le _ _).1 | with_reducible exact (leftV_le _ _).2 | with_reducible exact (rightV_le _ _).1 | with_reducible exact (rightV_le _ _).2 | with_reducible exact (bothV_le _ _ (by assumption) (by assumption) (by assumption) (by assumption)).1 | with_reducible exact (bothV_le _ _ (by assumption) (by assumption) (by assumption) (by assumption)).2 | decide | omega) (by first | assumption | with_reducible exact (pbV_le _ _ _).1 | with_reducible exact (pbV_le _ _ _).2 | with_reducible exact (nzP_le _ _).1 | with_reducible exact (nzP_le _ _).2 | with_reducible exact (nzS_le _ _).1 | with_reducible exact (nzS_le _ _).2 | with_reducible exact (clr_le _ (by assumption) (by assumption)).1 | with_reducible exact (clr_le _ (by assumption) (by assumption)).2 | with_reducible exact (clr_le _ (nzP_le _ _).1 (nzP_le _ _).2).1 | with_reducible exact (clr_le _ (nzP_le _ _).1 (nzP_le _ _).2).2 | with_reducible exact (clr_le _ (nzS_le _ _).1 (nzS_le _ _).2).1 | with_reducible exact (clr_le _ (nzS_le _ _).1 (nzS_le _ _).2).2 | with_reducible exact (clr_le _ (pbV_le _ _ _).1 (pbV_le _ _ _).2).1 | with_reducible exact (clr_le _ (pbV_le _ _ _).1 (pbV_le _ _ _).2).2 | with_reducible exact (adcV_le _ _ _).1 | with_reducible exact (adcV_le _ _ _).2 | with_reducible exact (lessV_le _ _).1 | with_reducible exact (lessV_le _ _).2 | with_reducible exact (leftV_le _ _).1 | with_reducible exact (leftV_le _ _).2 | with_reducible exact (rightV_le _ _).1 | with_reducible exact (rightV_le _ _).2 | with_reducible exact (bothV_le _ _ (by assumption) (by assumption) (by assumption) (by assumption)).1 | with_reducible exact (bothV_le _ _ (by assumption) (by assumption) (by assumption) (by assumption)).2 | decide | omega) (by first | assumption | with_reducible exact (pbV_le _ _ _).1 | with_reducible exact (pbV_le _ _ _).2 | with_reducible exact (nzP_le _ _).1 | with_reducible exact (nzP_le _ _).2 | with_reducible exact (nzS_le _ _).1 | with_reducible exact (nzS_le _ _).2 | with_reducible exact (clr_le _ (by assumption) (by assumption)).1 | with_reducible exact (clr_le _ (by assumption) (by assumption)).2 | with_reducible exact (clr_le _ (nzP_le _ _).1 (nzP_le _ _).2).1 | with_reducible exact (clr_le _ (nzP_le _ _).1 (nzP_le _ _).2).2 | with_reducible exact (clr_le _ (nzS_le _ _).1 (nzS_le _ _).2).1 | with_reducible exact (clr_le _ (nzS_le _ _).1 (nzS_le _ _).2).2 | with_reducible exact (clr_le _ (pbV_le _ _ _).1 (pbV_le _ _ _).2).1 | with_reducible exact (clr_le _ (pbV_le _ _ _).1 (pbV_le _ _ _).2).2 | with_reducible exact (adcV_le _ _ _).1 | with_reducible exact (adcV_le _ _ _).2 | with_reducible exact (lessV_le _ _).1 | with_reducible exact (lessV_le _ _).2 | with_reducible exact (leftV_le _ _).1 | with_reducible exact (leftV_le _ _).2 | with_reducible exact (rightV_le _ _).1 | with_reducible exact (rightV_le _ _).2 | with_reducible exact (bothV_le _ _ (by assumption) (by assumption) (by assumption) (by assumption)).1 | with_reducible exact (bothV_le _ _ (by assumption) (by assumption) (by assumption) (by assumption)).2 | decide | omega)) ?_
    rintro e w2 ⟨rfl, hB⟩
    exact ⟨_, rfl, (0, 0), rfl, pcond_mk n25 (pcond_mk n24 (Mem.next hW0 hB))⟩
  case p16 =>
    intro D bq a' w' hk hc he hl hW
    (try dsimp only at hW)
    have n23 : D 23 = false := hc.no .data hk rfl (by simp) rfl
    have n24 : D 24 = false := hc.no .data n23 rfl (by simp) rfl
    have n25 : D 25 = false := hc.no .phase hk rfl (by simp) rfl
    have hW0 := pcond_f n24 (pcond_f n25 hW)
    have e15 : a'.tmps.getD 169 undef = .agg #[.int .u8 (bitP (q.p) (q.a) (q.m)), .int .u8 (bitS (q.s) (q.x) (q.y))] := (hl 169).trans (vsy_at (f := fun _ => .agg #[.int .u8 (bitP (q.p) (q.a) (q.m)), .int .u8 (bitS (q.s) (q.x) (q.y))]) rfl (he ⟨15, .data⟩ (by simp) rfl) rfl)
    exact wp_val (.agg #[.int .u8 (0), .bool (false), .int .u8 (bitP (q.p) (q.a) (q.m)), .int .u8 (bitS (q.s) (q.x) (q.y))]) (by simp only [execOp, Act.eval, List.map_toArray, List.map_cons, List.map_nil]; rw [e15]; kernel_rfl) ⟨(0, 0), rfl, pcond_mk n25 (pcond_mk n24 (hW0))⟩
  case p17 =>
    intro D bq a' w' hk hc he hl hW
    (try dsimp only at hW)
    have n18 : D 18 = false := hc.no .data hk rfl (by simp) rfl
    have n21 : D 21 = false := hc.no .data n18 rfl (by simp) rfl
    have n24 : D 24 = false := hc.no .chain n21 rfl (by simp) rfl
    have n25 : D 25 = false := hc.no .phase hk rfl (by simp) rfl
    have hW0 := pcond_f n24 (pcond_f n25 hW)
    have f1 : a'.tmps.getD 1 undef = .pointer (some ⟨Rq, 0, none⟩) := (hl 1).trans ((vsy_no rfl).trans rfl)
    exact wp_val (.pointer (some ⟨Rq, 0, none⟩)) (by simp only [execOp, Act.eval, List.map_toArray, List.map_cons, List.map_nil]; rw [f1]; kernel_rfl) ⟨(0, 0), rfl, pcond_mk n25 (pcond_mk n24 (hW0))⟩
  case p18 =>
    intro D bq a' w' hk hc he hl hW
    (try dsimp only at hW)
    have n21 : D 21 = false := hc.no .data hk rfl (by simp) rfl
    have n24 : D 24 = false := hc.no .chain n21 rfl (by simp) rfl
    have n25 : D 25 = false := hc.no .phase hk rfl (by simp) rfl
    have hW0 := pcond_f n24 (pcond_f n25 hW)
    have e17 : a'.tmps.getD 171 undef = .pointer (some ⟨Rq, 0, none⟩) := (hl 171).trans (vsy_at (f := fun _ => .pointer (some ⟨Rq, 0, none⟩)) rfl (he ⟨17, .data⟩ (by simp) rfl) rfl)
    exact wp_sload _ _ rfl _ _ e17 3 (Mem.condB hW0) (akC q) #[.int .u8 (q.p), .int .u8 (q.s)] rfl (by kernel_rfl) (by kernel_rfl) (ak_f q) ⟨(0, 0), rfl, pcond_mk n25 (pcond_mk n24 (hW0))⟩
  case p19 =>
    intro D bq a' w' hk hc he hl hW
    (try dsimp only at hW)
    have n20 : D 20 = false := hc.no .data hk rfl (by simp) rfl
    have n21 : D 21 = false := hc.no .data n20 rfl (by simp) rfl
    have n24 : D 24 = false := hc.no .chain n21 rfl (by simp) rfl
    have n25 : D 25 = false := hc.no .phase hk rfl (by simp) rfl
    have hW0 := pcond_f n24 (pcond_f n25 hW)
    have f1 : a'.tmps.getD 1 undef = .pointer (some ⟨Rq, 0, none⟩) := (hl 1).trans ((vsy_no rfl).trans rfl)
    exact wp_val (.pointer (some ⟨Rq, 2, none⟩)) (by simp only [execOp, Act.eval, List.map_toArray, List.map_cons, List.map_nil]; rw [f1]; kernel_rfl) ⟨(0, 0), rfl, pcond_mk n25 (pcond_mk n24 (hW0))⟩
  case p20 =>
    intro D bq a' w' hk hc he hl hW
    (try dsimp only at hW)
    have n21 : D 21 = false := hc.no .data hk rfl (by simp) rfl
    have n24 : D 24 = false := hc.no .chain n21 rfl (by simp) rfl
    have n25 : D 25 = false := hc.no .phase hk rfl (by simp) rfl
    have hW0 := pcond_f n24 (pcond_f n25 hW)
    have e19 : a'.tmps.getD 173 undef = .pointer (some ⟨Rq, 2, none⟩) := (hl 173).trans (vsy_at (f := fun _ => .pointer (some ⟨Rq, 2, none⟩)) rfl (he ⟨19, .data⟩ (by simp) rfl) rfl)
    exact wp_sload _ _ rfl _ _ e19 3 (Mem.condB hW0) (akC q) #[.int .u8 (q.a), .bool (q.x)] rfl (by kernel_rfl) (by kernel_rfl) (ak_a q) ⟨(0, 0), rfl, pcond_mk n25 (pcond_mk n24 (hW0))⟩
  case p21 =>
    intro D bq a' w' hk hc he hl hW
    (try dsimp only at hW)
    have n24 : D 24 = false := hc.no .chain hk rfl (by simp) rfl
    have n25 : D 25 = false := hc.no .phase hk rfl (by simp) rfl
    have hW0 := pcond_f n24 (pcond_f n25 hW)
    have e18 : a'.tmps.getD 172 undef = .agg #[.int .u8 (q.p), .int .u8 (q.s)] := (hl 172).trans (vsy_at (f := fun _ => .agg #[.int .u8 (q.p), .int .u8 (q.s)]) rfl (he ⟨18, .data⟩ (by simp) rfl) rfl)
    have e20 : a'.tmps.getD 174 undef = .agg #[.int .u8 (q.a), .bool (q.x)] := (hl 174).trans (vsy_at (f := fun _ => .agg #[.int .u8 (q.a), .bool (q.x)]) rfl (he ⟨20, .data⟩ (by simp) rfl) rfl)
    refine wp_callp (vals := #[.agg #[.int .u8 (q.p), .int .u8 (q.s)], .agg #[.int .u8 (q.a), .bool (q.x)]]) rfl rfl (by simp only [List.map_toArray, List.map_cons, List.map_nil, Act.eval, e18, e20]) (by kernel_rfl) (anz_ct (q.p) (q.s) (q.a) (q.x) w' (by first | assumption | with_reducible exact (pbV_le _ _ _).1 | with_reducible exact (pbV_le _ _ _).2 | with_reducible exact (nzP_le _ _).1 | with_reducible exact (nzP_le _ _).2 | with_reducible exact (nzS_le _ _).1 | with_reducible exact (nzS_le _ _).2 | with_reducible exact (clr_le _ (by assumption) (by assumption)).1 | with_reducible exact (clr_le _ (by assumption) (by assumption)).2 | with_reducible exact (clr_le _ (nzP_le _ _).1 (nzP_le _ _).2).1 | with_reducible exact (clr_le _ (nzP_le _ _).1 (nzP_le _ _).2).2 | with_reducible exact (clr_le _ (nzS_le _ _).1 (nzS_le _ _).2).1 | with_reducible exact (clr_le _ (nzS_le _ _).1 (nzS_le _ _).2).2 | with_reducible exact (clr_le _ (pbV_le _ _ _).1 (pbV_le _ _ _).2).1 | with_reducible exact (clr_le _ (pbV_le _ _ _).1 (pbV_le _ _ _).2).2 | with_reducible exact (adcV_le _ _ _).1 | with_reducible exact (adcV_le _ _ _).2 | with_reducible exact (lessV_le _ _).1 | with_reducible exact (lessV_le _ _).2 | with_reducible exact (leftV_le _ _).1 | with_reducible exact (leftV_le _ _).2 | with_reducible exact (rightV_le _ _).1 | with_reducible exact (rightV_le _ _).2 | with_reducible exact (bothV_le _ _ (by assumption) (by assumption) (by assumption) (by assumption)).1 | with_reducible exact (bothV_le _ _ (by assumption) (by assumption) (by assumption) (by assumption)).2 | decide | omega) (by first | assumption | with_reducible exact (pbV_le _ _ _).1 | with_reducible exact (pbV_le _ _ _).2 | with_reducible exact (nzP_le _ _).1 | with_reducible exact (nzP_le _ _).2 | with_reducible exact (nzS_le _ _).1 | with_reducible exact (nzS_le _ _).2 | with_reducible exact (clr_le _ (by assumption) (by assumption)).1 | with_reducible exact (clr_le _ (by assumption) (by assumption)).2 | with_reducible exact (clr_le _ (nzP_le _ _).1 (nzP_le _ _).2).1 | with_reducible exact (clr_le _ (nzP_le _ _).1 (nzP_le _ _).2).2 | with_reducible exact (clr_le _ (nzS_le _ _).1 (nzS_le _ _).2).1 | with_reducible exact (clr_le _ (nzS_le _ _).1 (nzS_le _ _).2).2 | with_reducible exact (clr_le _ (pbV_le _ _ _).1 (pbV_le _ _ _).2).1 | with_reducible exact (clr_le _ (pbV_le _ _ _).1 (pbV_le _ _ _).2).2 | with_reducible exact (adcV_le _ _ _).1 | with_reducible exact (adcV_le _ _ _).2 | with_reducible exact (lessV_le _ _).1 | with_reducible exact (lessV_le _ _).2 | with_reducible exact (leftV_le _ _).1 | with_reducible exact (leftV_le _ _).2 | with_reducible exact (rightV_le _ _).1 | with_reducible exact (rightV_le _ _).2 | with_reducible exact (bothV_le _ _ (by assumption) (by assumption) (by assumption) (by assumption)).1 | with_reducible exact (bothV_le _ _ (by assumption) (by assumption) (by assumption) (by assumption)).2 | decide | omega) (by first | assumption | with_reducible exact (pbV_le _ _ _).1 | with_reducible exact (pbV_le _ _ _).2 | with_reducible exact (nzP_le _ _).1 | with_reducible exact (nzP_le _ _).2 | with_reducible exact (nzS_le _ _).1 | with_reducible exact (nzS_le _ _).2 | with_reducible exact (clr_le _ (by assumption) (by assumption)).1 | with_reducible exact (clr_le _ (by assumption) (by assumption)).2 | with_reducible exact (clr_le _ (nzP_le _ _).1 (nzP_le _ _).2).1 | with_reducible exact (clr_le _ (nzP_le _ _).1 (nzP_le _ _).2).2 | with_reducible exact (clr_le _ (nzS_le _ _).1 (nzS_le _ _).2).1 | with_reducible exact (clr_le _ (nzS_le _ _).1 (nzS_le _ _).2).2 | with_reducible exact (clr_le _ (pbV_le _ _ _).1 (pbV_le _ _ _).2).1 | with_reducible exact (clr_le _ (pbV_le _ _ _).1 (pbV_le _ _ _).2).2 | with_reducible exact (adcV_le _ _ _).1 | with_reducible exact (adcV_le _ _ _).2 | with_reducible exact (lessV_le _ _).1 | with_reducible exact (lessV_le _ _).2 | with_reducible exact (leftV_le _ _).1 | with_reducible exact (leftV_le _ _).2 | with_reducible exact (rightV_le _ _).1 | with_reducible exact (rightV_le _ _).2 | with_reducible exact (bothV_le _ _ (by assumption) (by assumption) (by assumption) (by assumption)).1 | with_reducible exact (bothV_le _ _ (by assumption) (by assumption) (by assumption) (by assumption)).2 | decide | omega) (by first | assumption | with_reducible exact (pbV_le _ _ _).1 | with_reducible exact (pbV_le _ _ _).2 | with_reducible exact (nzP_le _ _).1 | with_reducible exact (nzP_le _ _).2 | with_reducible exact (nzS_le _ _).1 | with_reducible exact (nzS_le _ _).2 | with_reducible exact (clr_le _ (by assumption) (by assumption)).1 | with_reducible exact (clr_le _ (by assumption) (by assumption)).2 | with_reducible exact (clr_le _ (nzP_le _ _).1 (nzP_le _ _).2).1 | with_reducible exact (clr_le _ (nzP_le _ _).1 (nzP_le _ _).2).2 | with_reducible exact (clr_le _ (nzS_le _ _).1 (nzS_le _ _).2).1 | with_reducible exact (clr_le _ (nzS_le _ _).1 (nzS_le _ _).2).2 | with_reducible exact (clr_le _ (pbV_le _ _ _).1 (pbV_le _ _ _).2).1 | with_reducible exact (clr_le _ (pbV_le _ _ _).1 (pbV_le _ _ _).2).2 | with_reducible exact (adcV_le _ _ _).1 | with_reducible exact (adcV_le _ _ _).2 | with_reducible exact (lessV_le _ _).1 | with_reducible exact (lessV_le _ _).2 | with_reducible exact (leftV_le _ _).1 | with_reducible exact (leftV_le _ _).2 | with_reducible exact (rightV_le _ _).1 | with_reducible exact (rightV_le _ _).2 | with_reducible exact (bothV_le _ _ (by assumption) (by assumption) (by assumption) (by assumption)).1 | with_reducible exact (bothV_le _ _ (by assumption) (by assumption) (by assumption) (by assumption)).2 | decide | omega) (by first | assumption | with_reducible exact (pbV_le _ _ _).1 | with_reducible exact (pbV_le _ _ _).2 | with_reducible exact (nzP_le _ _).1 | with_reducible exact (nzP_le _ _).2 | with_reducible exact (nzS_le _ _).1 | with_reducible exact (nzS_le _ _).2 | with_reducible exact (clr_le _ (by assumption) (by assumption)).1 | with_reducible exact (clr_le _ (by assumption) (by assumption)).2 | with_reducible exact (clr_le _ (nzP_le _ _).1 (nzP_le _ _).2).1 | with_reducible exact (clr_le _ (nzP_le _ _).1 (nzP_le _ _).2).2 | with_reducible exact (clr_le _ (nzS_le _ _).1 (nzS_le _ _).2).1 | with_reducible exact (clr_le _ (nzS_le _ _).1 (nzS_le _ _).2).2 | with_reducible exact (clr_le _ (pbV_le _ _ _).1 (pbV_le _ _ _).2).1 | with_reducible exact (clr_le _ (pbV_le _ _ _).1 (pbV_le _ _ _).2).2 | with_reducible exact (adcV_le _ _ _).1 | with_reducible exact (adcV_le _ _ _).2 | with_reducible exact (lessV_le _ _).1 | with_reducible exact (lessV_le _ _).2 | with_reducible exact (leftV_le _ _).1 | with_reducible exact (leftV_le _ _).2 | with_reducible exact (rightV_le _ _).1 | with_reducible exact (rightV_le _ _).2 | with_reducible exact (bothV_le _ _ (by assumption) (by assumption) (by assumption) (by assumption)).1 | with_reducible exact (bothV_le _ _ (by assumption) (by assumption) (by assumption) (by assumption)).2 | decide | omega) (by first | assumption | with_reducible exact (pbV_le _ _ _).1 | with_reducible exact (pbV_le _ _ _).2 | with_reducible exact (nzP_le _ _).1 | with_reducible exact (nzP_le _ _).2 | with_reducible exact (nzS_le _ _).1 | with_reducible exact (nzS_le _ _).2 | with_reducible exact (clr_le _ (by assumption) (by assumption)).1 | with_reducible exact (clr_le _ (by assumption) (by assumption)).2 | with_reducible exact (clr_le _ (nzP_le _ _).1 (nzP_le _ _).2).1 | with_reducible exact (clr_le _ (nzP_le _ _).1 (nzP_le _ _).2).2 | with_reducible exact (clr_le _ (nzS_le _ _).1 (nzS_le _ _).2).1 | with_reducible exact (clr_le _ (nzS_le _ _).1 (nzS_le _ _).2).2 | with_reducible exact (clr_le _ (pbV_le _ _ _).1 (pbV_le _ _ _).2).1 | with_reducible exact (clr_le _ (pbV_le _ _ _).1 (pbV_le _ _ _).2).2 | with_reducible exact (adcV_le _ _ _).1 | with_reducible exact (adcV_le _ _ _).2 | with_reducible exact (lessV_le _ _).1 | with_reducible exact (lessV_le _ _).2 | with_reducible exact (leftV_le _ _).1 | with_reducible exact (leftV_le _ _).2 | with_reducible exact (rightV_le _ _).1 | with_reducible exact (rightV_le _ _).2 | with_reducible exact (bothV_le _ _ (by assumption) (by assumption) (by assumption) (by assumption)).1 | with_reducible exact (bothV_le _ _ (by assumption) (by assumption) (by assumption) (by assumption)).2 | decide | omega)) ?_
    rintro e w2 ⟨rfl, hB⟩
    exact ⟨_, rfl, (0, 0), rfl, pcond_mk n25 (pcond_mk n24 (Mem.next hW0 hB))⟩
  case p22 =>
    intro D bq a' w' hk hc he hl hW
    (try dsimp only at hW)
    have n23 : D 23 = false := hc.no .data hk rfl (by simp) rfl
    have n24 : D 24 = false := hc.no .data n23 rfl (by simp) rfl
    have n25 : D 25 = false := hc.no .phase hk rfl (by simp) rfl
    have hW0 := pcond_f n24 (pcond_f n25 hW)
    have e21 : a'.tmps.getD 175 undef = .agg #[.int .u8 (nzP (q.p) (q.a)), .int .u8 (nzS (q.s) (q.x))] := (hl 175).trans (vsy_at (f := fun _ => .agg #[.int .u8 (nzP (q.p) (q.a)), .int .u8 (nzS (q.s) (q.x))]) rfl (he ⟨21, .data⟩ (by simp) rfl) rfl)
    exact wp_val (.agg #[.int .u8 (0), .bool (false), .int .u8 (nzP (q.p) (q.a)), .int .u8 (nzS (q.s) (q.x))]) (by simp only [execOp, Act.eval, List.map_toArray, List.map_cons, List.map_nil]; rw [e21]; kernel_rfl) ⟨(0, 0), rfl, pcond_mk n25 (pcond_mk n24 (hW0))⟩
  case p23 =>
    intro D bq a' w' hk hc he hl hW
    (try dsimp only at hW)
    have n24 : D 24 = false := hc.no .data hk rfl (by simp) rfl
    have n25 : D 25 = false := hc.no .phase hk rfl (by simp) rfl
    have hW0 := pcond_f n24 (pcond_f n25 hW)
    have e8 : a'.tmps.getD 162 undef = .agg #[.int .u8 (0), .bool (false), .int .u8 (lessP (q.p) (q.a) (q.m)), .int .u8 (lessS (q.s) ((q.x) || (q.y)))] := (hl 162).trans (vsy_at (f := fun _ => .agg #[.int .u8 (0), .bool (false), .int .u8 (lessP (q.p) (q.a) (q.m)), .int .u8 (lessS (q.s) ((q.x) || (q.y)))]) rfl (he ⟨8, .data⟩ (by simp) rfl) rfl)
    have e16 : a'.tmps.getD 170 undef = .agg #[.int .u8 (0), .bool (false), .int .u8 (bitP (q.p) (q.a) (q.m)), .int .u8 (bitS (q.s) (q.x) (q.y))] := (hl 170).trans (vsy_at (f := fun _ => .agg #[.int .u8 (0), .bool (false), .int .u8 (bitP (q.p) (q.a) (q.m)), .int .u8 (bitS (q.s) (q.x) (q.y))]) rfl (he ⟨16, .data⟩ (by simp) rfl) rfl)
    have e22 : a'.tmps.getD 176 undef = .agg #[.int .u8 (0), .bool (false), .int .u8 (nzP (q.p) (q.a)), .int .u8 (nzS (q.s) (q.x))] := (hl 176).trans (vsy_at (f := fun _ => .agg #[.int .u8 (0), .bool (false), .int .u8 (nzP (q.p) (q.a)), .int .u8 (nzS (q.s) (q.x))]) rfl (he ⟨22, .data⟩ (by simp) rfl) rfl)
    have hM := Mem.ofF hk hW0
    have hA := fun T => Mem.new hM (flatRes [((0), (false), (lessP (q.p) (q.a) (q.m)), (lessS (q.s) ((q.x) || (q.y)))), ((0), (false), (bitP (q.p) (q.a) (q.m)), (bitS (q.s) (q.x) (q.y))), ((0), (false), (nzP (q.p) (q.a)), (nzS (q.s) (q.x)))]).toArray T
    exact wp_row _ _ _ rfl _ (by simp only [List.map_toArray, List.map_cons, List.map_nil, Act.eval, e8, e16, e22]) _ _ (build_rs3 (0) (false) (lessP (q.p) (q.a) (q.m)) (lessS (q.s) ((q.x) || (q.y))) (0) (false) (bitP (q.p) (q.a) (q.m)) (bitS (q.s) (q.x) (q.y)) (0) (false) (nzP (q.p) (q.a)) (nzS (q.s) (q.x))) ⟨(_, 0), rfl, pcond_mk n25 (pcond_mk n24 (hA _))⟩
  case p24 =>
    intro D bq a' w' hk hc he hl hW
    (try dsimp only at hW)
    have n25 : D 25 = false := hc.no .data hk rfl (by simp) rfl
    have hW0 := pcond_f hk (pcond_f n25 hW)
    have e0 : a'.tmps.getD 154 undef = .slice (some ⟨Ro, 0, none⟩) 10 cap := (hl 154).trans (vsy_at (f := fun _ => .slice (some ⟨Ro, 0, none⟩) 10 cap) rfl (he ⟨0, .data⟩ (by simp) rfl) rfl)
    have e23 : a'.tmps.getD 177 undef = .slice (some ⟨(bq 23).1, 0, none⟩) 3 3 := (hl 177).trans (vsy_at (f := fun R : Nat × Nat => .slice (some ⟨R.1, 0, none⟩) 3 3) rfl (he ⟨23, .data⟩ (by simp) rfl) rfl)
    have hM := Mem.ofT (he ⟨23, .data⟩ (by simp) rfl) hW0
    obtain ⟨Rn, cs2, cap2, w2, hr, h2, h3⟩ := mem_app 42 10 cap ((toldQ q).take 8 ++ [((oneI (hasV (q.p) (q.b))), (hasV (q.s) (q.b)), (pbV (q.p) (q.b) (q.a != 0)), (pbV (q.s) (q.b) (q.x)))] ++ [((pushV (q.p) (q.k)), (hasV (q.s) 207), (clr (q.a)), (pullS (q.x)))]) [((0), (false), (lessP (q.p) (q.a) (q.m)), (lessS (q.s) ((q.x) || (q.y)))), ((0), (false), (bitP (q.p) (q.a) (q.m)), (bitS (q.s) (q.x) (q.y))), ((0), (false), (nzP (q.p) (q.a)), (nzS (q.s) (q.x)))] 3 rfl rfl (by decide) (by decide) hC hM
    exact wp_apx _ _ _ _ rfl _ _ e0 e23 _ w2 hr ⟨(Rn, cap2), rfl, pcond_mk n25 ⟨cs2, h2, h3⟩⟩
  case p25 =>
    intro D bq a' w' hk hc he hl hW
    (try dsimp only at hW)
    have e24 : a'.tmps.getD 178 undef = .slice (some ⟨(bq 24).1, 0, none⟩) 13 (bq 24).2 := (hl 178).trans (vsy_at (f := fun R : Nat × Nat => .slice (some ⟨R.1, 0, none⟩) 13 R.2) rfl (he ⟨24, .data⟩ (by simp) rfl) rfl)
    have hP := pcond_t (he ⟨24, .data⟩ (by simp) rfl) (pcond_f hk hW)
    exact wp_val (.slice (some ⟨(bq 24).1, 0, none⟩) 13 (bq 24).2) (by simp only [execOp, Act.eval, List.map_toArray, List.map_cons, List.map_nil]; rw [e24]; kernel_rfl) ⟨bq 24, rfl, hP⟩
  intro D bq wv hD hW
  (try dsimp only at hW)
  obtain ⟨cs2, H2, hC2⟩ := pcond_t (hD 25 (by decide)) hW
  clear H hC hD hW
  simp only [putAll, vsYf, Nat.reduceAdd, List.foldl_cons, List.foldl_nil, Act.put, List.setIfInBounds_toArray, List.set_cons_succ, List.set_cons_zero]
  generalize bq 25 = r25 at *
  (try generalize bq 24 = r24 at *)
  (try generalize bq 23 = r23 at *)
  obtain ⟨Ro, cap⟩ := r25
  have H := H2
  have hC := hC2
  clear H2 hC2
  dsimp only at H hC ⊢
  generalize cs2 = cs at *
  go_wp2_with fail
  go_ret
  exact ⟨Ro, cs, cap, rfl, hC, H.sub (List.Sublist.cons_cons _ (List.nil_sublist _))⟩
end Go.Proofs.Ytckfjiacnjjopaa
