/-
  The walk of SpriteTurned. Over this seat's translation; no condition. (Written by gen_sp.py.)
-/
import Derived.Test.YtphnpahjofacfaaSpz
import Derived.Test.YtphnpahjofacfaaSlc
namespace Go.Proofs.Ytphnpahjofacfaa
open Go.RowKit Go.Sort
set_option linter.unusedSimpArgs false
set_option linter.unusedVariables false
set_option maxRecDepth 20000

attribute [local irreducible] wpList
set_option maxHeartbeats 8000000 in
theorem turned_no (sv : Value) (l : List (Int × Bool)) (qi ql : Int) (qt qb : Bool) (lo : BitVec 8) (ls : Bool) (hi : BitVec 8) (hs : Bool) (qx : Int) (w : World) (hr : Rd w sv l) (hb : bytS l) (hm : mayS (l.take 257).length qi 0 = false) : Calls Try.prog 7 #[sv, .agg (saC ⟨qi, ql, qt, qb, lo, ls, hi, hs, qx⟩)] w fun e w' => e = .returned (.bool true) ∧ Below w.heap.size w w' := by
  have QW := Lib.hid (fun wr => awake15_ct wr)
  have QF := fun wr h => few15_cut sv l wr h
  have HR := Lib.hid hr
  have hr2 := hr.cut15
  have hb2 := bytS_take hb 257
  have hl57 : (l.take 257).length ≤ 257 := List.length_take_le _ _
  generalize l.take 257 = l2 at *
  generalize cutV sv = v2 at *
  have H := Mem.start w
  have M1 : True := trivial
  have QF := Lib.hid QF
  have HR2 := Lib.hid hr2
  clear hr hb hr2
  have Q5 := Lib.hid (fun (g cap : Nat) wr => rmay15_no (some ⟨g, 0, none⟩) l2.length cap qi 0 hm wr)
  have hn : True := trivial
  go_enter Try.func7, Try.ntmps7
  go_wp2_with (first | (clear M1; refine wpList_mboxA rfl _ _ rfl H (saC ⟨qi, ql, qt, qb, lo, ls, hi, hs, qx⟩) rfl ?_; clear H; intro Rq w1 _ H) | (go_at_call 8; have o0 := own_none w1; have b0 : Below w1.heap.size w1 (w1.alloc (.cells #[] 24)) := (Below.refl _ _).alloc (Nat.le_refl _) _; (refine (QF.out _ ((HR.out.below H.toBelow).below b0)).mono ?_); rintro e w2 ⟨rfl, hB⟩; have o1 := o0.below hB; have b1 := b0.next hB; clear o0 b0 hB) | (at_builtin; obtain ⟨g, capg, wq, r1, o2, _, b2⟩ := app_bytes w2 w1.heap.size w1.heap.size 0 [] l2 v2 22 o1 ((HR2.out.below H.toBelow).below b1).src (by rw [List.length_nil]; omega) b1.size; rw [List.nil_append] at r1 o2; refine step_app (by rfl) _ _ _ _ rfl _ _ rfl rfl _ _ r1 ?_; obtain ⟨cs0, hb0, hO, hG⟩ := rowS_own o2; replace H := Mem.add H (b1.trans b2) hb0 hO; have HG := Lib.hid hG; (try rw [hn]); clear r1 o1 o2 b1 b2 hb0 hO hG) | (refine gate_load _ _ rfl ?_; refine wpList_mload1 rfl 3 _ rfl _ _ rfl 1 H _ (.int .i64 _) rfl rfl (by decide +kernel) ?_) | (go_at_call 12; (with_reducible refine (Q5.out _ _ _).mono ?_); rintro e w2 ⟨rfl, hB⟩; replace H := H.next hB; clear hB) | (go_at_call 16; (with_reducible refine (QW.out _).mono ?_); rintro e w2 ⟨rfl, hB⟩; replace H := H.next hB; clear hB) | fail)
  go_ret
  exact ⟨rfl, H.toBelow⟩
set_option maxHeartbeats 8000000 in
theorem turned_yes (i : Nat) (sv : Value) (l : List (Int × Bool)) (ql : Int) (qt qb : Bool) (lo : BitVec 8) (ls : Bool) (hi : BitVec 8) (hs : Bool) (qx : Int) (w : World) (hr : Rd w sv l) (hb : bytS l) (hi64 : i < 64) (hn : (l.take 257).length = 256) : Calls Try.prog 7 #[sv, .agg (saC ⟨(i : Int), ql, qt, qb, lo, ls, hi, hs, qx⟩)] w fun e w' => e = .returned (.bool true) ∧ Below w.heap.size w w' := by
  have QW := Lib.hid (fun wr => awake15_ct wr)
  have QF := fun wr h => few15_cut sv l wr h
  have HR := Lib.hid hr
  have hr2 := hr.cut15
  have hb2 := bytS_take hb 257
  have hl57 : (l.take 257).length ≤ 257 := List.length_take_le _ _
  generalize l.take 257 = l2 at *
  generalize cutV sv = v2 at *
  have H := Mem.start w
  have M1 : True := trivial
  have QF := Lib.hid QF
  have HR2 := Lib.hid hr2
  clear hr hb hr2
  have hm : mayS 256 (i : Int) 0 = true := (mayS_iff _ _ _).2 ⟨rfl, ⟨by omega, by omega⟩, ⟨by decide, by decide⟩⟩
  have Q5 := Lib.hid (fun (g cap : Nat) wr => rmay15_yes (some ⟨g, 0, none⟩) 256 cap (i : Int) 0 hm wr)
  obtain ⟨k, hk⟩ := w8_ex (hb2 (4 * i + 2) (by omega)).1 (hb2 (4 * i + 2) (by omega)).2
  obtain ⟨x, hx⟩ := w8_ex (hb2 (4 * i + 3) (by omega)).1 (hb2 (4 * i + 3) (by omega)).2
  obtain ⟨l3, h3⟩ : ∃ l3, (l2.set (4 * i + 2) (w8 (k &&& 191#8), (nth l2 (4 * i + 2)).2)) = l3 := ⟨_, rfl⟩
  obtain ⟨l4, h4⟩ : ∃ l4, (l3.set (4 * i + 2) (w8 ((k &&& 191#8) ||| 64#8), (nth l3 (4 * i + 2)).2)) = l4 := ⟨_, rfl⟩
  have n3 : l3.length = 256 := by rw [← h3, List.length_set, hn]
  have n4 : l4.length = 256 := by rw [← h4, List.length_set, n3]
  have s3 : ∀ j, j < 256 → (nth l3 j).2 = (nth l2 j).2 := fun j hj => by
    rw [← h3, nthS_set (by omega)]
    split
    · rename_i e; rw [← e]
    · rfl
  have s4 : ∀ j, j < 256 → (nth l4 j).2 = (nth l2 j).2 := fun j hj => by
    rw [← h4, nthS_set (by omega)]
    split
    · rename_i e; rw [← e]; exact s3 _ (by omega)
    · exact s3 j hj
  have k3 : (nth l3 (4 * i + 2)).1 = w8 (k &&& 191#8) := by rw [← h3, nthS_set (by omega), if_pos rfl]
  have k4 : (nth l4 (4 * i + 2)).1 = w8 ((k &&& 191#8) ||| 64#8) := by rw [← h4, nthS_set (by omega), if_pos rfl]
  have x3 : (nth l3 (4 * i + 3)).1 = w8 x := by rw [← h3, nthS_set (by omega), if_neg (by omega)]; exact hx
  have x4 : (nth l4 (4 * i + 3)).1 = w8 x := by rw [← h4, nthS_set (by omega), if_neg (by omega)]; exact x3
  have e3 : ((nth l3 (4 * i)).2 || ((nth l3 (4 * i + 1)).2 || ((nth l3 (4 * i + 2)).2 || ((nth l3 (4 * i + 3)).2 || (ls || hs))))) = ((nth l2 (4 * i)).2 || ((nth l2 (4 * i + 1)).2 || ((nth l2 (4 * i + 2)).2 || ((nth l2 (4 * i + 3)).2 || (ls || hs))))) := by rw [s3 _ (by omega), s3 _ (by omega), s3 _ (by omega), s3 _ (by omega)]
  have e4 : ((nth l4 (4 * i)).2 || ((nth l4 (4 * i + 1)).2 || ((nth l4 (4 * i + 2)).2 || ((nth l4 (4 * i + 3)).2 || (ls || hs))))) = ((nth l2 (4 * i)).2 || ((nth l2 (4 * i + 1)).2 || ((nth l2 (4 * i + 2)).2 || ((nth l2 (4 * i + 3)).2 || (ls || hs))))) := by rw [s4 _ (by omega), s4 _ (by omega), s4 _ (by omega), s4 _ (by omega)]
  have U1 := fun (g cp : Nat) wr h hc hm => sunit_ct g 0 cp i (k &&& 191#8) x lo hi ls hs l3 wr h n3 hi64 hc hm k3 x3
  have U2 := fun (g cp : Nat) wr h hc hm => sunit_ct g 0 cp i ((k &&& 191#8) ||| 64#8) x lo hi ls hs l4 wr h n4 hi64 hc hm k4 x4
  rw [e3] at U1
  rw [e4] at U2
  generalize ((nth l2 (4 * i)).2 || ((nth l2 (4 * i + 1)).2 || ((nth l2 (4 * i + 2)).2 || ((nth l2 (4 * i + 3)).2 || (ls || hs))))) = sl at *
  have QU1 := Lib.hid U1
  have QU2 := Lib.hid U2
  have TI := Lib.hid (fun j h => turned_in x k lo hi sl (decide (i = 0)) j h)
  have TO := Lib.hid (fun y h => turned_out x (k &&& 191#8) ((k &&& 191#8) ||| 64#8) lo hi sl (decide (i = 0)) y h)
  have hus : (unitS x (k &&& 191#8) sl (decide (i = 0)) lo hi).s = sl := rfl
  have hut : (unitS x ((k &&& 191#8) ||| 64#8) sl (decide (i = 0)) lo hi).s = sl := rfl
  generalize unitS x (k &&& 191#8) sl (decide (i = 0)) lo hi = u at *
  generalize unitS x ((k &&& 191#8) ||| 64#8) sl (decide (i = 0)) lo hi = v at *
  have E1 := Lib.hid (off_num k)
  have E2 := Lib.hid (on_num (k &&& 191#8))
  have H3 := Lib.hid h3
  have H4 := Lib.hid h4
  have HK := Lib.hid hk
  have HK3 := Lib.hid k3
  have HX4 := Lib.hid x4
  have HN3 := Lib.hid n3
  have HN4 := Lib.hid n4
  have hxl := w8_lt x
  have QD := Lib.hid (fun sv l y b0 b1 wr h => sdot_ct sv l y b0 b1 wr h)
  have HZ := Lib.hid alloc_unit
  have hl2 : 4 * i + 2 < l2.length := by omega
  have HL2 := Lib.hid hl2
  have hl3 : 4 * i + 2 < l3.length := by omega
  have HL3 := Lib.hid hl3
  clear U1 U2 e3 e4 h3 h4 hk hx k3 k4 x3 x4 s3 s4 hm hb2 hl2 hl3 n3 n4
  have M2 : True := trivial
  have M3 : True := trivial
  have M4 : True := trivial
  have M5 : True := trivial
  have M6 : True := trivial
  have M7 : True := trivial
  have M8 : True := trivial
  have M9 : True := trivial
  go_enter Try.func7, Try.ntmps7
  go_wp2_with (first | (clear M1; refine wpList_mboxA rfl _ _ rfl H (saC ⟨(i : Int), ql, qt, qb, lo, ls, hi, hs, qx⟩) rfl ?_; clear H; intro Rq w1 _ H) | (go_at_call 8; have o0 := own_none w1; have b0 : Below w1.heap.size w1 (w1.alloc (.cells #[] 24)) := (Below.refl _ _).alloc (Nat.le_refl _) _; (refine (QF.out _ ((HR.out.below H.toBelow).below b0)).mono ?_); rintro e w2 ⟨rfl, hB⟩; have o1 := o0.below hB; have b1 := b0.next hB; clear o0 b0 hB) | (at_builtin; obtain ⟨g, capg, wq, r1, o2, _, b2⟩ := app_bytes w2 w1.heap.size w1.heap.size 0 [] l2 v2 22 o1 ((HR2.out.below H.toBelow).below b1).src (by rw [List.length_nil]; omega) b1.size; rw [List.nil_append] at r1 o2; refine step_app (by rfl) _ _ _ _ rfl _ _ rfl rfl _ _ r1 ?_; obtain ⟨cs0, hb0, hO, hG⟩ := rowS_own o2; replace H := Mem.add H (b1.trans b2) hb0 hO; have HG := Lib.hid hG; (try rw [hn]); clear r1 o1 o2 b1 b2 hb0 hO hG) | (go_at_call 12; (with_reducible refine (Q5.out _ _ _).mono ?_); rintro e w2 ⟨rfl, hB⟩; replace H := H.next hB; clear hB) | (clear M2; refine gate_load _ _ rfl ?_; refine wpList_mload1 rfl 5 _ rfl _ ((4 * i + 2) * 2) rfl 0 H _ (.int .u8 _) rfl ((rowS_get HG.out (4 * i + 2) HL2.out).1.trans (by rw [HK.out])) (by decide +kernel) ?_) | (clear M3; refine gate_store _ _ _ rfl ?_; refine wpList_rst rfl 5 _ _ rfl rfl _ (4 * i + 2) rfl 0 H rfl HG.out HL2.out _ rfl (by kernel_rfl) ?_; clear H HG; intro w1 cs2 hg H; simp only [List.set_cons_zero, List.set_cons_succ] at H; rw [E1.out, H3.out] at hg; have HG := Lib.hid hg; clear hg) | (go_at_call 11; (first | (refine (QU1.out _ _ _ (ls_rowG (i := 0) H rfl HG.out) (by have := HG.out.le; have := HN3.out; omega) HG.out.max).mono ?_) | (refine (QU2.out _ _ _ (ls_rowG (i := 0) H rfl HG.out) (by have := HG.out.le; have := HN4.out; omega) HG.out.max).mono ?_)); rintro e w2 ⟨rfl, hB⟩; replace H := H.next hB; clear hB) | (clear M4; refine wpList_mnew rfl _ rfl H _ HZ.out ?_; clear H; intro Ru w1 _ H) | (refine gate_store _ _ _ rfl ?_; refine wpList_mstoreA rfl 36 _ _ rfl rfl _ rfl 0 H (unC _) _ rfl rfl (by kernel_rfl) (by kernel_rfl) (by kernel_rfl) ?_; clear H; intro w1 H; simp only [List.set_cons_zero, List.set_cons_succ] at H) | (clear M5; refine gate_load _ _ rfl ?_; refine wpList_mload1 rfl 5 _ rfl _ ((4 * i + 2) * 2) rfl 1 H _ (.int .u8 _) rfl ((rowS_get HG.out (4 * i + 2) HL3.out).1.trans (by rw [HK3.out])) (by decide +kernel) ?_) | (clear M6; refine gate_store _ _ _ rfl ?_; refine wpList_rst rfl 5 _ _ rfl rfl _ (4 * i + 2) rfl 1 H rfl HG.out HL3.out _ rfl (by kernel_rfl) ?_; clear H HG; intro w1 cs2 hg H; simp only [List.set_cons_zero, List.set_cons_succ] at H; rw [E2.out, H4.out] at hg; have HG := Lib.hid hg; clear hg) | (go_at_call 11; (first | (refine (QU1.out _ _ _ (ls_rowG (i := 1) H rfl HG.out) (by have := HG.out.le; have := HN3.out; omega) HG.out.max).mono ?_) | (refine (QU2.out _ _ _ (ls_rowG (i := 1) H rfl HG.out) (by have := HG.out.le; have := HN4.out; omega) HG.out.max).mono ?_)); rintro e w2 ⟨rfl, hB⟩; replace H := H.next hB; clear hB) | (clear M7; refine wpList_mnew rfl _ rfl H _ HZ.out ?_; clear H; intro Rw w1 _ H) | (refine gate_load _ _ rfl ?_; refine wpList_mload1 rfl 4 _ rfl _ _ rfl 1 H _ (.bool _) rfl rfl (by decide +kernel) ?_) | (refine gate_load _ _ rfl ?_; refine wpList_mload1 rfl 4 _ rfl _ _ rfl 0 H _ (.bool _) rfl rfl (by decide +kernel) ?_) | (clear M8; refine gate_load _ _ rfl ?_; refine wpList_mload1 rfl 5 _ rfl _ ((4 * i + 3) * 2) rfl 2 H _ (.int .u8 _) rfl ((rowS_get HG.out (4 * i + 3) (by have := HN4.out; omega)).1.trans (by rw [HX4.out])) (by decide +kernel) ?_) | (refine gate_load _ _ rfl ?_; refine wpList_mload1 rfl 3 _ rfl _ _ rfl 1 H _ (.int .i64 _) rfl rfl (by decide +kernel) ?_) | (refine gate_load _ _ rfl ?_; refine wpList_mload1 rfl 3 _ rfl _ _ rfl 2 H _ (.int .i64 _) rfl rfl (by decide +kernel) ?_) | (refine gate_load _ _ rfl ?_; refine wpList_mload1 rfl 3 _ rfl _ _ rfl 3 H _ (.int .i64 _) rfl rfl (by decide +kernel) ?_) | (refine gate_load _ _ rfl ?_; refine wpList_mload rfl 24 _ rfl _ _ rfl 1 H _ #[.int .u8 _, .bool _] rfl (by decide +kernel) (by kernel_rfl) (sa_lo ⟨_, _, _, _, _, _, _, _, _⟩) ?_) | (refine gate_load _ _ rfl ?_; refine wpList_mload rfl 24 _ rfl _ _ rfl 1 H _ #[.int .u8 _, .bool _] rfl (by decide +kernel) (by kernel_rfl) (sa_hi ⟨_, _, _, _, _, _, _, _, _⟩) ?_) | (refine gate_load _ _ rfl ?_; refine wpList_mload rfl 24 _ rfl _ _ rfl 2 H _ #[.int .u8 _, .bool _] rfl (by decide +kernel) (by kernel_rfl) (sa_lo ⟨_, _, _, _, _, _, _, _, _⟩) ?_) | (refine gate_load _ _ rfl ?_; refine wpList_mload rfl 24 _ rfl _ _ rfl 2 H _ #[.int .u8 _, .bool _] rfl (by decide +kernel) (by kernel_rfl) (sa_hi ⟨_, _, _, _, _, _, _, _, _⟩) ?_) | fail)
  go_loopw [10, 11, 12, 13, 14, 15, 16, 17, 18, 19] (fun ii _ _ _ _ _ _ _ _ _ wr => ∃ n : Nat, n ≤ 8 ∧ ii = .int .i64 n ∧ Mem w.heap.size [] w wr [(Rw, unC v), (Ru, unC u), (g, cs2), (Rq, (saC ⟨(i : Int), ql, qt, qb, lo, ls, hi, hs, qx⟩))]) (fun ii _ _ _ _ _ _ _ _ _ _ => 8 - (intOf ii).toNat)
  case atStart => exact ⟨0, by omega, rfl, H⟩
  case round =>
    clear H
    obtain ⟨n, hn8, rfl, H⟩ := hrel
    by_cases hlt : n < 8
    · obtain ⟨t1, t2⟩ := TI.out n hlt
      have D1 := fun (R : Nat) wr h => QD.out (.slice (some ⟨R, 0, none⟩) 1 1) [u] (w8 x + n) (by omega) (by omega) wr h
      have D2 := fun (R : Nat) wr h => QD.out (.slice (some ⟨R, 0, none⟩) 1 1) [v] (w8 x + 7 - n) (by omega) (by omega) wr h
      have D3 := fun (R : Nat) wr h => QD.out (.slice (some ⟨R, 0, none⟩) 2 2) [u, v] (w8 x + n) (by omega) (by omega) wr h
      rw [t1] at D2
      generalize seenU [u] (w8 x + n) = z1 at *
      generalize seenU [u, v] (w8 x + n) = z2 at *
      obtain ⟨a, b, z⟩ := z1
      obtain ⟨c1, c2, c3⟩ := z2
      dsimp only at D1 D2 D3 t2
      have QD1 := Lib.hid D1
      have QD2 := Lib.hid D2
      have QD3 := Lib.hid D3
      clear D1 D2 D3 t1
      have MA : True := trivial
      have MB : True := trivial
      have MC : True := trivial
      by_cases ha : 0 < a
      · obtain rfl := t2 ha
        clear t2
        go_wp2_with (first | (refine gate_load _ _ rfl ?_; refine wpList_mloadA rfl 36 _ rfl _ rfl 0 H (unC _) rfl (by decide +kernel) (by kernel_rfl) ?_) | (refine gate_load _ _ rfl ?_; refine wpList_mloadA rfl 36 _ rfl _ rfl 1 H (unC _) rfl (by decide +kernel) (by kernel_rfl) ?_) | (clear MA; refine wpList_mrow rfl _ _ _ rfl H _ (by simp only [List.map_toArray, List.map_cons, List.map_nil, Act.eval]; rfl) _ _ (build_us1 u) ?_; clear H; intro R1 w1 H) | (clear MB; refine wpList_mrow rfl _ _ _ rfl H _ (by simp only [List.map_toArray, List.map_cons, List.map_nil, Act.eval]; rfl) _ _ (build_us1 v) ?_; clear H; intro R1 w1 H) | (clear MC; refine wpList_mrow rfl _ _ _ rfl H _ (by simp only [List.map_toArray, List.map_cons, List.map_nil, Act.eval]; rfl) _ _ (build_us2 u v) ?_; clear H; intro R1 w1 H) | (go_at_call 18; (with_reducible refine (QD1.out _ _ (rdu_1 (i := 0) H rfl)).mono ?_); rintro e w2 ⟨rfl, hB⟩; replace H := H.next hB; clear hB; replace H := H.sub (List.Sublist.cons _ (List.Sublist.refl _))) | (go_at_call 18; (with_reducible refine (QD2.out _ _ (rdu_1 (i := 0) H rfl)).mono ?_); rintro e w2 ⟨rfl, hB⟩; replace H := H.next hB; clear hB; replace H := H.sub (List.Sublist.cons _ (List.Sublist.refl _))) | (go_at_call 18; (with_reducible refine (QD3.out _ _ (rdu_2 (i := 0) H rfl)).mono ?_); rintro e w2 ⟨rfl, hB⟩; replace H := H.next hB; clear hB; replace H := H.sub (List.Sublist.cons _ (List.Sublist.refl _))) | fail)
        go_roundw
        case rel => exact ⟨n + 1, by omega, by go_num, H⟩
        case measure => simp [intOf]; omega
      · clear t2
        go_wp2_with (first | (refine gate_load _ _ rfl ?_; refine wpList_mloadA rfl 36 _ rfl _ rfl 0 H (unC _) rfl (by decide +kernel) (by kernel_rfl) ?_) | (refine gate_load _ _ rfl ?_; refine wpList_mloadA rfl 36 _ rfl _ rfl 1 H (unC _) rfl (by decide +kernel) (by kernel_rfl) ?_) | (clear MA; refine wpList_mrow rfl _ _ _ rfl H _ (by simp only [List.map_toArray, List.map_cons, List.map_nil, Act.eval]; rfl) _ _ (build_us1 u) ?_; clear H; intro R1 w1 H) | (clear MB; refine wpList_mrow rfl _ _ _ rfl H _ (by simp only [List.map_toArray, List.map_cons, List.map_nil, Act.eval]; rfl) _ _ (build_us1 v) ?_; clear H; intro R1 w1 H) | (clear MC; refine wpList_mrow rfl _ _ _ rfl H _ (by simp only [List.map_toArray, List.map_cons, List.map_nil, Act.eval]; rfl) _ _ (build_us2 u v) ?_; clear H; intro R1 w1 H) | (go_at_call 18; (with_reducible refine (QD1.out _ _ (rdu_1 (i := 0) H rfl)).mono ?_); rintro e w2 ⟨rfl, hB⟩; replace H := H.next hB; clear hB; replace H := H.sub (List.Sublist.cons _ (List.Sublist.refl _))) | (go_at_call 18; (with_reducible refine (QD2.out _ _ (rdu_1 (i := 0) H rfl)).mono ?_); rintro e w2 ⟨rfl, hB⟩; replace H := H.next hB; clear hB; replace H := H.sub (List.Sublist.cons _ (List.Sublist.refl _))) | (go_at_call 18; (with_reducible refine (QD3.out _ _ (rdu_2 (i := 0) H rfl)).mono ?_); rintro e w2 ⟨rfl, hB⟩; replace H := H.next hB; clear hB; replace H := H.sub (List.Sublist.cons _ (List.Sublist.refl _))) | fail)
        go_roundw
        case rel => exact ⟨n + 1, by omega, by go_num, H⟩
        case measure => simp [intOf]; omega
    · obtain rfl : n = 8 := by omega
      have D1 := fun (R : Nat) wr h => QD.out (.slice (some ⟨R, 0, none⟩) 2 2) [u, v] (w8 x - 1) (by omega) (by omega) wr h
      have D2 := fun (R : Nat) wr h => QD.out (.slice (some ⟨R, 0, none⟩) 2 2) [u, v] (w8 x + 8) (by omega) (by omega) wr h
      have t1 := TO.out (w8 x - 1) (by omega)
      have t2 := TO.out (w8 x + 8) (by omega)
      generalize seenU [u, v] (w8 x - 1) = z1 at *
      generalize seenU [u, v] (w8 x + 8) = z2 at *
      obtain ⟨a, b, z⟩ := z1
      obtain ⟨c1, c2, c3⟩ := z2
      dsimp only at D1 D2 t1 t2
      subst t1 t2
      have QD1 := Lib.hid D1
      have QD2 := Lib.hid D2
      clear D1 D2
      have MA : True := trivial
      have MB : True := trivial
      go_wp2_with (first | (refine gate_load _ _ rfl ?_; refine wpList_mloadA rfl 36 _ rfl _ rfl 0 H (unC _) rfl (by decide +kernel) (by kernel_rfl) ?_) | (refine gate_load _ _ rfl ?_; refine wpList_mloadA rfl 36 _ rfl _ rfl 1 H (unC _) rfl (by decide +kernel) (by kernel_rfl) ?_) | (clear MA; refine wpList_mrow rfl _ _ _ rfl H _ (by simp only [List.map_toArray, List.map_cons, List.map_nil, Act.eval]; rfl) _ _ (build_us2 u v) ?_; clear H; intro R1 w1 H) | (clear MB; refine wpList_mrow rfl _ _ _ rfl H _ (by simp only [List.map_toArray, List.map_cons, List.map_nil, Act.eval]; rfl) _ _ (build_us2 u v) ?_; clear H; intro R1 w1 H) | (go_at_call 18; (with_reducible refine (QD1.out _ _ (rdu_2 (i := 0) H rfl)).mono ?_); rintro e w2 ⟨rfl, hB⟩; replace H := H.next hB; clear hB; replace H := H.sub (List.Sublist.cons _ (List.Sublist.refl _))) | (go_at_call 18; (with_reducible refine (QD2.out _ _ (rdu_2 (i := 0) H rfl)).mono ?_); rintro e w2 ⟨rfl, hB⟩; replace H := H.next hB; clear hB; replace H := H.sub (List.Sublist.cons _ (List.Sublist.refl _))) | (go_at_call 16; (with_reducible refine (QW.out _).mono ?_); rintro e w2 ⟨rfl, hB⟩; replace H := H.next hB; clear hB) | fail)
      go_ret
      exact ⟨rfl, H.toBelow⟩
theorem spriteTurned_walk (sv : Value) (l : List (Int × Bool)) (q : Sa) (w : World) (hr : Rd w sv l) (hb : bytS l) : Calls Try.prog 7 #[sv, .agg (saC q)] w fun e w' => e = .returned (.bool true) ∧ Below w.heap.size w w' := by
  obtain ⟨qi, ql, qt, qb, lo, ls, hi, hs, qx⟩ := q
  cases hm : mayS (l.take 257).length qi 0
  · exact turned_no sv l qi ql qt qb lo ls hi hs qx w hr hb hm
  · rw [mayS_iff] at hm
    obtain ⟨hn, ⟨i0, i1⟩, _⟩ := hm
    obtain ⟨i, rfl⟩ := Int.eq_ofNat_of_zero_le i0
    exact turned_yes i sv l ql qt qb lo ls hi hs qx w hr hb (by omega) hn
end Go.Proofs.Ytphnpahjofacfaa
