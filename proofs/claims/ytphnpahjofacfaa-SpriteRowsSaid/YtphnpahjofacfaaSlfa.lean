/-
  The walk of SpriteRows. Over this seat's translation; no condition. (Written by gen_sp.py.)
-/
import Derived.Test.YtphnpahjofacfaaSmq
import Derived.Test.YtphnpahjofacfaaSlg
import Derived.Test.YtphnpahjofacfaaSez
namespace Go.Proofs.Ytphnpahjofacfaa
open Go.RowKit Go.Sort
set_option linter.unusedSimpArgs false
set_option linter.unusedVariables false
set_option maxRecDepth 20000

theorem rows_call (T qb : Bool) (i : Nat) (hi64 : i < 64) (l2 l3 : List (Int × Bool)) (K1 : BitVec 8) (h3 : l2.set (4 * i + 2) (w8 K1, (nth l2 (4 * i + 2)).2) = l3) (hn : l2.length = 256) (hb : bytS l2) (hy : (nth l2 (4 * i)).1 + highS T ≤ 256) (line : Int) (l0 : 0 ≤ line) (l1 : line < 256) (A : Int) (hA : adrS line (nth l2 (4 * i)).1 (nth l2 (4 * i + 1)).1 (w8 K1) T qb = A) (g cp : Nat) (wr : World) (h : Ls wr g 0 l3) (hc : 256 ≤ cp) (hm : cp ≤ maxLen) :
    Calls Try.prog 10 #[.slice (some ⟨g, 0, none⟩) 256 cp, .int .i64 (i : Int), .int .i64 line, .bool T, .bool qb] wr fun e w' => e = .returned (.tuple #[.int .u16 A, .bool (secA l2 i), .int .i64 0]) ∧ Below wr.heap.size wr w' := by
  have n3 : l3.length = 256 := by rw [← h3, List.length_set, hn]
  have hb3 : bytS l3 := fun j hj => by
    rw [← h3, nthS_set (by omega)]
    split
    · have := w8_lt K1; exact ⟨by dsimp only; omega, by dsimp only; omega⟩
    · exact hb j (by omega)
  have q := saddr_ct g 0 cp i line T qb l3 wr h n3 hb3 hi64 hc hm l0 l1
  have e1 : adrL l3 i line T qb = A := by
    rw [← hA]
    unfold adrL
    rw [← h3, nthS_set (by omega), nthS_set (by omega), nthS_set (by omega), if_neg (by omega), if_neg (by omega), if_pos rfl]
  have e2 : secA l3 i = secA l2 i := by
    unfold secA
    rw [← h3, nthS_set (by omega), nthS_set (by omega), nthS_set (by omega), if_neg (by omega), if_neg (by omega), if_pos rfl]
  rw [e1, e2] at q
  exact q
theorem set_self {l : List (Int × Bool)} {k : Nat} (h : k < l.length) : l.set k (nth l k) = l := by
  apply List.ext_getElem?
  intro j
  rw [List.getElem?_set]
  split
  · rename_i e
    rw [← e]
    exact (nth_at h).symm
  · rfl
attribute [local irreducible] wpList
set_option maxHeartbeats 8000000 in
theorem rows_no (sv : Value) (l : List (Int × Bool)) (qi : Int) (ql : Int) (qt : Bool) (qb : Bool) (lo : BitVec 8) (ls : Bool) (hi : BitVec 8) (hs : Bool) (qx : Int) (w : World) (hr : Rd w sv l) (hb : bytS l) (hm : mayS (l.take 257).length qi ql = false) : Calls Try.prog 6 #[sv, .agg (saC ⟨qi, ql, qt, qb, lo, ls, hi, hs, qx⟩)] w fun e w' => e = .returned (.bool true) ∧ Below w.heap.size w w' := by
  have QW := Lib.hid (fun wr => awake15_ct wr)
  have QF := fun wr h => few15_cut sv l wr h
  have HR := Lib.hid hr
  have hr2 := hr.cut15
  have hb2 := bytS_take hb 257
  have hl57 : (l.take 257).length ≤ 257 := List.length_take_le _ _
  generalize l.take 257 = l2 at *
  generalize cutV sv = v2 at *
  have H := Mem.start w
  have M1 : True := trivial
  have QF := Lib.hid QF
  have HR2 := Lib.hid hr2
  clear hr hb hr2
  have Q5 := Lib.hid (fun (g cap : Nat) wr => rmay15_no (some ⟨g, 0, none⟩) l2.length cap qi ql hm wr)
  have hn : True := trivial
  go_enter Try.func6, Try.ntmps6
  go_wp2_with (first | (clear M1; refine wpList_mboxA rfl _ _ rfl H (saC ⟨qi, ql, qt, qb, lo, ls, hi, hs, qx⟩) rfl ?_; clear H; intro Rq w1 _ H) | (go_at_call 8; have o0 := own_none w1; have b0 : Below w1.heap.size w1 (w1.alloc (.cells #[] 24)) := (Below.refl _ _).alloc (Nat.le_refl _) _; (refine (QF.out _ ((HR.out.below H.toBelow).below b0)).mono ?_); rintro e w2 ⟨rfl, hB⟩; have o1 := o0.below hB; have b1 := b0.next hB; clear o0 b0 hB) | (at_builtin; obtain ⟨g, capg, wq, r1, o2, _, b2⟩ := app_bytes w2 w1.heap.size w1.heap.size 0 [] l2 v2 22 o1 ((HR2.out.below H.toBelow).below b1).src (by rw [List.length_nil]; omega) b1.size; rw [List.nil_append] at r1 o2; refine step_app (by rfl) _ _ _ _ rfl _ _ rfl rfl _ _ r1 ?_; obtain ⟨cs0, hb0, hO, hG⟩ := rowS_own o2; replace H := Mem.add H (b1.trans b2) hb0 hO; have HG := Lib.hid hG; (try rw [hn]); clear r1 o1 o2 b1 b2 hb0 hO hG) | (refine gate_load _ _ rfl ?_; refine wpList_mload1 rfl 3 _ rfl _ _ rfl 0 H _ (.int .i64 _) rfl rfl (by decide +kernel) ?_) | (refine gate_load _ _ rfl ?_; refine wpList_mload1 rfl 3 _ rfl _ _ rfl 1 H _ (.int .i64 _) rfl rfl (by decide +kernel) ?_) | (go_at_call 12; (with_reducible refine (Q5.out _ _ _).mono ?_); rintro e w2 ⟨rfl, hB⟩; replace H := H.next hB; clear hB) | (go_at_call 16; (with_reducible refine (QW.out _).mono ?_); rintro e w2 ⟨rfl, hB⟩; replace H := H.next hB; clear hB) | fail)
  go_ret
  exact ⟨rfl, H.toBelow⟩
set_option maxHeartbeats 8000000 in
theorem rows_tall (sv : Value) (l : List (Int × Bool)) (i : Nat) (ql : Int) (qb : Bool) (lo : BitVec 8) (ls : Bool) (hi : BitVec 8) (hs : Bool) (qx : Int) (w : World) (hr : Rd w sv l) (hb : bytS l) (hi64 : i < 64) (l0 : 0 ≤ ql) (l1 : ql < 256) (hn : (l.take 257).length = 256) : Calls Try.prog 6 #[sv, .agg (saC ⟨(i : Int), ql, true, qb, lo, ls, hi, hs, qx⟩)] w fun e w' => e = .returned (.bool true) ∧ Below w.heap.size w w' := by
  have QW := Lib.hid (fun wr => awake15_ct wr)
  have QF := fun wr h => few15_cut sv l wr h
  have HR := Lib.hid hr
  have hr2 := hr.cut15
  have hb2 := bytS_take hb 257
  have hl57 : (l.take 257).length ≤ 257 := List.length_take_le _ _
  generalize l.take 257 = l2 at *
  generalize cutV sv = v2 at *
  have H := Mem.start w
  have M1 : True := trivial
  have QF := Lib.hid QF
  have HR2 := Lib.hid hr2
  clear hr hb hr2
  have hm : mayS 256 (i : Int) ql = true := (mayS_iff _ _ _).2 ⟨rfl, ⟨by omega, by omega⟩, ⟨l0, l1⟩⟩
  have Q5 := Lib.hid (fun (g cap : Nat) wr => rmay15_yes (some ⟨g, 0, none⟩) 256 cap (i : Int) ql hm wr)
  obtain ⟨k, hk⟩ := w8_ex (hb2 (4 * i + 2) (by omega)).1 (hb2 (4 * i + 2) (by omega)).2
  have hBy := hb2 (4 * i) (by omega)
  have hBt := hb2 (4 * i + 1) (by omega)
  obtain ⟨lab, hlab⟩ : ∃ b, (nth l2 (4 * i + 2)).2 = b := ⟨_, rfl⟩
  obtain ⟨K1, hK1⟩ : ∃ b, k &&& 127#8 = b := ⟨_, rfl⟩
  obtain ⟨K2, hK2⟩ : ∃ b, K1 ||| 128#8 = b := ⟨_, rfl⟩
  have hkk := k127 k
  rw [hK1, hK2] at hkk
  obtain ⟨-, hor, hlo, hhi, hand⟩ := hkk
  obtain ⟨l3, h3⟩ : ∃ l3, l2.set (4 * i + 2) (w8 K1, (nth l2 (4 * i + 2)).2) = l3 := ⟨_, rfl⟩
  obtain ⟨l4, h4⟩ : ∃ l4, l2.set (4 * i + 2) (w8 K2, (nth l2 (4 * i + 2)).2) = l4 := ⟨_, rfl⟩
  have n3 : l3.length = 256 := by rw [← h3, List.length_set, hn]
  have n4 : l4.length = 256 := by rw [← h4, List.length_set, hn]
  have k3 : nth l3 (4 * i + 2) = (w8 K1, lab) := by rw [← h3, nthS_set (by omega), if_pos rfl, hlab]
  have h34 : l3.set (4 * i + 2) (w8 K2, (nth l3 (4 * i + 2)).2) = l4 := by rw [k3, ← h3, List.set_set, ← h4, hlab]
  have U1 := fun hy => rows_call true qb i hi64 l2 l3 K1 h3 hn hb2 hy
  have U2 := fun hy => rows_call true qb i hi64 l2 l4 K2 h4 hn hb2 hy
  obtain ⟨y, hy⟩ : ∃ y, (nth l2 (4 * i)).1 = y := ⟨_, rfl⟩
  obtain ⟨t, ht⟩ : ∃ t, (nth l2 (4 * i + 1)).1 = t := ⟨_, rfl⟩
  rw [hy, ht] at U1 U2
  rw [hy] at hBy
  rw [ht] at hBt
  obtain ⟨sx, hsx⟩ : ∃ s, secA l2 i = s := ⟨_, rfl⟩
  rw [hsx] at U1 U2
  have HY := Lib.hid hy
  have HT := Lib.hid ht
  have HK := Lib.hid hk
  have HK3 := Lib.hid k3
  have H3 := Lib.hid h3
  have H4 := Lib.hid h4
  have H34 := Lib.hid h34
  have HN := Lib.hid hn
  have HN3 := Lib.hid n3
  have HN4 := Lib.hid n4
  have HLAB := Lib.hid hlab
  have HOR := Lib.hid hor
  have HAND := Lib.hid hand
  have HK1 := Lib.hid hK1
  have HLO := Lib.hid hlo
  have HHI := Lib.hid hhi
  have hl2 : 4 * i + 2 < l2.length := by omega
  have HL2 := Lib.hid hl2
  have HT4 := Lib.hid (show (nth l4 (4 * i + 1)).1 = t by rw [← h4, nthS_set (by omega), if_neg (by omega)]; exact ht)
  clear hy ht hk k3 h3 h4 h34 n3 n4 hlab hor hand hK1 hlo hhi hK2 hm hb2 hl2 hsx
  have M2 : True := trivial
  by_cases hyh : y + 16 ≤ 256
  · skip
    go_enter Try.func6, Try.ntmps6
    go_wp2_with (first | (clear M1; refine wpList_mboxA rfl _ _ rfl H (saC ⟨(i : Int), ql, true, qb, lo, ls, hi, hs, qx⟩) rfl ?_; clear H; intro Rq w1 _ H) | (go_at_call 8; have o0 := own_none w1; have b0 : Below w1.heap.size w1 (w1.alloc (.cells #[] 24)) := (Below.refl _ _).alloc (Nat.le_refl _) _; (refine (QF.out _ ((HR.out.below H.toBelow).below b0)).mono ?_); rintro e w2 ⟨rfl, hB⟩; have o1 := o0.below hB; have b1 := b0.next hB; clear o0 b0 hB) | (at_builtin; obtain ⟨g, capg, wq, r1, o2, _, b2⟩ := app_bytes w2 w1.heap.size w1.heap.size 0 [] l2 v2 22 o1 ((HR2.out.below H.toBelow).below b1).src (by rw [List.length_nil]; omega) b1.size; rw [List.nil_append] at r1 o2; refine step_app (by rfl) _ _ _ _ rfl _ _ rfl rfl _ _ r1 ?_; obtain ⟨cs0, hb0, hO, hG⟩ := rowS_own o2; replace H := Mem.add H (b1.trans b2) hb0 hO; have HG := Lib.hid hG; (try rw [hn]); clear r1 o1 o2 b1 b2 hb0 hO hG) | (refine gate_load _ _ rfl ?_; refine wpList_mload1 rfl 3 _ rfl _ _ rfl 0 H _ (.int .i64 _) rfl rfl (by decide +kernel) ?_) | (refine gate_load _ _ rfl ?_; refine wpList_mload1 rfl 3 _ rfl _ _ rfl 1 H _ (.int .i64 _) rfl rfl (by decide +kernel) ?_) | (go_at_call 12; (with_reducible refine (Q5.out _ _ _).mono ?_); rintro e w2 ⟨rfl, hB⟩; replace H := H.next hB; clear hB) | (clear M2; refine gate_load _ _ rfl ?_; refine wpList_mload1 rfl 5 _ rfl _ ((4 * i) * 2) rfl 0 H _ (.int .u8 _) rfl ((rowS_get HG.out (4 * i) (by have := HL2.out; omega)).1.trans (by rw [HY.out])) (by decide +kernel) ?_) | (refine gate_load _ _ rfl ?_; refine wpList_mload1 rfl 4 _ rfl _ _ rfl 1 H _ (.bool _) rfl rfl (by decide +kernel) ?_) | fail)
    have V1 := Lib.hid (U1 hyh)
    have V2 := Lib.hid (U2 hyh)
    clear U1 U2
    go_loopw [7, 8, 9, 10, 11, 12, 13] (fun ii _ _ _ _ _ _ wr => ∃ (n : Nat) (kk : BitVec 8) (cs : Array Value), n ≤ 16 ∧ ii = .int .i64 n ∧ kk &&& 127#8 = K1 ∧ RowG bcs 2 cs capg (l2.set (4 * i + 2) (w8 kk, lab)) ∧ Mem w.heap.size [] w wr [(g, cs), (Rq, (saC ⟨(i : Int), ql, true, qb, lo, ls, hi, hs, qx⟩))]) (fun ii _ _ _ _ _ _ _ => 16 - (intOf ii).toNat)
    case atStart =>
      refine ⟨0, k, cs0, by omega, rfl, HK1.out, ?_, H⟩
      have e : l2.set (4 * i + 2) (w8 k, lab) = l2 := by
        have hx : (w8 k, lab) = nth l2 (4 * i + 2) := Prod.ext HK.out.symm HLAB.out.symm
        rw [hx]
        exact set_self HL2.out
      rw [e]
      exact HG.out
    case round =>
      clear H HG
      obtain ⟨n, kk, cs, hn8, rfl, hkk, hG, H⟩ := hrel
      have hlk : ∃ lk, l2.set (4 * i + 2) (w8 kk, lab) = lk := ⟨_, rfl⟩
      obtain ⟨lk, hlk⟩ := hlk
      have nlk : lk.length = 256 := by rw [← hlk, List.length_set]; exact HN.out
      have klk : nth lk (4 * i + 2) = (w8 kk, lab) := by rw [← hlk, nthS_set (by have := HL2.out; omega), if_pos rfl]
      have hlk3 : lk.set (4 * i + 2) (w8 K1, (nth lk (4 * i + 2)).2) = l3 := by rw [klk, ← hlk, List.set_set, ← H3.out, HLAB.out]
      rw [hlk] at hG
      have HG := Lib.hid hG
      have KLK := Lib.hid klk
      have HLK3 := Lib.hid hlk3
      have HA1 := Lib.hid ((k127 kk).1.trans (by rw [hkk]))
      have hlklt : 4 * i + 2 < lk.length := by omega
      have HLL := Lib.hid hlklt
      have HL3 := Lib.hid (show 4 * i + 2 < l3.length by have := HN3.out; omega)
      clear hG klk hlk hlk3 hlklt nlk hkk
      by_cases hlt : n < 16
      · have r1 : (n : Int) < highS true := by simp only [highS, cond_true, cond_false]; omega
        have hA7 := adrR_7 t n true qb hBt.1 hBt.2 (by omega) r1
        have hAb := adrR_lt t n true qb hBt.1 hBt.2 (by omega) r1
        have hAx := adrR_tall t n qb hBt.1 hBt.2 (by omega) (by omega)
        have a1 := adrR_low y t (w8 K1) n true qb HLO.out (by omega) r1
        have a2 := adrR_high y t (w8 K2) n true qb HHI.out (by omega) r1
        generalize adrR t n true qb = A at *
        have QA := Lib.hid (V1.out (y + n) (by omega) (by omega) A a1)
        have QB := Lib.hid (V2.out (y + 16 - 1 - n) (by omega) (by omega) A a2)
        have HAX := Lib.hid hAx
        clear a1 a2 V1 V2 hAx
        have MA : True := trivial
        have MB : True := trivial
        have MC : True := trivial
        have MD : True := trivial
        have ME : True := trivial
        have MF : True := trivial
        go_wp2_with (first | (clear MA; refine gate_load _ _ rfl ?_; refine wpList_mload1 rfl 5 _ rfl _ ((4 * i + 2) * 2) rfl 0 H _ (.int .u8 _) rfl ((rowS_get HG.out (4 * i + 2) HLL.out).1.trans (by rw [KLK.out])) (by decide +kernel) ?_) | (clear MB; refine gate_store _ _ _ rfl ?_; refine wpList_rst rfl 5 _ _ rfl rfl _ (4 * i + 2) rfl 0 H rfl HG.out HLL.out _ rfl (by kernel_rfl) ?_; clear H HG; intro w1 cs2 hg H; simp only [List.set_cons_zero, List.set_cons_succ] at H; rw [HA1.out, HLK3.out] at hg; have HG := Lib.hid hg; clear hg) | (clear MC; go_at_call 10; (refine (QA.out _ _ _ (ls_rowG (i := 0) H rfl HG.out) (by have := HG.out.le; have := HN3.out; have := HN4.out; omega) HG.out.max).mono ?_); rintro e w2 ⟨rfl, hB⟩; replace H := H.next hB; clear hB) | (clear MD; refine gate_load _ _ rfl ?_; refine wpList_mload1 rfl 5 _ rfl _ ((4 * i + 2) * 2) rfl 0 H _ (.int .u8 _) rfl ((rowS_get HG.out (4 * i + 2) HL3.out).1.trans (by rw [HK3.out])) (by decide +kernel) ?_) | (clear ME; refine gate_store _ _ _ rfl ?_; refine wpList_rst rfl 5 _ _ rfl rfl _ (4 * i + 2) rfl 0 H rfl HG.out HL3.out _ rfl (by kernel_rfl) ?_; clear H HG; intro w1 cs2 hg H; simp only [List.set_cons_zero, List.set_cons_succ] at H; rw [HOR.out, H34.out] at hg; have HG := Lib.hid hg; clear hg) | (clear MF; go_at_call 10; (refine (QB.out _ _ _ (ls_rowG (i := 0) H rfl HG.out) (by have := HG.out.le; have := HN3.out; have := HN4.out; omega) HG.out.max).mono ?_); rintro e w2 ⟨rfl, hB⟩; replace H := H.next hB; clear hB) | (refine gate_load _ _ rfl ?_; refine wpList_mload1 rfl 3 _ rfl _ _ rfl 1 H _ (.int .i64 _) rfl rfl (by decide +kernel) ?_) | (refine gate_load _ _ rfl ?_; refine wpList_mload1 rfl 4 _ rfl _ _ rfl 1 H _ (.bool _) rfl rfl (by decide +kernel) ?_) | fail)
        (try simp only [Act.put, List.setIfInBounds_toArray, List.set_cons_succ, List.set_cons_zero])
        refine wp_region_settledZ () (by kernel_rfl) (by kernel_rfl) (fun _ : Unit => [(some 129, .pointer (some ⟨Rq, 2, none⟩)), (some 130, .bool true), (some 131, .bool true), (some 132, .int .u16 A), (some 133, .int .u16 (A / 16)), (some 134, .int .u16 (bits .and .u16 (A / 16) 1)), (some 135, .bool (decide (bits .and .u16 (A / 16) 1 = 1))), (some 136, .int .i64 (n : Int)), (some 137, .bool (decide (7 < (n : Int)))), (some 138, .bool false), (some 139, .bool false), (some 140, .bool false), (some 141, .pointer (some ⟨Rq, 2, none⟩)), (some 142, .bool true), (some 143, .bool false), (some 144, .bool false), (some 145, undef), (some 146, undef), (some 147, undef), (some 148, undef), (some 149, undef), (some 150, undef), (some 151, undef), (some 152, undef), (some 153, undef), (some 154, undef), (some 155, undef), (some 156, undef), (none, undef), (some 157, undef), (some 158, undef), (some 159, undef), (some 160, undef), (some 161, undef), (some 162, undef), (some 163, .bool false), (some 164, .bool false)]) (fun _ _ w' => Mem w.heap.size [] w w' [(g, cs2), (Rq, (saC ⟨(i : Int), ql, true, qb, lo, ls, hi, hs, qx⟩))]) 166 (by rfl) (fun _ => by rfl) (fun _ => by rfl) (fun _ => by rfl) H.drew ⟨?p0, ?p1, ?p2, ?p3, ?p4, ?p5, ?p6, ?p7, ?p8, ?p9, ?p10, ?p11, ?p12, ?p13, ?p14, ?p15, ?p16, ?p17, ?p18, ?p19, ?p20, ?p21, ?p22, ?p23, ?p24, ?p25, ?p26, ?p27, ?p28, ?p29, ?p30, ?p31, ?p32, ?p33, ?p34, ?p35, ?p36, trivial⟩ ?_
        case p0 =>
          intro D b a' w' hk he hsz hl hW
          have hz : a'.tmps.size = 166 := hsz.trans rfl
          have f3 : a'.tmps.getD 3 undef = .pointer (some ⟨Rq, 0, none⟩) := (hl 3).trans ((lookS_absent _ 0 (by simp)).trans rfl)
          exact .inl ⟨(by rfl), wp_val (.pointer (some ⟨Rq, 2, none⟩)) (by simp only [execOp, Act.eval, List.map_toArray, List.map_cons, List.map_nil]; rw [f3]; kernel_rfl) ⟨(), fun _ => rfl, ⟨_, rfl, rfl⟩, hW⟩⟩
        case p1 =>
          intro D b a' w' hk he hsz hl hW
          have hz : a'.tmps.size = 166 := hsz.trans rfl
          have e0 : a'.tmps.getD 129 undef = .pointer (some ⟨Rq, 2, none⟩) := (hl 129).trans (lookS_at (i := 0) rfl (he ⟨0, .data⟩ (by simp) rfl) rfl)
          exact .inl ⟨(by rfl), wp_sload1 _ _ rfl Rq 2 e0 1 hW _ (.bool true) rfl rfl (by decide +kernel) ⟨(), fun _ => rfl, ⟨_, rfl, rfl⟩, hW⟩⟩
        case p2 =>
          intro D b a' w' hk he hsz hl hW
          have hz : a'.tmps.size = 166 := hsz.trans rfl
          have e1 : a'.tmps.getD 130 undef = .bool true := (hl 130).trans (lookS_at (i := 1) rfl (he ⟨1, .data⟩ (by simp) rfl) rfl)
          exact .inl ⟨(by rfl), wp_val (.bool true) (by simp only [execOp, Act.eval, List.map_toArray, List.map_cons, List.map_nil]; rw [e1]; kernel_rfl) ⟨(), fun _ => rfl, ⟨_, rfl, rfl⟩, hW⟩⟩
        case p3 =>
          intro D b a' w' hk he hsz hl hW
          have hz : a'.tmps.size = 166 := hsz.trans rfl
          have g2 : a'.tmps.getD 131 undef = .bool true := (hl 131).trans (lookS_at (i := 2) rfl (he ⟨2, .guard⟩ (by simp) rfl) rfl)
          have f8 : a'.tmps.getD 8 undef = .int .u16 A := (hl 8).trans ((lookS_absent _ 0 (by simp)).trans rfl)
          exact .inl ⟨(wantedS_of rfl _ rfl rfl (by rw [hz]; decide) g2), wp_val (.int .u16 A) (by simp only [execOp, Act.eval, List.map_toArray, List.map_cons, List.map_nil]; rw [f8]; kernel_rfl) ⟨(), fun _ => rfl, ⟨_, rfl, rfl⟩, hW⟩⟩
        case p4 =>
          intro D b a' w' hk he hsz hl hW
          have hz : a'.tmps.size = 166 := hsz.trans rfl
          have g2 : a'.tmps.getD 131 undef = .bool true := (hl 131).trans (lookS_at (i := 2) rfl (he ⟨2, .guard⟩ (by simp) rfl) rfl)
          have e3 : a'.tmps.getD 132 undef = .int .u16 A := (hl 132).trans (lookS_at (i := 3) rfl (he ⟨3, .data⟩ (by simp) rfl) rfl)
          exact .inl ⟨(wantedS_of rfl _ rfl rfl (by rw [hz]; decide) g2), wp_val _ (ex_shrS (.tmp 132) _ _ rfl A e3 rfl) ⟨(), fun _ => rfl, ⟨_, rfl, rfl⟩, hW⟩⟩
        case p5 =>
          intro D b a' w' hk he hsz hl hW
          have hz : a'.tmps.size = 166 := hsz.trans rfl
          have g2 : a'.tmps.getD 131 undef = .bool true := (hl 131).trans (lookS_at (i := 2) rfl (he ⟨2, .guard⟩ (by simp) rfl) rfl)
          have e4 : a'.tmps.getD 133 undef = .int .u16 (A / 16) := (hl 133).trans (lookS_at (i := 4) rfl (he ⟨4, .data⟩ (by simp) rfl) rfl)
          exact .inl ⟨(wantedS_of rfl _ rfl rfl (by rw [hz]; decide) g2), wp_val (.int .u16 (bits .and .u16 (A / 16) 1)) (by simp only [execOp, Act.eval, List.map_toArray, List.map_cons, List.map_nil]; rw [e4]; kernel_rfl) ⟨(), fun _ => rfl, ⟨_, rfl, rfl⟩, hW⟩⟩
        case p6 =>
          intro D b a' w' hk he hsz hl hW
          have hz : a'.tmps.size = 166 := hsz.trans rfl
          have g2 : a'.tmps.getD 131 undef = .bool true := (hl 131).trans (lookS_at (i := 2) rfl (he ⟨2, .guard⟩ (by simp) rfl) rfl)
          have e5 : a'.tmps.getD 134 undef = .int .u16 (bits .and .u16 (A / 16) 1) := (hl 134).trans (lookS_at (i := 5) rfl (he ⟨5, .data⟩ (by simp) rfl) rfl)
          exact .inl ⟨(wantedS_of rfl _ rfl rfl (by rw [hz]; decide) g2), wp_val (.bool (decide (bits .and .u16 (A / 16) 1 = 1))) (by simp only [execOp, Act.eval, List.map_toArray, List.map_cons, List.map_nil]; rw [e5]; go_simp; first | done | (rw [Bool.eq_iff_iff, beq_iff_eq, decide_eq_true_iff])) ⟨(), fun _ => rfl, ⟨_, rfl, rfl⟩, hW⟩⟩
        case p7 =>
          intro D b a' w' hk he hsz hl hW
          have hz : a'.tmps.size = 166 := hsz.trans rfl
          have g2 : a'.tmps.getD 131 undef = .bool true := (hl 131).trans (lookS_at (i := 2) rfl (he ⟨2, .guard⟩ (by simp) rfl) rfl)
          have f7 : a'.tmps.getD 7 undef = .int .i64 (n : Int) := (hl 7).trans ((lookS_absent _ 0 (by simp)).trans rfl)
          exact .inl ⟨(wantedS_of rfl _ rfl rfl (by rw [hz]; decide) g2), wp_val (.int .i64 (n : Int)) (by simp only [execOp, Act.eval, List.map_toArray, List.map_cons, List.map_nil]; rw [f7]; kernel_rfl) ⟨(), fun _ => rfl, ⟨_, rfl, rfl⟩, hW⟩⟩
        case p8 =>
          intro D b a' w' hk he hsz hl hW
          have hz : a'.tmps.size = 166 := hsz.trans rfl
          have g2 : a'.tmps.getD 131 undef = .bool true := (hl 131).trans (lookS_at (i := 2) rfl (he ⟨2, .guard⟩ (by simp) rfl) rfl)
          have e7 : a'.tmps.getD 136 undef = .int .i64 (n : Int) := (hl 136).trans (lookS_at (i := 7) rfl (he ⟨7, .data⟩ (by simp) rfl) rfl)
          exact .inl ⟨(wantedS_of rfl _ rfl rfl (by rw [hz]; decide) g2), wp_val (.bool (decide (7 < (n : Int)))) (by simp only [execOp, Act.eval, List.map_toArray, List.map_cons, List.map_nil]; rw [e7]; go_simp) ⟨(), fun _ => rfl, ⟨_, rfl, rfl⟩, hW⟩⟩
        case p9 =>
          intro D b a' w' hk he hsz hl hW
          have hz : a'.tmps.size = 166 := hsz.trans rfl
          have g2 : a'.tmps.getD 131 undef = .bool true := (hl 131).trans (lookS_at (i := 2) rfl (he ⟨2, .guard⟩ (by simp) rfl) rfl)
          have e6 : a'.tmps.getD 135 undef = .bool (decide (bits .and .u16 (A / 16) 1 = 1)) := (hl 135).trans (lookS_at (i := 6) rfl (he ⟨6, .data⟩ (by simp) rfl) rfl)
          have e8 : a'.tmps.getD 137 undef = .bool (decide (7 < (n : Int))) := (hl 137).trans (lookS_at (i := 8) rfl (he ⟨8, .data⟩ (by simp) rfl) rfl)
          exact .inl ⟨(wantedS_of rfl _ rfl rfl (by rw [hz]; decide) g2), wp_val (.bool false) (by simp only [execOp, Act.eval, List.map_toArray, List.map_cons, List.map_nil]; rw [e6, e8]; have h := HAX.out; generalize decide (bits .and .u16 (A / 16) 1 = 1) = p at *; generalize decide (7 < (n : Int)) = q at *; cases p <;> cases q <;> first | (exfalso; cases h; done) | rfl | go_simp) ⟨(), fun _ => rfl, ⟨_, rfl, rfl⟩, hW⟩⟩
        case p10 =>
          intro D b a' w' hk he hsz hl hW
          have hz : a'.tmps.size = 166 := hsz.trans rfl
          have e2 : a'.tmps.getD 131 undef = .bool true := (hl 131).trans (lookS_at (i := 2) rfl (he ⟨2, .data⟩ (by simp) rfl) rfl)
          have e9 : a'.tmps.getD 138 undef = .bool false := (hl 138).trans (lookS_at (i := 9) rfl (he ⟨9, .data⟩ (by simp) rfl) rfl)
          exact .inl ⟨(by rfl), wp_val (.bool false) (by simp only [execOp, Act.eval, List.map_toArray, List.map_cons, List.map_nil]; rw [e2, e9]; kernel_rfl) ⟨(), fun _ => rfl, ⟨_, rfl, rfl⟩, hW⟩⟩
        case p11 =>
          intro D b a' w' hk he hsz hl hW
          have hz : a'.tmps.size = 166 := hsz.trans rfl
          have e10 : a'.tmps.getD 139 undef = .bool false := (hl 139).trans (lookS_at (i := 10) rfl (he ⟨10, .data⟩ (by simp) rfl) rfl)
          exact .inl ⟨(by rfl), wp_val (.bool false) (by simp only [execOp, Act.eval, List.map_toArray, List.map_cons, List.map_nil]; rw [e10]; kernel_rfl) ⟨(), fun _ => rfl, ⟨_, rfl, rfl⟩, hW⟩⟩
        case p12 =>
          intro D b a' w' hk he hsz hl hW
          have hz : a'.tmps.size = 166 := hsz.trans rfl
          have g11 : a'.tmps.getD 140 undef = .bool false := (hl 140).trans (lookS_at (i := 11) rfl (he ⟨11, .guard⟩ (by simp) rfl) rfl)
          have f3 : a'.tmps.getD 3 undef = .pointer (some ⟨Rq, 0, none⟩) := (hl 3).trans ((lookS_absent _ 0 (by simp)).trans rfl)
          exact .inl ⟨(wantedS_of rfl _ rfl rfl (by rw [hz]; decide) g11), wp_val (.pointer (some ⟨Rq, 2, none⟩)) (by simp only [execOp, Act.eval, List.map_toArray, List.map_cons, List.map_nil]; rw [f3]; kernel_rfl) ⟨(), fun _ => rfl, ⟨_, rfl, rfl⟩, hW⟩⟩
        case p13 =>
          intro D b a' w' hk he hsz hl hW
          have hz : a'.tmps.size = 166 := hsz.trans rfl
          have g11 : a'.tmps.getD 140 undef = .bool false := (hl 140).trans (lookS_at (i := 11) rfl (he ⟨11, .guard⟩ (by simp) rfl) rfl)
          have e12 : a'.tmps.getD 141 undef = .pointer (some ⟨Rq, 2, none⟩) := (hl 141).trans (lookS_at (i := 12) rfl (he ⟨12, .data⟩ (by simp) rfl) rfl)
          exact .inl ⟨(wantedS_of rfl _ rfl rfl (by rw [hz]; decide) g11), wp_sload1 _ _ rfl Rq 2 e12 1 hW _ (.bool true) rfl rfl (by decide +kernel) ⟨(), fun _ => rfl, ⟨_, rfl, rfl⟩, hW⟩⟩
        case p14 =>
          intro D b a' w' hk he hsz hl hW
          have hz : a'.tmps.size = 166 := hsz.trans rfl
          have g11 : a'.tmps.getD 140 undef = .bool false := (hl 140).trans (lookS_at (i := 11) rfl (he ⟨11, .guard⟩ (by simp) rfl) rfl)
          have e13 : a'.tmps.getD 142 undef = .bool true := (hl 142).trans (lookS_at (i := 13) rfl (he ⟨13, .data⟩ (by simp) rfl) rfl)
          exact .inl ⟨(wantedS_of rfl _ rfl rfl (by rw [hz]; decide) g11), wp_val (.bool false) (by simp only [execOp, Act.eval, List.map_toArray, List.map_cons, List.map_nil]; rw [e13]; kernel_rfl) ⟨(), fun _ => rfl, ⟨_, rfl, rfl⟩, hW⟩⟩
        case p15 =>
          intro D b a' w' hk he hsz hl hW
          have hz : a'.tmps.size = 166 := hsz.trans rfl
          have g11 : a'.tmps.getD 140 undef = .bool false := (hl 140).trans (lookS_at (i := 11) rfl (he ⟨11, .guard⟩ (by simp) rfl) rfl)
          have e14 : a'.tmps.getD 143 undef = .bool false := (hl 143).trans (lookS_at (i := 14) rfl (he ⟨14, .data⟩ (by simp) rfl) rfl)
          exact .inl ⟨(wantedS_of rfl _ rfl rfl (by rw [hz]; decide) g11), wp_val (.bool false) (by simp only [execOp, Act.eval, List.map_toArray, List.map_cons, List.map_nil]; rw [e14]; kernel_rfl) ⟨(), fun _ => rfl, ⟨_, rfl, rfl⟩, hW⟩⟩
        case p16 =>
          intro D b a' w' hk he hsz hl hW
          have hz : a'.tmps.size = 166 := hsz.trans rfl
          have g15 : a'.tmps.getD 144 undef = .bool false := (hl 144).trans (lookS_at (i := 15) rfl (he ⟨15, .guard⟩ (by simp) rfl) rfl)
          exact .inr ⟨(wantedF_of rfl _ rfl rfl (by rw [hz]; decide) g15 rfl), rfl, hW⟩
        case p17 =>
          intro D b a' w' hk he hsz hl hW
          have hz : a'.tmps.size = 166 := hsz.trans rfl
          have g15 : a'.tmps.getD 144 undef = .bool false := (hl 144).trans (lookS_at (i := 15) rfl (he ⟨15, .guard⟩ (by simp) rfl) rfl)
          exact .inr ⟨(wantedF_of rfl _ rfl rfl (by rw [hz]; decide) g15 rfl), rfl, hW⟩
        case p18 =>
          intro D b a' w' hk he hsz hl hW
          have hz : a'.tmps.size = 166 := hsz.trans rfl
          have g15 : a'.tmps.getD 144 undef = .bool false := (hl 144).trans (lookS_at (i := 15) rfl (he ⟨15, .guard⟩ (by simp) rfl) rfl)
          exact .inr ⟨(wantedF_of rfl _ rfl rfl (by rw [hz]; decide) g15 rfl), rfl, hW⟩
        case p19 =>
          intro D b a' w' hk he hsz hl hW
          have hz : a'.tmps.size = 166 := hsz.trans rfl
          have g15 : a'.tmps.getD 144 undef = .bool false := (hl 144).trans (lookS_at (i := 15) rfl (he ⟨15, .guard⟩ (by simp) rfl) rfl)
          exact .inr ⟨(wantedF_of rfl _ rfl rfl (by rw [hz]; decide) g15 rfl), rfl, hW⟩
        case p20 =>
          intro D b a' w' hk he hsz hl hW
          have hz : a'.tmps.size = 166 := hsz.trans rfl
          have g15 : a'.tmps.getD 144 undef = .bool false := (hl 144).trans (lookS_at (i := 15) rfl (he ⟨15, .guard⟩ (by simp) rfl) rfl)
          exact .inr ⟨(wantedF_of rfl _ rfl rfl (by rw [hz]; decide) g15 rfl), rfl, hW⟩
        case p21 =>
          intro D b a' w' hk he hsz hl hW
          have hz : a'.tmps.size = 166 := hsz.trans rfl
          have g15 : a'.tmps.getD 144 undef = .bool false := (hl 144).trans (lookS_at (i := 15) rfl (he ⟨15, .guard⟩ (by simp) rfl) rfl)
          exact .inr ⟨(wantedF_of rfl _ rfl rfl (by rw [hz]; decide) g15 rfl), rfl, hW⟩
        case p22 =>
          intro D b a' w' hk he hsz hl hW
          have hz : a'.tmps.size = 166 := hsz.trans rfl
          have g15 : a'.tmps.getD 144 undef = .bool false := (hl 144).trans (lookS_at (i := 15) rfl (he ⟨15, .guard⟩ (by simp) rfl) rfl)
          exact .inr ⟨(wantedF_of rfl _ rfl rfl (by rw [hz]; decide) g15 rfl), rfl, hW⟩
        case p23 =>
          intro D b a' w' hk he hsz hl hW
          have hz : a'.tmps.size = 166 := hsz.trans rfl
          have g15 : a'.tmps.getD 144 undef = .bool false := (hl 144).trans (lookS_at (i := 15) rfl (he ⟨15, .guard⟩ (by simp) rfl) rfl)
          exact .inr ⟨(wantedF_of rfl _ rfl rfl (by rw [hz]; decide) g15 rfl), rfl, hW⟩
        case p24 =>
          intro D b a' w' hk he hsz hl hW
          have hz : a'.tmps.size = 166 := hsz.trans rfl
          have g15 : a'.tmps.getD 144 undef = .bool false := (hl 144).trans (lookS_at (i := 15) rfl (he ⟨15, .guard⟩ (by simp) rfl) rfl)
          exact .inr ⟨(wantedF_of rfl _ rfl rfl (by rw [hz]; decide) g15 rfl), rfl, hW⟩
        case p25 =>
          intro D b a' w' hk he hsz hl hW
          have hz : a'.tmps.size = 166 := hsz.trans rfl
          have g15 : a'.tmps.getD 144 undef = .bool false := (hl 144).trans (lookS_at (i := 15) rfl (he ⟨15, .guard⟩ (by simp) rfl) rfl)
          exact .inr ⟨(wantedF_of rfl _ rfl rfl (by rw [hz]; decide) g15 rfl), rfl, hW⟩
        case p26 =>
          intro D b a' w' hk he hsz hl hW
          have hz : a'.tmps.size = 166 := hsz.trans rfl
          have g15 : a'.tmps.getD 144 undef = .bool false := (hl 144).trans (lookS_at (i := 15) rfl (he ⟨15, .guard⟩ (by simp) rfl) rfl)
          exact .inr ⟨(wantedF_of rfl _ rfl rfl (by rw [hz]; decide) g15 rfl), rfl, hW⟩
        case p27 =>
          intro D b a' w' hk he hsz hl hW
          have hz : a'.tmps.size = 166 := hsz.trans rfl
          have g15 : a'.tmps.getD 144 undef = .bool false := (hl 144).trans (lookS_at (i := 15) rfl (he ⟨15, .guard⟩ (by simp) rfl) rfl)
          exact .inr ⟨(wantedF_of rfl _ rfl rfl (by rw [hz]; decide) g15 rfl), rfl, hW⟩
        case p28 =>
          intro D b a' w' hk he hsz hl hW
          have hz : a'.tmps.size = 166 := hsz.trans rfl
          have g15 : a'.tmps.getD 144 undef = .bool false := (hl 144).trans (lookS_at (i := 15) rfl (he ⟨15, .guard⟩ (by simp) rfl) rfl)
          exact .inr ⟨(wantedF_of rfl _ rfl rfl (by rw [hz]; decide) g15 rfl), rfl, hW⟩
        case p29 =>
          intro D b a' w' hk he hsz hl hW
          have hz : a'.tmps.size = 166 := hsz.trans rfl
          have g15 : a'.tmps.getD 144 undef = .bool false := (hl 144).trans (lookS_at (i := 15) rfl (he ⟨15, .guard⟩ (by simp) rfl) rfl)
          exact .inr ⟨(wantedF_of rfl _ rfl rfl (by rw [hz]; decide) g15 rfl), rfl, hW⟩
        case p30 =>
          intro D b a' w' hk he hsz hl hW
          have hz : a'.tmps.size = 166 := hsz.trans rfl
          have g15 : a'.tmps.getD 144 undef = .bool false := (hl 144).trans (lookS_at (i := 15) rfl (he ⟨15, .guard⟩ (by simp) rfl) rfl)
          exact .inr ⟨(wantedF_of rfl _ rfl rfl (by rw [hz]; decide) g15 rfl), rfl, hW⟩
        case p31 =>
          intro D b a' w' hk he hsz hl hW
          have hz : a'.tmps.size = 166 := hsz.trans rfl
          have g15 : a'.tmps.getD 144 undef = .bool false := (hl 144).trans (lookS_at (i := 15) rfl (he ⟨15, .guard⟩ (by simp) rfl) rfl)
          exact .inr ⟨(wantedF_of rfl _ rfl rfl (by rw [hz]; decide) g15 rfl), rfl, hW⟩
        case p32 =>
          intro D b a' w' hk he hsz hl hW
          have hz : a'.tmps.size = 166 := hsz.trans rfl
          have g15 : a'.tmps.getD 144 undef = .bool false := (hl 144).trans (lookS_at (i := 15) rfl (he ⟨15, .guard⟩ (by simp) rfl) rfl)
          exact .inr ⟨(wantedF_of rfl _ rfl rfl (by rw [hz]; decide) g15 rfl), rfl, hW⟩
        case p33 =>
          intro D b a' w' hk he hsz hl hW
          have hz : a'.tmps.size = 166 := hsz.trans rfl
          have g15 : a'.tmps.getD 144 undef = .bool false := (hl 144).trans (lookS_at (i := 15) rfl (he ⟨15, .guard⟩ (by simp) rfl) rfl)
          exact .inr ⟨(wantedF_of rfl _ rfl rfl (by rw [hz]; decide) g15 rfl), rfl, hW⟩
        case p34 =>
          intro D b a' w' hk he hsz hl hW
          have hz : a'.tmps.size = 166 := hsz.trans rfl
          have g15 : a'.tmps.getD 144 undef = .bool false := (hl 144).trans (lookS_at (i := 15) rfl (he ⟨15, .guard⟩ (by simp) rfl) rfl)
          exact .inr ⟨(wantedF_of rfl _ rfl rfl (by rw [hz]; decide) g15 rfl), rfl, hW⟩
        case p35 =>
          intro D b a' w' hk he hsz hl hW
          have hz : a'.tmps.size = 166 := hsz.trans rfl
          have g11 : a'.tmps.getD 140 undef = .bool false := (hl 140).trans (lookS_at (i := 11) rfl (he ⟨11, .guard⟩ (by simp) rfl) rfl)
          have e15 : a'.tmps.getD 144 undef = .bool false := (hl 144).trans (lookS_at (i := 15) rfl (he ⟨15, .data⟩ (by simp) rfl) rfl)
          have e34 : a'.tmps.getD 162 undef = undef := (hl 162).trans (lookS_at (i := 34) rfl (he ⟨34, .data⟩ (by simp) rfl) rfl)
          exact .inl ⟨(wantedS_of rfl _ rfl rfl (by rw [hz]; decide) g11), wp_val (.bool false) (by simp only [execOp, Act.eval, List.map_toArray, List.map_cons, List.map_nil]; rw [e15, e34]; kernel_rfl) ⟨(), fun _ => rfl, ⟨_, rfl, rfl⟩, hW⟩⟩
        case p36 =>
          intro D b a' w' hk he hsz hl hW
          have hz : a'.tmps.size = 166 := hsz.trans rfl
          have e11 : a'.tmps.getD 140 undef = .bool false := (hl 140).trans (lookS_at (i := 11) rfl (he ⟨11, .data⟩ (by simp) rfl) rfl)
          have e35 : a'.tmps.getD 163 undef = .bool false := (hl 163).trans (lookS_at (i := 35) rfl (he ⟨35, .data⟩ (by simp) rfl) rfl)
          exact .inl ⟨(by rfl), wp_val (.bool false) (by simp only [execOp, Act.eval, List.map_toArray, List.map_cons, List.map_nil]; rw [e11, e35]; kernel_rfl) ⟨(), fun _ => rfl, ⟨_, rfl, rfl⟩, hW⟩⟩
        intro D b w' hD hW
        clear H
        have H := hW
        clear hW hD
        simp only [putAll, List.foldl_cons, List.foldl_nil, Act.put, List.setIfInBounds_toArray, List.set_cons_succ, List.set_cons_zero]
        go_wp2
        go_roundw
        case rel => exact ⟨n + 1, K2, cs2, by omega, by go_num, HAND.out, by have h := HG.out; rw [← H4.out, HLAB.out] at h; exact h, H⟩
        case measure => simp [intOf]; omega
      · obtain rfl : n = 16 := by omega
        go_wp2_with (first | (go_at_call 16; (with_reducible refine (QW.out _).mono ?_); rintro e w2 ⟨rfl, hB⟩; replace H := H.next hB; clear hB) | fail)
        go_ret
        exact ⟨rfl, H.toBelow⟩
  · skip
    go_enter Try.func6, Try.ntmps6
    go_wp2_with (first | (clear M1; refine wpList_mboxA rfl _ _ rfl H (saC ⟨(i : Int), ql, true, qb, lo, ls, hi, hs, qx⟩) rfl ?_; clear H; intro Rq w1 _ H) | (go_at_call 8; have o0 := own_none w1; have b0 : Below w1.heap.size w1 (w1.alloc (.cells #[] 24)) := (Below.refl _ _).alloc (Nat.le_refl _) _; (refine (QF.out _ ((HR.out.below H.toBelow).below b0)).mono ?_); rintro e w2 ⟨rfl, hB⟩; have o1 := o0.below hB; have b1 := b0.next hB; clear o0 b0 hB) | (at_builtin; obtain ⟨g, capg, wq, r1, o2, _, b2⟩ := app_bytes w2 w1.heap.size w1.heap.size 0 [] l2 v2 22 o1 ((HR2.out.below H.toBelow).below b1).src (by rw [List.length_nil]; omega) b1.size; rw [List.nil_append] at r1 o2; refine step_app (by rfl) _ _ _ _ rfl _ _ rfl rfl _ _ r1 ?_; obtain ⟨cs0, hb0, hO, hG⟩ := rowS_own o2; replace H := Mem.add H (b1.trans b2) hb0 hO; have HG := Lib.hid hG; (try rw [hn]); clear r1 o1 o2 b1 b2 hb0 hO hG) | (refine gate_load _ _ rfl ?_; refine wpList_mload1 rfl 3 _ rfl _ _ rfl 0 H _ (.int .i64 _) rfl rfl (by decide +kernel) ?_) | (refine gate_load _ _ rfl ?_; refine wpList_mload1 rfl 3 _ rfl _ _ rfl 1 H _ (.int .i64 _) rfl rfl (by decide +kernel) ?_) | (go_at_call 12; (with_reducible refine (Q5.out _ _ _).mono ?_); rintro e w2 ⟨rfl, hB⟩; replace H := H.next hB; clear hB) | (clear M2; refine gate_load _ _ rfl ?_; refine wpList_mload1 rfl 5 _ rfl _ ((4 * i) * 2) rfl 0 H _ (.int .u8 _) rfl ((rowS_get HG.out (4 * i) (by have := HL2.out; omega)).1.trans (by rw [HY.out])) (by decide +kernel) ?_) | (refine gate_load _ _ rfl ?_; refine wpList_mload1 rfl 4 _ rfl _ _ rfl 1 H _ (.bool _) rfl rfl (by decide +kernel) ?_) | (go_at_call 16; (with_reducible refine (QW.out _).mono ?_); rintro e w2 ⟨rfl, hB⟩; replace H := H.next hB; clear hB) | fail)
    go_ret
    exact ⟨rfl, H.toBelow⟩
set_option maxHeartbeats 8000000 in
theorem rows_short (sv : Value) (l : List (Int × Bool)) (i : Nat) (ql : Int) (qb : Bool) (lo : BitVec 8) (ls : Bool) (hi : BitVec 8) (hs : Bool) (qx : Int) (w : World) (hr : Rd w sv l) (hb : bytS l) (hi64 : i < 64) (l0 : 0 ≤ ql) (l1 : ql < 256) (hn : (l.take 257).length = 256) : Calls Try.prog 6 #[sv, .agg (saC ⟨(i : Int), ql, false, qb, lo, ls, hi, hs, qx⟩)] w fun e w' => e = .returned (.bool true) ∧ Below w.heap.size w w' := by
  have QW := Lib.hid (fun wr => awake15_ct wr)
  have QF := fun wr h => few15_cut sv l wr h
  have HR := Lib.hid hr
  have hr2 := hr.cut15
  have hb2 := bytS_take hb 257
  have hl57 : (l.take 257).length ≤ 257 := List.length_take_le _ _
  generalize l.take 257 = l2 at *
  generalize cutV sv = v2 at *
  have H := Mem.start w
  have M1 : True := trivial
  have QF := Lib.hid QF
  have HR2 := Lib.hid hr2
  clear hr hb hr2
  have hm : mayS 256 (i : Int) ql = true := (mayS_iff _ _ _).2 ⟨rfl, ⟨by omega, by omega⟩, ⟨l0, l1⟩⟩
  have Q5 := Lib.hid (fun (g cap : Nat) wr => rmay15_yes (some ⟨g, 0, none⟩) 256 cap (i : Int) ql hm wr)
  obtain ⟨k, hk⟩ := w8_ex (hb2 (4 * i + 2) (by omega)).1 (hb2 (4 * i + 2) (by omega)).2
  have hBy := hb2 (4 * i) (by omega)
  have hBt := hb2 (4 * i + 1) (by omega)
  obtain ⟨lab, hlab⟩ : ∃ b, (nth l2 (4 * i + 2)).2 = b := ⟨_, rfl⟩
  obtain ⟨K1, hK1⟩ : ∃ b, k &&& 127#8 = b := ⟨_, rfl⟩
  obtain ⟨K2, hK2⟩ : ∃ b, K1 ||| 128#8 = b := ⟨_, rfl⟩
  have hkk := k127 k
  rw [hK1, hK2] at hkk
  obtain ⟨-, hor, hlo, hhi, hand⟩ := hkk
  obtain ⟨l3, h3⟩ : ∃ l3, l2.set (4 * i + 2) (w8 K1, (nth l2 (4 * i + 2)).2) = l3 := ⟨_, rfl⟩
  obtain ⟨l4, h4⟩ : ∃ l4, l2.set (4 * i + 2) (w8 K2, (nth l2 (4 * i + 2)).2) = l4 := ⟨_, rfl⟩
  have n3 : l3.length = 256 := by rw [← h3, List.length_set, hn]
  have n4 : l4.length = 256 := by rw [← h4, List.length_set, hn]
  have k3 : nth l3 (4 * i + 2) = (w8 K1, lab) := by rw [← h3, nthS_set (by omega), if_pos rfl, hlab]
  have h34 : l3.set (4 * i + 2) (w8 K2, (nth l3 (4 * i + 2)).2) = l4 := by rw [k3, ← h3, List.set_set, ← h4, hlab]
  have U1 := fun hy => rows_call false qb i hi64 l2 l3 K1 h3 hn hb2 hy
  have U2 := fun hy => rows_call false qb i hi64 l2 l4 K2 h4 hn hb2 hy
  obtain ⟨y, hy⟩ : ∃ y, (nth l2 (4 * i)).1 = y := ⟨_, rfl⟩
  obtain ⟨t, ht⟩ : ∃ t, (nth l2 (4 * i + 1)).1 = t := ⟨_, rfl⟩
  rw [hy, ht] at U1 U2
  rw [hy] at hBy
  rw [ht] at hBt
  obtain ⟨sx, hsx⟩ : ∃ s, secA l2 i = s := ⟨_, rfl⟩
  rw [hsx] at U1 U2
  have HY := Lib.hid hy
  have HT := Lib.hid ht
  have HK := Lib.hid hk
  have HK3 := Lib.hid k3
  have H3 := Lib.hid h3
  have H4 := Lib.hid h4
  have H34 := Lib.hid h34
  have HN := Lib.hid hn
  have HN3 := Lib.hid n3
  have HN4 := Lib.hid n4
  have HLAB := Lib.hid hlab
  have HOR := Lib.hid hor
  have HAND := Lib.hid hand
  have HK1 := Lib.hid hK1
  have HLO := Lib.hid hlo
  have HHI := Lib.hid hhi
  have hl2 : 4 * i + 2 < l2.length := by omega
  have HL2 := Lib.hid hl2
  have HT4 := Lib.hid (show (nth l4 (4 * i + 1)).1 = t by rw [← h4, nthS_set (by omega), if_neg (by omega)]; exact ht)
  clear hy ht hk k3 h3 h4 h34 n3 n4 hlab hor hand hK1 hlo hhi hK2 hm hb2 hl2 hsx
  have M2 : True := trivial
  by_cases hyh : y + 8 ≤ 256
  · skip
    go_enter Try.func6, Try.ntmps6
    go_wp2_with (first | (clear M1; refine wpList_mboxA rfl _ _ rfl H (saC ⟨(i : Int), ql, false, qb, lo, ls, hi, hs, qx⟩) rfl ?_; clear H; intro Rq w1 _ H) | (go_at_call 8; have o0 := own_none w1; have b0 : Below w1.heap.size w1 (w1.alloc (.cells #[] 24)) := (Below.refl _ _).alloc (Nat.le_refl _) _; (refine (QF.out _ ((HR.out.below H.toBelow).below b0)).mono ?_); rintro e w2 ⟨rfl, hB⟩; have o1 := o0.below hB; have b1 := b0.next hB; clear o0 b0 hB) | (at_builtin; obtain ⟨g, capg, wq, r1, o2, _, b2⟩ := app_bytes w2 w1.heap.size w1.heap.size 0 [] l2 v2 22 o1 ((HR2.out.below H.toBelow).below b1).src (by rw [List.length_nil]; omega) b1.size; rw [List.nil_append] at r1 o2; refine step_app (by rfl) _ _ _ _ rfl _ _ rfl rfl _ _ r1 ?_; obtain ⟨cs0, hb0, hO, hG⟩ := rowS_own o2; replace H := Mem.add H (b1.trans b2) hb0 hO; have HG := Lib.hid hG; (try rw [hn]); clear r1 o1 o2 b1 b2 hb0 hO hG) | (refine gate_load _ _ rfl ?_; refine wpList_mload1 rfl 3 _ rfl _ _ rfl 0 H _ (.int .i64 _) rfl rfl (by decide +kernel) ?_) | (refine gate_load _ _ rfl ?_; refine wpList_mload1 rfl 3 _ rfl _ _ rfl 1 H _ (.int .i64 _) rfl rfl (by decide +kernel) ?_) | (go_at_call 12; (with_reducible refine (Q5.out _ _ _).mono ?_); rintro e w2 ⟨rfl, hB⟩; replace H := H.next hB; clear hB) | (clear M2; refine gate_load _ _ rfl ?_; refine wpList_mload1 rfl 5 _ rfl _ ((4 * i) * 2) rfl 0 H _ (.int .u8 _) rfl ((rowS_get HG.out (4 * i) (by have := HL2.out; omega)).1.trans (by rw [HY.out])) (by decide +kernel) ?_) | (refine gate_load _ _ rfl ?_; refine wpList_mload1 rfl 4 _ rfl _ _ rfl 1 H _ (.bool _) rfl rfl (by decide +kernel) ?_) | fail)
    have V1 := Lib.hid (U1 hyh)
    have V2 := Lib.hid (U2 hyh)
    clear U1 U2
    go_loopw [7, 8, 9, 10, 11, 12, 13] (fun ii _ _ _ _ _ _ wr => ∃ (n : Nat) (kk : BitVec 8) (cs : Array Value), n ≤ 8 ∧ ii = .int .i64 n ∧ kk &&& 127#8 = K1 ∧ RowG bcs 2 cs capg (l2.set (4 * i + 2) (w8 kk, lab)) ∧ Mem w.heap.size [] w wr [(g, cs), (Rq, (saC ⟨(i : Int), ql, false, qb, lo, ls, hi, hs, qx⟩))]) (fun ii _ _ _ _ _ _ _ => 8 - (intOf ii).toNat)
    case atStart =>
      refine ⟨0, k, cs0, by omega, rfl, HK1.out, ?_, H⟩
      have e : l2.set (4 * i + 2) (w8 k, lab) = l2 := by
        have hx : (w8 k, lab) = nth l2 (4 * i + 2) := Prod.ext HK.out.symm HLAB.out.symm
        rw [hx]
        exact set_self HL2.out
      rw [e]
      exact HG.out
    case round =>
      clear H HG
      obtain ⟨n, kk, cs, hn8, rfl, hkk, hG, H⟩ := hrel
      have hlk : ∃ lk, l2.set (4 * i + 2) (w8 kk, lab) = lk := ⟨_, rfl⟩
      obtain ⟨lk, hlk⟩ := hlk
      have nlk : lk.length = 256 := by rw [← hlk, List.length_set]; exact HN.out
      have klk : nth lk (4 * i + 2) = (w8 kk, lab) := by rw [← hlk, nthS_set (by have := HL2.out; omega), if_pos rfl]
      have hlk3 : lk.set (4 * i + 2) (w8 K1, (nth lk (4 * i + 2)).2) = l3 := by rw [klk, ← hlk, List.set_set, ← H3.out, HLAB.out]
      rw [hlk] at hG
      have HG := Lib.hid hG
      have KLK := Lib.hid klk
      have HLK3 := Lib.hid hlk3
      have HA1 := Lib.hid ((k127 kk).1.trans (by rw [hkk]))
      have hlklt : 4 * i + 2 < lk.length := by omega
      have HLL := Lib.hid hlklt
      have HL3 := Lib.hid (show 4 * i + 2 < l3.length by have := HN3.out; omega)
      clear hG klk hlk hlk3 hlklt nlk hkk
      by_cases hlt : n < 8
      · have r1 : (n : Int) < highS false := by simp only [highS, cond_true, cond_false]; omega
        have hA7 := adrR_7 t n false qb hBt.1 hBt.2 (by omega) r1
        have hAb := adrR_lt t n false qb hBt.1 hBt.2 (by omega) r1
        have hAx := adrR_short t n qb hBt.1 hBt.2 (by omega) (by omega)
        have a1 := adrR_low y t (w8 K1) n false qb HLO.out (by omega) r1
        have a2 := adrR_high y t (w8 K2) n false qb HHI.out (by omega) r1
        generalize adrR t n false qb = A at *
        have QA := Lib.hid (V1.out (y + n) (by omega) (by omega) A a1)
        have QB := Lib.hid (V2.out (y + 8 - 1 - n) (by omega) (by omega) A a2)
        have HAX := Lib.hid hAx
        clear a1 a2 V1 V2 hAx
        have MA : True := trivial
        have MB : True := trivial
        have MC : True := trivial
        have MD : True := trivial
        have ME : True := trivial
        have MF : True := trivial
        go_wp2_with (first | (clear MA; refine gate_load _ _ rfl ?_; refine wpList_mload1 rfl 5 _ rfl _ ((4 * i + 2) * 2) rfl 0 H _ (.int .u8 _) rfl ((rowS_get HG.out (4 * i + 2) HLL.out).1.trans (by rw [KLK.out])) (by decide +kernel) ?_) | (clear MB; refine gate_store _ _ _ rfl ?_; refine wpList_rst rfl 5 _ _ rfl rfl _ (4 * i + 2) rfl 0 H rfl HG.out HLL.out _ rfl (by kernel_rfl) ?_; clear H HG; intro w1 cs2 hg H; simp only [List.set_cons_zero, List.set_cons_succ] at H; rw [HA1.out, HLK3.out] at hg; have HG := Lib.hid hg; clear hg) | (clear MC; go_at_call 10; (refine (QA.out _ _ _ (ls_rowG (i := 0) H rfl HG.out) (by have := HG.out.le; have := HN3.out; have := HN4.out; omega) HG.out.max).mono ?_); rintro e w2 ⟨rfl, hB⟩; replace H := H.next hB; clear hB) | (clear MD; refine gate_load _ _ rfl ?_; refine wpList_mload1 rfl 5 _ rfl _ ((4 * i + 2) * 2) rfl 0 H _ (.int .u8 _) rfl ((rowS_get HG.out (4 * i + 2) HL3.out).1.trans (by rw [HK3.out])) (by decide +kernel) ?_) | (clear ME; refine gate_store _ _ _ rfl ?_; refine wpList_rst rfl 5 _ _ rfl rfl _ (4 * i + 2) rfl 0 H rfl HG.out HL3.out _ rfl (by kernel_rfl) ?_; clear H HG; intro w1 cs2 hg H; simp only [List.set_cons_zero, List.set_cons_succ] at H; rw [HOR.out, H34.out] at hg; have HG := Lib.hid hg; clear hg) | (clear MF; go_at_call 10; (refine (QB.out _ _ _ (ls_rowG (i := 0) H rfl HG.out) (by have := HG.out.le; have := HN3.out; have := HN4.out; omega) HG.out.max).mono ?_); rintro e w2 ⟨rfl, hB⟩; replace H := H.next hB; clear hB) | (refine gate_load _ _ rfl ?_; refine wpList_mload1 rfl 3 _ rfl _ _ rfl 1 H _ (.int .i64 _) rfl rfl (by decide +kernel) ?_) | (refine gate_load _ _ rfl ?_; refine wpList_mload1 rfl 4 _ rfl _ _ rfl 1 H _ (.bool _) rfl rfl (by decide +kernel) ?_) | fail)
        obtain ⟨s0, hs1⟩ : ∃ s, w2.heap.size = s := ⟨_, rfl⟩
        have hs0 : w.heap.size ≤ s0 := by rw [← hs1]; exact H.size
        (try simp only [Act.put, List.setIfInBounds_toArray, List.set_cons_succ, List.set_cons_zero])
        refine wp_region_settledZ () (by kernel_rfl) (by kernel_rfl) (fun _ : Unit => [(some 129, .pointer (some ⟨Rq, 2, none⟩)), (some 130, .bool false), (some 131, .bool false), (some 132, undef), (some 133, undef), (some 134, undef), (some 135, undef), (some 136, undef), (some 137, undef), (some 138, undef), (some 139, .bool false), (some 140, .bool false), (some 141, .pointer (some ⟨Rq, 2, none⟩)), (some 142, .bool false), (some 143, .bool true), (some 144, .bool true), (some 145, .int .u16 A), (some 146, .int .u16 (A / 16)), (some 147, .slice (some ⟨g, 0, none⟩) 256 capg), (some 148, .pointer (some ⟨Rq, 0, none⟩)), (some 149, .int .i64 (i : Int)), (some 150, .int .i64 ((4 * i : Nat) : Int)), (some 151, .int .i64 ((4 * i + 1 : Nat) : Int)), (some 152, .pointer (some ⟨g, (4 * i + 1) * 2, none⟩)), (some 153, .pointer (some ⟨g, (4 * i + 1) * 2, none⟩)), (some 154, .int .u8 t), (some 155, .int .u16 t), (some 156, .map (some s0)), (none, undef), (some 157, .map (some s0)), (some 158, .pointer (some ⟨Rq, 3, none⟩)), (some 159, .bool qb), (some 160, .int .u16 (if qb = true then (256 : Int) else 0)), (some 161, .int .u16 (bits .or .u16 t (if qb = true then (256 : Int) else 0))), (some 162, .bool false), (some 163, .bool false), (some 164, .bool false)]) (fun D _ w' => MW0 w.heap.size [] w [(g, cs2), (Rq, (saC ⟨(i : Int), ql, false, qb, lo, ls, hi, hs, qx⟩))] s0 (D 27) (D 28) (D 29) w') 166 (by rfl) (fun _ => by rfl) (fun _ => by rfl) (fun _ => by rfl) ⟨H.drew, fun h => (by cases h), fun h => (by cases h), fun _ => hs1, fun h => (by cases h)⟩ ⟨?p0, ?p1, ?p2, ?p3, ?p4, ?p5, ?p6, ?p7, ?p8, ?p9, ?p10, ?p11, ?p12, ?p13, ?p14, ?p15, ?p16, ?p17, ?p18, ?p19, ?p20, ?p21, ?p22, ?p23, ?p24, ?p25, ?p26, ?p27, ?p28, ?p29, ?p30, ?p31, ?p32, ?p33, ?p34, ?p35, ?p36, trivial⟩ ?_
        case p0 =>
          intro D b a' w' hk he hsz hl hW
          have hz : a'.tmps.size = 166 := hsz.trans rfl
          have f3 : a'.tmps.getD 3 undef = .pointer (some ⟨Rq, 0, none⟩) := (hl 3).trans ((lookS_absent _ 0 (by simp)).trans rfl)
          exact .inl ⟨(by rfl), wp_val (.pointer (some ⟨Rq, 2, none⟩)) (by simp only [execOp, Act.eval, List.map_toArray, List.map_cons, List.map_nil]; rw [f3]; kernel_rfl) ⟨(), fun _ => rfl, ⟨_, rfl, rfl⟩, hW.keep 0 rfl rfl rfl⟩⟩
        case p1 =>
          intro D b a' w' hk he hsz hl hW
          have hz : a'.tmps.size = 166 := hsz.trans rfl
          have e0 : a'.tmps.getD 129 undef = .pointer (some ⟨Rq, 2, none⟩) := (hl 129).trans (lookS_at (i := 0) rfl (he ⟨0, .data⟩ (by simp) rfl) rfl)
          exact .inl ⟨(by rfl), wp_sload1 _ _ rfl Rq 2 e0 1 hW.mem _ (.bool false) rfl rfl (by decide +kernel) ⟨(), fun _ => rfl, ⟨_, rfl, rfl⟩, hW.keep 1 rfl rfl rfl⟩⟩
        case p2 =>
          intro D b a' w' hk he hsz hl hW
          have hz : a'.tmps.size = 166 := hsz.trans rfl
          have e1 : a'.tmps.getD 130 undef = .bool false := (hl 130).trans (lookS_at (i := 1) rfl (he ⟨1, .data⟩ (by simp) rfl) rfl)
          exact .inl ⟨(by rfl), wp_val (.bool false) (by simp only [execOp, Act.eval, List.map_toArray, List.map_cons, List.map_nil]; rw [e1]; kernel_rfl) ⟨(), fun _ => rfl, ⟨_, rfl, rfl⟩, hW.keep 2 rfl rfl rfl⟩⟩
        case p3 =>
          intro D b a' w' hk he hsz hl hW
          have hz : a'.tmps.size = 166 := hsz.trans rfl
          have g2 : a'.tmps.getD 131 undef = .bool false := (hl 131).trans (lookS_at (i := 2) rfl (he ⟨2, .guard⟩ (by simp) rfl) rfl)
          exact .inr ⟨(wantedF_of rfl _ rfl rfl (by rw [hz]; decide) g2 rfl), rfl, hW.keep 3 rfl rfl rfl⟩
        case p4 =>
          intro D b a' w' hk he hsz hl hW
          have hz : a'.tmps.size = 166 := hsz.trans rfl
          have g2 : a'.tmps.getD 131 undef = .bool false := (hl 131).trans (lookS_at (i := 2) rfl (he ⟨2, .guard⟩ (by simp) rfl) rfl)
          exact .inr ⟨(wantedF_of rfl _ rfl rfl (by rw [hz]; decide) g2 rfl), rfl, hW.keep 4 rfl rfl rfl⟩
        case p5 =>
          intro D b a' w' hk he hsz hl hW
          have hz : a'.tmps.size = 166 := hsz.trans rfl
          have g2 : a'.tmps.getD 131 undef = .bool false := (hl 131).trans (lookS_at (i := 2) rfl (he ⟨2, .guard⟩ (by simp) rfl) rfl)
          exact .inr ⟨(wantedF_of rfl _ rfl rfl (by rw [hz]; decide) g2 rfl), rfl, hW.keep 5 rfl rfl rfl⟩
        case p6 =>
          intro D b a' w' hk he hsz hl hW
          have hz : a'.tmps.size = 166 := hsz.trans rfl
          have g2 : a'.tmps.getD 131 undef = .bool false := (hl 131).trans (lookS_at (i := 2) rfl (he ⟨2, .guard⟩ (by simp) rfl) rfl)
          exact .inr ⟨(wantedF_of rfl _ rfl rfl (by rw [hz]; decide) g2 rfl), rfl, hW.keep 6 rfl rfl rfl⟩
        case p7 =>
          intro D b a' w' hk he hsz hl hW
          have hz : a'.tmps.size = 166 := hsz.trans rfl
          have g2 : a'.tmps.getD 131 undef = .bool false := (hl 131).trans (lookS_at (i := 2) rfl (he ⟨2, .guard⟩ (by simp) rfl) rfl)
          exact .inr ⟨(wantedF_of rfl _ rfl rfl (by rw [hz]; decide) g2 rfl), rfl, hW.keep 7 rfl rfl rfl⟩
        case p8 =>
          intro D b a' w' hk he hsz hl hW
          have hz : a'.tmps.size = 166 := hsz.trans rfl
          have g2 : a'.tmps.getD 131 undef = .bool false := (hl 131).trans (lookS_at (i := 2) rfl (he ⟨2, .guard⟩ (by simp) rfl) rfl)
          exact .inr ⟨(wantedF_of rfl _ rfl rfl (by rw [hz]; decide) g2 rfl), rfl, hW.keep 8 rfl rfl rfl⟩
        case p9 =>
          intro D b a' w' hk he hsz hl hW
          have hz : a'.tmps.size = 166 := hsz.trans rfl
          have g2 : a'.tmps.getD 131 undef = .bool false := (hl 131).trans (lookS_at (i := 2) rfl (he ⟨2, .guard⟩ (by simp) rfl) rfl)
          exact .inr ⟨(wantedF_of rfl _ rfl rfl (by rw [hz]; decide) g2 rfl), rfl, hW.keep 9 rfl rfl rfl⟩
        case p10 =>
          intro D b a' w' hk he hsz hl hW
          have hz : a'.tmps.size = 166 := hsz.trans rfl
          have e2 : a'.tmps.getD 131 undef = .bool false := (hl 131).trans (lookS_at (i := 2) rfl (he ⟨2, .data⟩ (by simp) rfl) rfl)
          have e9 : a'.tmps.getD 138 undef = undef := (hl 138).trans (lookS_at (i := 9) rfl (he ⟨9, .data⟩ (by simp) rfl) rfl)
          exact .inl ⟨(by rfl), wp_val (.bool false) (by simp only [execOp, Act.eval, List.map_toArray, List.map_cons, List.map_nil]; rw [e2, e9]; kernel_rfl) ⟨(), fun _ => rfl, ⟨_, rfl, rfl⟩, hW.keep 10 rfl rfl rfl⟩⟩
        case p11 =>
          intro D b a' w' hk he hsz hl hW
          have hz : a'.tmps.size = 166 := hsz.trans rfl
          have e10 : a'.tmps.getD 139 undef = .bool false := (hl 139).trans (lookS_at (i := 10) rfl (he ⟨10, .data⟩ (by simp) rfl) rfl)
          exact .inl ⟨(by rfl), wp_val (.bool false) (by simp only [execOp, Act.eval, List.map_toArray, List.map_cons, List.map_nil]; rw [e10]; kernel_rfl) ⟨(), fun _ => rfl, ⟨_, rfl, rfl⟩, hW.keep 11 rfl rfl rfl⟩⟩
        case p12 =>
          intro D b a' w' hk he hsz hl hW
          have hz : a'.tmps.size = 166 := hsz.trans rfl
          have g11 : a'.tmps.getD 140 undef = .bool false := (hl 140).trans (lookS_at (i := 11) rfl (he ⟨11, .guard⟩ (by simp) rfl) rfl)
          have f3 : a'.tmps.getD 3 undef = .pointer (some ⟨Rq, 0, none⟩) := (hl 3).trans ((lookS_absent _ 0 (by simp)).trans rfl)
          exact .inl ⟨(wantedS_of rfl _ rfl rfl (by rw [hz]; decide) g11), wp_val (.pointer (some ⟨Rq, 2, none⟩)) (by simp only [execOp, Act.eval, List.map_toArray, List.map_cons, List.map_nil]; rw [f3]; kernel_rfl) ⟨(), fun _ => rfl, ⟨_, rfl, rfl⟩, hW.keep 12 rfl rfl rfl⟩⟩
        case p13 =>
          intro D b a' w' hk he hsz hl hW
          have hz : a'.tmps.size = 166 := hsz.trans rfl
          have g11 : a'.tmps.getD 140 undef = .bool false := (hl 140).trans (lookS_at (i := 11) rfl (he ⟨11, .guard⟩ (by simp) rfl) rfl)
          have e12 : a'.tmps.getD 141 undef = .pointer (some ⟨Rq, 2, none⟩) := (hl 141).trans (lookS_at (i := 12) rfl (he ⟨12, .data⟩ (by simp) rfl) rfl)
          exact .inl ⟨(wantedS_of rfl _ rfl rfl (by rw [hz]; decide) g11), wp_sload1 _ _ rfl Rq 2 e12 1 hW.mem _ (.bool false) rfl rfl (by decide +kernel) ⟨(), fun _ => rfl, ⟨_, rfl, rfl⟩, hW.keep 13 rfl rfl rfl⟩⟩
        case p14 =>
          intro D b a' w' hk he hsz hl hW
          have hz : a'.tmps.size = 166 := hsz.trans rfl
          have g11 : a'.tmps.getD 140 undef = .bool false := (hl 140).trans (lookS_at (i := 11) rfl (he ⟨11, .guard⟩ (by simp) rfl) rfl)
          have e13 : a'.tmps.getD 142 undef = .bool false := (hl 142).trans (lookS_at (i := 13) rfl (he ⟨13, .data⟩ (by simp) rfl) rfl)
          exact .inl ⟨(wantedS_of rfl _ rfl rfl (by rw [hz]; decide) g11), wp_val (.bool true) (by simp only [execOp, Act.eval, List.map_toArray, List.map_cons, List.map_nil]; rw [e13]; kernel_rfl) ⟨(), fun _ => rfl, ⟨_, rfl, rfl⟩, hW.keep 14 rfl rfl rfl⟩⟩
        case p15 =>
          intro D b a' w' hk he hsz hl hW
          have hz : a'.tmps.size = 166 := hsz.trans rfl
          have g11 : a'.tmps.getD 140 undef = .bool false := (hl 140).trans (lookS_at (i := 11) rfl (he ⟨11, .guard⟩ (by simp) rfl) rfl)
          have e14 : a'.tmps.getD 143 undef = .bool true := (hl 143).trans (lookS_at (i := 14) rfl (he ⟨14, .data⟩ (by simp) rfl) rfl)
          exact .inl ⟨(wantedS_of rfl _ rfl rfl (by rw [hz]; decide) g11), wp_val (.bool true) (by simp only [execOp, Act.eval, List.map_toArray, List.map_cons, List.map_nil]; rw [e14]; kernel_rfl) ⟨(), fun _ => rfl, ⟨_, rfl, rfl⟩, hW.keep 15 rfl rfl rfl⟩⟩
        case p16 =>
          intro D b a' w' hk he hsz hl hW
          have hz : a'.tmps.size = 166 := hsz.trans rfl
          have g15 : a'.tmps.getD 144 undef = .bool true := (hl 144).trans (lookS_at (i := 15) rfl (he ⟨15, .guard⟩ (by simp) rfl) rfl)
          have f8 : a'.tmps.getD 8 undef = .int .u16 A := (hl 8).trans ((lookS_absent _ 0 (by simp)).trans rfl)
          exact .inl ⟨(wantedS_of rfl _ rfl rfl (by rw [hz]; decide) g15), wp_val (.int .u16 A) (by simp only [execOp, Act.eval, List.map_toArray, List.map_cons, List.map_nil]; rw [f8]; kernel_rfl) ⟨(), fun _ => rfl, ⟨_, rfl, rfl⟩, hW.keep 16 rfl rfl rfl⟩⟩
        case p17 =>
          intro D b a' w' hk he hsz hl hW
          have hz : a'.tmps.size = 166 := hsz.trans rfl
          have g15 : a'.tmps.getD 144 undef = .bool true := (hl 144).trans (lookS_at (i := 15) rfl (he ⟨15, .guard⟩ (by simp) rfl) rfl)
          have e16 : a'.tmps.getD 145 undef = .int .u16 A := (hl 145).trans (lookS_at (i := 16) rfl (he ⟨16, .data⟩ (by simp) rfl) rfl)
          exact .inl ⟨(wantedS_of rfl _ rfl rfl (by rw [hz]; decide) g15), wp_val _ (ex_shrS (.tmp 145) _ _ rfl A e16 rfl) ⟨(), fun _ => rfl, ⟨_, rfl, rfl⟩, hW.keep 17 rfl rfl rfl⟩⟩
        case p18 =>
          intro D b a' w' hk he hsz hl hW
          have hz : a'.tmps.size = 166 := hsz.trans rfl
          have g15 : a'.tmps.getD 144 undef = .bool true := (hl 144).trans (lookS_at (i := 15) rfl (he ⟨15, .guard⟩ (by simp) rfl) rfl)
          have f0 : a'.tmps.getD 0 undef = .slice (some ⟨g, 0, none⟩) 256 capg := (hl 0).trans ((lookS_absent _ 0 (by simp)).trans rfl)
          exact .inl ⟨(wantedS_of rfl _ rfl rfl (by rw [hz]; decide) g15), wp_val (.slice (some ⟨g, 0, none⟩) 256 capg) (by simp only [execOp, Act.eval, List.map_toArray, List.map_cons, List.map_nil]; rw [f0]; kernel_rfl) ⟨(), fun _ => rfl, ⟨_, rfl, rfl⟩, hW.keep 18 rfl rfl rfl⟩⟩
        case p19 =>
          intro D b a' w' hk he hsz hl hW
          have hz : a'.tmps.size = 166 := hsz.trans rfl
          have g15 : a'.tmps.getD 144 undef = .bool true := (hl 144).trans (lookS_at (i := 15) rfl (he ⟨15, .guard⟩ (by simp) rfl) rfl)
          have f3 : a'.tmps.getD 3 undef = .pointer (some ⟨Rq, 0, none⟩) := (hl 3).trans ((lookS_absent _ 0 (by simp)).trans rfl)
          exact .inl ⟨(wantedS_of rfl _ rfl rfl (by rw [hz]; decide) g15), wp_val (.pointer (some ⟨Rq, 0, none⟩)) (by simp only [execOp, Act.eval, List.map_toArray, List.map_cons, List.map_nil]; rw [f3]; kernel_rfl) ⟨(), fun _ => rfl, ⟨_, rfl, rfl⟩, hW.keep 19 rfl rfl rfl⟩⟩
        case p20 =>
          intro D b a' w' hk he hsz hl hW
          have hz : a'.tmps.size = 166 := hsz.trans rfl
          have g15 : a'.tmps.getD 144 undef = .bool true := (hl 144).trans (lookS_at (i := 15) rfl (he ⟨15, .guard⟩ (by simp) rfl) rfl)
          have e19 : a'.tmps.getD 148 undef = .pointer (some ⟨Rq, 0, none⟩) := (hl 148).trans (lookS_at (i := 19) rfl (he ⟨19, .data⟩ (by simp) rfl) rfl)
          exact .inl ⟨(wantedS_of rfl _ rfl rfl (by rw [hz]; decide) g15), wp_sload1 _ _ rfl Rq 0 e19 1 hW.mem _ (.int .i64 (i : Int)) rfl rfl (by decide +kernel) ⟨(), fun _ => rfl, ⟨_, rfl, rfl⟩, hW.keep 20 rfl rfl rfl⟩⟩
        case p21 =>
          intro D b a' w' hk he hsz hl hW
          have hz : a'.tmps.size = 166 := hsz.trans rfl
          have g15 : a'.tmps.getD 144 undef = .bool true := (hl 144).trans (lookS_at (i := 15) rfl (he ⟨15, .guard⟩ (by simp) rfl) rfl)
          have e20 : a'.tmps.getD 149 undef = .int .i64 (i : Int) := (hl 149).trans (lookS_at (i := 20) rfl (he ⟨20, .data⟩ (by simp) rfl) rfl)
          exact .inl ⟨(wantedS_of rfl _ rfl rfl (by rw [hz]; decide) g15), wp_val _ (ex_mulS _ (.tmp 149) _ rfl i rfl e20 hi64) ⟨(), fun _ => rfl, ⟨_, rfl, rfl⟩, hW.keep 21 rfl rfl rfl⟩⟩
        case p22 =>
          intro D b a' w' hk he hsz hl hW
          have hz : a'.tmps.size = 166 := hsz.trans rfl
          have g15 : a'.tmps.getD 144 undef = .bool true := (hl 144).trans (lookS_at (i := 15) rfl (he ⟨15, .guard⟩ (by simp) rfl) rfl)
          have e21 : a'.tmps.getD 150 undef = .int .i64 ((4 * i : Nat) : Int) := (hl 150).trans (lookS_at (i := 21) rfl (he ⟨21, .data⟩ (by simp) rfl) rfl)
          exact .inl ⟨(wantedS_of rfl _ rfl rfl (by rw [hz]; decide) g15), wp_val _ (ex_addS (.tmp 150) _ _ rfl i e21 rfl hi64) ⟨(), fun _ => rfl, ⟨_, rfl, rfl⟩, hW.keep 22 rfl rfl rfl⟩⟩
        case p23 =>
          intro D b a' w' hk he hsz hl hW
          have hz : a'.tmps.size = 166 := hsz.trans rfl
          have g15 : a'.tmps.getD 144 undef = .bool true := (hl 144).trans (lookS_at (i := 15) rfl (he ⟨15, .guard⟩ (by simp) rfl) rfl)
          have e18 : a'.tmps.getD 147 undef = .slice (some ⟨g, 0, none⟩) 256 capg := (hl 147).trans (lookS_at (i := 18) rfl (he ⟨18, .data⟩ (by simp) rfl) rfl)
          have e22 : a'.tmps.getD 151 undef = .int .i64 ((4 * i + 1 : Nat) : Int) := (hl 151).trans (lookS_at (i := 22) rfl (he ⟨22, .data⟩ (by simp) rfl) rfl)
          exact .inl ⟨(wantedS_of rfl _ rfl rfl (by rw [hz]; decide) g15), wp_val _ (ex_ixS 0 (.tmp 147) (.tmp 151) rfl g capg (4 * i + 1) e18 e22 (by omega)) ⟨(), fun _ => rfl, ⟨_, rfl, rfl⟩, hW.keep 23 rfl rfl rfl⟩⟩
        case p24 =>
          intro D b a' w' hk he hsz hl hW
          have hz : a'.tmps.size = 166 := hsz.trans rfl
          have g15 : a'.tmps.getD 144 undef = .bool true := (hl 144).trans (lookS_at (i := 15) rfl (he ⟨15, .guard⟩ (by simp) rfl) rfl)
          have e23 : a'.tmps.getD 152 undef = .pointer (some ⟨g, (4 * i + 1) * 2, none⟩) := (hl 152).trans (lookS_at (i := 23) rfl (he ⟨23, .data⟩ (by simp) rfl) rfl)
          exact .inl ⟨(wantedS_of rfl _ rfl rfl (by rw [hz]; decide) g15), wp_val (.pointer (some ⟨g, (4 * i + 1) * 2, none⟩)) (by simp only [execOp, Act.eval, List.map_toArray, List.map_cons, List.map_nil]; rw [e23]; kernel_rfl) ⟨(), fun _ => rfl, ⟨_, rfl, rfl⟩, hW.keep 24 rfl rfl rfl⟩⟩
        case p25 =>
          intro D b a' w' hk he hsz hl hW
          have hz : a'.tmps.size = 166 := hsz.trans rfl
          have g15 : a'.tmps.getD 144 undef = .bool true := (hl 144).trans (lookS_at (i := 15) rfl (he ⟨15, .guard⟩ (by simp) rfl) rfl)
          have e24 : a'.tmps.getD 153 undef = .pointer (some ⟨g, (4 * i + 1) * 2, none⟩) := (hl 153).trans (lookS_at (i := 24) rfl (he ⟨24, .data⟩ (by simp) rfl) rfl)
          exact .inl ⟨(wantedS_of rfl _ rfl rfl (by rw [hz]; decide) g15), wp_sload1 _ _ rfl g ((4 * i + 1) * 2) e24 0 hW.mem _ (.int .u8 t) rfl ((rowS_get HG.out (4 * i + 1) (by have := HN4.out; omega)).1.trans (by rw [HT4.out])) (by decide +kernel) ⟨(), fun _ => rfl, ⟨_, rfl, rfl⟩, hW.keep 25 rfl rfl rfl⟩⟩
        case p26 =>
          intro D b a' w' hk he hsz hl hW
          have hz : a'.tmps.size = 166 := hsz.trans rfl
          have g15 : a'.tmps.getD 144 undef = .bool true := (hl 144).trans (lookS_at (i := 15) rfl (he ⟨15, .guard⟩ (by simp) rfl) rfl)
          have e25 : a'.tmps.getD 154 undef = .int .u8 t := (hl 154).trans (lookS_at (i := 25) rfl (he ⟨25, .data⟩ (by simp) rfl) rfl)
          exact .inl ⟨(wantedS_of rfl _ rfl rfl (by rw [hz]; decide) g15), wp_val _ (ex_cvS (.tmp 154) rfl t hBt.1 hBt.2 e25) ⟨(), fun _ => rfl, ⟨_, rfl, rfl⟩, hW.keep 26 rfl rfl rfl⟩⟩
        case p27 =>
          intro D b a' w' hk he hsz hl hW
          have hz : a'.tmps.size = 166 := hsz.trans rfl
          have g15 : a'.tmps.getD 144 undef = .bool true := (hl 144).trans (lookS_at (i := 15) rfl (he ⟨15, .guard⟩ (by simp) rfl) rfl)
          have hM := hW
          (try dsimp only at hM)
          rw [hk] at hM
          exact .inl ⟨(wantedS_of rfl _ rfl rfl (by rw [hz]; decide) g15), wp_mkmap _ rfl hM (fun w1 h1 => ⟨(), fun _ => rfl, ⟨_, rfl, rfl⟩, by show MW0 _ _ _ _ _ (D 27 || true) (D 28 || false) (D 29 || false) _; rw [Bool.or_true, Bool.or_false, Bool.or_false]; exact h1⟩)⟩
        case p28 =>
          intro D b a' w' hk he hsz hl hW
          have hz : a'.tmps.size = 166 := hsz.trans rfl
          have g15 : a'.tmps.getD 144 undef = .bool true := (hl 144).trans (lookS_at (i := 15) rfl (he ⟨15, .guard⟩ (by simp) rfl) rfl)
          have e27 : a'.tmps.getD 156 undef = .map (some s0) := (hl 156).trans (lookS_at (i := 27) rfl (he ⟨27, .data⟩ (by simp) rfl) rfl)
          have h27 : D 27 = true := he ⟨27, .data⟩ (by simp) rfl
          have hM := hW
          (try dsimp only at hM)
          rw [h27, hk] at hM
          exact .inl ⟨(wantedS_of rfl _ rfl rfl (by rw [hz]; decide) g15), wp_insmap (.tmp 156) _ _ rfl rfl e27 rfl rfl hs0 hM (fun w1 h1 => ⟨(), fun _ => rfl, ⟨_, rfl, rfl⟩, by show MW0 _ _ _ _ _ (D 27 || false) (D 28 || true) (D 29 || false) _; rw [Bool.or_false, Bool.or_true, Bool.or_false]; rw [h27]; exact h1⟩)⟩
        case p29 =>
          intro D b a' w' hk he hsz hl hW
          have hz : a'.tmps.size = 166 := hsz.trans rfl
          have g15 : a'.tmps.getD 144 undef = .bool true := (hl 144).trans (lookS_at (i := 15) rfl (he ⟨15, .guard⟩ (by simp) rfl) rfl)
          have e27 : a'.tmps.getD 156 undef = .map (some s0) := (hl 156).trans (lookS_at (i := 27) rfl (he ⟨27, .data⟩ (by simp) rfl) rfl)
          have h27 : D 27 = true := he ⟨27, .data⟩ (by simp) rfl
          have h28 : D 28 = true := he ⟨28, .data⟩ (by simp) rfl
          have hM := hW
          (try dsimp only at hM)
          rw [h27, h28] at hM
          exact .inl ⟨(wantedS_of rfl _ rfl rfl (by rw [hz]; decide) g15), wp_val (.map (some s0)) (by simp only [execOp, Act.eval, List.map_toArray, List.map_cons, List.map_nil]; rw [e27]; kernel_rfl) ⟨(), fun _ => rfl, ⟨_, rfl, rfl⟩, by show MW0 _ _ _ _ _ (D 27 || false) (D 28 || false) (D 29 || true) _; rw [Bool.or_false, Bool.or_false, Bool.or_true]; rw [h27, h28]; exact ⟨hM.mem, fun _ => rfl, fun _ => rfl, fun h => (by cases h), hM.at_⟩⟩⟩
        case p30 =>
          intro D b a' w' hk he hsz hl hW
          have hz : a'.tmps.size = 166 := hsz.trans rfl
          have g15 : a'.tmps.getD 144 undef = .bool true := (hl 144).trans (lookS_at (i := 15) rfl (he ⟨15, .guard⟩ (by simp) rfl) rfl)
          have f3 : a'.tmps.getD 3 undef = .pointer (some ⟨Rq, 0, none⟩) := (hl 3).trans ((lookS_absent _ 0 (by simp)).trans rfl)
          exact .inl ⟨(wantedS_of rfl _ rfl rfl (by rw [hz]; decide) g15), wp_val (.pointer (some ⟨Rq, 3, none⟩)) (by simp only [execOp, Act.eval, List.map_toArray, List.map_cons, List.map_nil]; rw [f3]; kernel_rfl) ⟨(), fun _ => rfl, ⟨_, rfl, rfl⟩, hW.keep 30 rfl rfl rfl⟩⟩
        case p31 =>
          intro D b a' w' hk he hsz hl hW
          have hz : a'.tmps.size = 166 := hsz.trans rfl
          have g15 : a'.tmps.getD 144 undef = .bool true := (hl 144).trans (lookS_at (i := 15) rfl (he ⟨15, .guard⟩ (by simp) rfl) rfl)
          have e30 : a'.tmps.getD 158 undef = .pointer (some ⟨Rq, 3, none⟩) := (hl 158).trans (lookS_at (i := 30) rfl (he ⟨30, .data⟩ (by simp) rfl) rfl)
          exact .inl ⟨(wantedS_of rfl _ rfl rfl (by rw [hz]; decide) g15), wp_sload1 _ _ rfl Rq 3 e30 1 hW.mem _ (.bool qb) rfl rfl (by decide +kernel) ⟨(), fun _ => rfl, ⟨_, rfl, rfl⟩, hW.keep 31 rfl rfl rfl⟩⟩
        case p32 =>
          intro D b a' w' hk he hsz hl hW
          have hz : a'.tmps.size = 166 := hsz.trans rfl
          have g15 : a'.tmps.getD 144 undef = .bool true := (hl 144).trans (lookS_at (i := 15) rfl (he ⟨15, .guard⟩ (by simp) rfl) rfl)
          have e29 : a'.tmps.getD 157 undef = .map (some s0) := (hl 157).trans (lookS_at (i := 29) rfl (he ⟨29, .data⟩ (by simp) rfl) rfl)
          have e31 : a'.tmps.getD 159 undef = .bool qb := (hl 159).trans (lookS_at (i := 31) rfl (he ⟨31, .data⟩ (by simp) rfl) rfl)
          have h29 : D 29 = true := he ⟨29, .data⟩ (by simp) rfl
          have h28 := hW.h29 h29
          have h27 := hW.h28 h28
          have hM := hW
          (try dsimp only at hM)
          rw [h27, h28] at hM
          exact .inl ⟨(wantedS_of rfl _ rfl rfl (by rw [hz]; decide) g15), wp_val _ (ex_lkmap (.tmp 157) (.tmp 159) rfl e29 qb e31 hM) ⟨(), fun _ => rfl, ⟨_, rfl, rfl⟩, hW.keep 32 rfl rfl rfl⟩⟩
        case p33 =>
          intro D b a' w' hk he hsz hl hW
          have hz : a'.tmps.size = 166 := hsz.trans rfl
          have g15 : a'.tmps.getD 144 undef = .bool true := (hl 144).trans (lookS_at (i := 15) rfl (he ⟨15, .guard⟩ (by simp) rfl) rfl)
          have e26 : a'.tmps.getD 155 undef = .int .u16 t := (hl 155).trans (lookS_at (i := 26) rfl (he ⟨26, .data⟩ (by simp) rfl) rfl)
          have e32 : a'.tmps.getD 160 undef = .int .u16 (if qb = true then (256 : Int) else 0) := (hl 160).trans (lookS_at (i := 32) rfl (he ⟨32, .data⟩ (by simp) rfl) rfl)
          exact .inl ⟨(wantedS_of rfl _ rfl rfl (by rw [hz]; decide) g15), wp_val (.int .u16 (bits .or .u16 t (if qb = true then (256 : Int) else 0))) (by simp only [execOp, Act.eval, List.map_toArray, List.map_cons, List.map_nil]; rw [e26, e32]; kernel_rfl) ⟨(), fun _ => rfl, ⟨_, rfl, rfl⟩, hW.keep 33 rfl rfl rfl⟩⟩
        case p34 =>
          intro D b a' w' hk he hsz hl hW
          have hz : a'.tmps.size = 166 := hsz.trans rfl
          have g15 : a'.tmps.getD 144 undef = .bool true := (hl 144).trans (lookS_at (i := 15) rfl (he ⟨15, .guard⟩ (by simp) rfl) rfl)
          have e17 : a'.tmps.getD 146 undef = .int .u16 (A / 16) := (hl 146).trans (lookS_at (i := 17) rfl (he ⟨17, .data⟩ (by simp) rfl) rfl)
          have e33 : a'.tmps.getD 161 undef = .int .u16 (bits .or .u16 t (if qb = true then (256 : Int) else 0)) := (hl 161).trans (lookS_at (i := 33) rfl (he ⟨33, .data⟩ (by simp) rfl) rfl)
          exact .inl ⟨(wantedS_of rfl _ rfl rfl (by rw [hz]; decide) g15), wp_val (.bool false) (by simp only [execOp, Act.eval, List.map_toArray, List.map_cons, List.map_nil]; rw [e17, e33]; have h := HAX.out; generalize bits .or .u16 t (if qb = true then (256 : Int) else 0) = z at *; go_simp; (first | done | (simpa using h))) ⟨(), fun _ => rfl, ⟨_, rfl, rfl⟩, hW.keep 34 rfl rfl rfl⟩⟩
        case p35 =>
          intro D b a' w' hk he hsz hl hW
          have hz : a'.tmps.size = 166 := hsz.trans rfl
          have g11 : a'.tmps.getD 140 undef = .bool false := (hl 140).trans (lookS_at (i := 11) rfl (he ⟨11, .guard⟩ (by simp) rfl) rfl)
          have e15 : a'.tmps.getD 144 undef = .bool true := (hl 144).trans (lookS_at (i := 15) rfl (he ⟨15, .data⟩ (by simp) rfl) rfl)
          have e34 : a'.tmps.getD 162 undef = .bool false := (hl 162).trans (lookS_at (i := 34) rfl (he ⟨34, .data⟩ (by simp) rfl) rfl)
          exact .inl ⟨(wantedS_of rfl _ rfl rfl (by rw [hz]; decide) g11), wp_val (.bool false) (by simp only [execOp, Act.eval, List.map_toArray, List.map_cons, List.map_nil]; rw [e15, e34]; kernel_rfl) ⟨(), fun _ => rfl, ⟨_, rfl, rfl⟩, hW.keep 35 rfl rfl rfl⟩⟩
        case p36 =>
          intro D b a' w' hk he hsz hl hW
          have hz : a'.tmps.size = 166 := hsz.trans rfl
          have e11 : a'.tmps.getD 140 undef = .bool false := (hl 140).trans (lookS_at (i := 11) rfl (he ⟨11, .data⟩ (by simp) rfl) rfl)
          have e35 : a'.tmps.getD 163 undef = .bool false := (hl 163).trans (lookS_at (i := 35) rfl (he ⟨35, .data⟩ (by simp) rfl) rfl)
          exact .inl ⟨(by rfl), wp_val (.bool false) (by simp only [execOp, Act.eval, List.map_toArray, List.map_cons, List.map_nil]; rw [e11, e35]; kernel_rfl) ⟨(), fun _ => rfl, ⟨_, rfl, rfl⟩, hW.keep 36 rfl rfl rfl⟩⟩
        intro D b w' hD hW
        clear H
        have H := hW.mem
        clear hW hD hs0 hs1
        simp only [putAll, List.foldl_cons, List.foldl_nil, Act.put, List.setIfInBounds_toArray, List.set_cons_succ, List.set_cons_zero]
        go_wp2
        go_roundw
        case rel => exact ⟨n + 1, K2, cs2, by omega, by go_num, HAND.out, by have h := HG.out; rw [← H4.out, HLAB.out] at h; exact h, H⟩
        case measure => simp [intOf]; omega
      · obtain rfl : n = 8 := by omega
        go_wp2_with (first | (go_at_call 16; (with_reducible refine (QW.out _).mono ?_); rintro e w2 ⟨rfl, hB⟩; replace H := H.next hB; clear hB) | fail)
        go_ret
        exact ⟨rfl, H.toBelow⟩
  · skip
    go_enter Try.func6, Try.ntmps6
    go_wp2_with (first | (clear M1; refine wpList_mboxA rfl _ _ rfl H (saC ⟨(i : Int), ql, false, qb, lo, ls, hi, hs, qx⟩) rfl ?_; clear H; intro Rq w1 _ H) | (go_at_call 8; have o0 := own_none w1; have b0 : Below w1.heap.size w1 (w1.alloc (.cells #[] 24)) := (Below.refl _ _).alloc (Nat.le_refl _) _; (refine (QF.out _ ((HR.out.below H.toBelow).below b0)).mono ?_); rintro e w2 ⟨rfl, hB⟩; have o1 := o0.below hB; have b1 := b0.next hB; clear o0 b0 hB) | (at_builtin; obtain ⟨g, capg, wq, r1, o2, _, b2⟩ := app_bytes w2 w1.heap.size w1.heap.size 0 [] l2 v2 22 o1 ((HR2.out.below H.toBelow).below b1).src (by rw [List.length_nil]; omega) b1.size; rw [List.nil_append] at r1 o2; refine step_app (by rfl) _ _ _ _ rfl _ _ rfl rfl _ _ r1 ?_; obtain ⟨cs0, hb0, hO, hG⟩ := rowS_own o2; replace H := Mem.add H (b1.trans b2) hb0 hO; have HG := Lib.hid hG; (try rw [hn]); clear r1 o1 o2 b1 b2 hb0 hO hG) | (refine gate_load _ _ rfl ?_; refine wpList_mload1 rfl 3 _ rfl _ _ rfl 0 H _ (.int .i64 _) rfl rfl (by decide +kernel) ?_) | (refine gate_load _ _ rfl ?_; refine wpList_mload1 rfl 3 _ rfl _ _ rfl 1 H _ (.int .i64 _) rfl rfl (by decide +kernel) ?_) | (go_at_call 12; (with_reducible refine (Q5.out _ _ _).mono ?_); rintro e w2 ⟨rfl, hB⟩; replace H := H.next hB; clear hB) | (clear M2; refine gate_load _ _ rfl ?_; refine wpList_mload1 rfl 5 _ rfl _ ((4 * i) * 2) rfl 0 H _ (.int .u8 _) rfl ((rowS_get HG.out (4 * i) (by have := HL2.out; omega)).1.trans (by rw [HY.out])) (by decide +kernel) ?_) | (refine gate_load _ _ rfl ?_; refine wpList_mload1 rfl 4 _ rfl _ _ rfl 1 H _ (.bool _) rfl rfl (by decide +kernel) ?_) | (go_at_call 16; (with_reducible refine (QW.out _).mono ?_); rintro e w2 ⟨rfl, hB⟩; replace H := H.next hB; clear hB) | fail)
    go_ret
    exact ⟨rfl, H.toBelow⟩
end Go.Proofs.Ytphnpahjofacfaa
