/-
  The walk of ScrollStays. Over this seat's translation; numbers are of their kinds. (Written by gen_sc6.py.)
-/
import Derived.Test.YtcgnnbgknaamdaaWsx
import Derived.Test.YtcgnnbgknaamdaaWso
namespace Go.Proofs.Ytcgnnbgknaamdaa
open Go.RowKit
set_option linter.unusedSimpArgs false
set_option linter.unusedVariables false
set_option maxRecDepth 20000

theorem wrap_u8t (n : Int) : IntKind.wrap .u8 n = n % 256 := by
  have hb : (2 : Int) ^ IntKind.u8.bits = 256 := by decide
  simp [IntKind.wrap, IntKind.signed, hb]
set_option maxHeartbeats 2000000 in
theorem scrollStays_no (s : Sc) (hm : scMay s = false) (sv : Value) (w : World) : Calls Try.prog 4 #[.agg (scC s), sv] w fun e w' => e = .returned (.bool true) ∧ Below w.heap.size w w' := by
  have QC := Lib.hid (fun wr => sck_no s hm wr)
  have QW := Lib.hid (fun wr => awake12_ct wr)
  have H := Mem.start w
  clear hm
  go_enter Try.func4, Try.ntmps4
  go_wp2_with (first | (go_at_call 8; (with_reducible refine (QC.out _).mono ?_); rintro e w2 ⟨rfl, hB⟩; replace H := H.next hB; clear hB) | (go_at_call 12; (with_reducible refine (QW.out _).mono ?_); rintro e w2 ⟨rfl, hB⟩; replace H := H.next hB; clear hB) | go_skip | (refine wpList_mboxA rfl _ _ rfl H _ rfl ?_; clear H; intro _ w1 _ H) | (refine gate_load _ _ rfl ?_; first | (refine wpList_mloadA rfl _ _ rfl _ rfl 0 H _ rfl (by decide +kernel) (by kernel_rfl) ?_) | (refine wpList_mload1 rfl _ _ rfl _ _ rfl 0 H _ (.int _ _) rfl rfl (by decide +kernel) ?_) | (refine wpList_mload1 rfl _ _ rfl _ _ rfl 0 H _ (.bool _) rfl rfl (by decide +kernel) ?_) | (refine wpList_mload1 rfl _ _ rfl _ _ rfl 0 H _ (.pointer _) rfl rfl (by decide +kernel) ?_) | (refine wpList_mload1 rfl _ _ rfl _ _ rfl 0 H _ (.string _) rfl rfl (by decide +kernel) ?_) | (refine wpList_mload1 rfl _ _ rfl _ _ rfl 0 H _ (.slice _ _ _) rfl rfl (by decide +kernel) ?_)) | (refine gate_store _ _ _ rfl ?_; (first | (refine wpList_mstoreA rfl _ _ _ rfl rfl _ rfl 0 H _ _ rfl rfl (by kernel_rfl) (by kernel_rfl) (by kernel_rfl) ?_) | (refine wpList_mstore rfl _ _ _ rfl rfl _ _ rfl 0 H _ _ rfl (.int _ _) rfl (by kernel_rfl) (of_decide_eq_true (by kernel_rfl)) (by kernel_rfl) rfl ?_) | (refine wpList_mstore rfl _ _ _ rfl rfl _ _ rfl 0 H _ _ rfl (.bool _) rfl (by kernel_rfl) (of_decide_eq_true (by kernel_rfl)) (by kernel_rfl) rfl ?_) | (refine wpList_mstore rfl _ _ _ rfl rfl _ _ rfl 0 H _ _ rfl (.pointer _) rfl (by kernel_rfl) (of_decide_eq_true (by kernel_rfl)) (by kernel_rfl) rfl ?_) | (refine wpList_mstore rfl _ _ _ rfl rfl _ _ rfl 0 H _ _ rfl (.string _) rfl (by kernel_rfl) (of_decide_eq_true (by kernel_rfl)) (by kernel_rfl) rfl ?_) | (refine wpList_mstore rfl _ _ _ rfl rfl _ _ rfl 0 H _ _ rfl (.slice _ _ _) rfl (by kernel_rfl) (of_decide_eq_true (by kernel_rfl)) (by kernel_rfl) rfl ?_)); clear H; intro w1 H; simp only [List.set_cons_zero, List.set_cons_succ, sc_setV, sc_setT, sc_setX, sc_setW, sc_all] at H) | fail)
  go_ret
  exact ⟨rfl, H.toBelow⟩
set_option maxHeartbeats 4000000 in
theorem scrollStays_yes (w0 : World) (s : Sc) (ok : s.ok) (l : List Int) (sv : Value) (hr : Rh w0 sv l) (ba : ∀ k, k < l.length → 0 ≤ nthH l k ∧ nthH l k < 65536) : Calls Try.prog 4 #[.agg (scC s), sv] w0 fun e w' => e = .returned (.bool true) ∧ Below w0.heap.size w0 w' := by
  obtain ⟨sa, cap, rfl, hcap, hmx, hc⟩ := hr
  have Hc := Lib.hid hc
  have BA := Lib.hid ba
  have QC0 := Lib.hid (fun wr => sck_yes s ok wr)
  have QW := Lib.hid (fun wr => awake12_ct wr)
  have OK := Lib.hid ok
  have hmx2 : l.length ≤ maxLen := Nat.le_trans hcap hmx
  unfold maxLen at hmx2
  have H := Mem.start w0
  clear hc ba ok
  go_enter Try.func4, Try.ntmps4
  go_wp2_with (first | (refine wpList_mboxA rfl _ _ rfl H _ rfl ?_; clear H; intro R1 w1 _ H) | (go_at_call 8; (with_reducible refine (QC0.out _).mono ?_); rintro e w2 ⟨rfl, hB⟩; replace H := H.next hB; clear hB) | go_skip | (refine wpList_mboxA rfl _ _ rfl H _ rfl ?_; clear H; intro _ w1 _ H) | (refine gate_load _ _ rfl ?_; first | (refine wpList_mloadA rfl _ _ rfl _ rfl 0 H _ rfl (by decide +kernel) (by kernel_rfl) ?_) | (refine wpList_mload1 rfl _ _ rfl _ _ rfl 0 H _ (.int _ _) rfl rfl (by decide +kernel) ?_) | (refine wpList_mload1 rfl _ _ rfl _ _ rfl 0 H _ (.bool _) rfl rfl (by decide +kernel) ?_) | (refine wpList_mload1 rfl _ _ rfl _ _ rfl 0 H _ (.pointer _) rfl rfl (by decide +kernel) ?_) | (refine wpList_mload1 rfl _ _ rfl _ _ rfl 0 H _ (.string _) rfl rfl (by decide +kernel) ?_) | (refine wpList_mload1 rfl _ _ rfl _ _ rfl 0 H _ (.slice _ _ _) rfl rfl (by decide +kernel) ?_)) | (refine gate_store _ _ _ rfl ?_; (first | (refine wpList_mstoreA rfl _ _ _ rfl rfl _ rfl 0 H _ _ rfl rfl (by kernel_rfl) (by kernel_rfl) (by kernel_rfl) ?_) | (refine wpList_mstore rfl _ _ _ rfl rfl _ _ rfl 0 H _ _ rfl (.int _ _) rfl (by kernel_rfl) (of_decide_eq_true (by kernel_rfl)) (by kernel_rfl) rfl ?_) | (refine wpList_mstore rfl _ _ _ rfl rfl _ _ rfl 0 H _ _ rfl (.bool _) rfl (by kernel_rfl) (of_decide_eq_true (by kernel_rfl)) (by kernel_rfl) rfl ?_) | (refine wpList_mstore rfl _ _ _ rfl rfl _ _ rfl 0 H _ _ rfl (.pointer _) rfl (by kernel_rfl) (of_decide_eq_true (by kernel_rfl)) (by kernel_rfl) rfl ?_) | (refine wpList_mstore rfl _ _ _ rfl rfl _ _ rfl 0 H _ _ rfl (.string _) rfl (by kernel_rfl) (of_decide_eq_true (by kernel_rfl)) (by kernel_rfl) rfl ?_) | (refine wpList_mstore rfl _ _ _ rfl rfl _ _ rfl 0 H _ _ rfl (.slice _ _ _) rfl (by kernel_rfl) (of_decide_eq_true (by kernel_rfl)) (by kernel_rfl) rfl ?_)); clear H; intro w1 H; simp only [List.set_cons_zero, List.set_cons_succ, sc_setV, sc_setT, sc_setX, sc_setW, sc_all] at H) | fail)
  go_loopw [5] (fun i wr => ∃ (k : Nat) (s' : Sc), k ≤ l.length ∧ k ≤ 60 ∧ i = .int .i64 (k : Int) ∧ Hid s'.ok ∧ Mem w0.heap.size [] w0 wr [(R1, scC s')]) (fun i _ => l.length - (intOf i).toNat)
  case atStart => exact ⟨0, s, Nat.zero_le _, by decide, rfl, OK, H⟩
  case round =>
    clear H QC0 OK
    obtain ⟨k, s', hk, hk60, rfl, ok', H⟩ := hrel
    by_cases hlt : k < l.length
    · by_cases h60 : k < 60
      · rcases Hc.out with hz | ⟨b, off, rfl, hbl, hcell⟩
        · rw [hz] at hlt; simp at hlt
        have HL := Lib.hid (fun wr (h : Below w0.heap.size w0 wr) => (h.cell (p := ⟨b, off + k, none⟩) hbl).trans (hcell k hlt))
        obtain ⟨n0, n1⟩ := BA.out k hlt
        clear hcell
        generalize nthH l k = n at *
        obtain ⟨p, hp⟩ : ∃ p, n / 256 = p := ⟨_, rfl⟩
        obtain ⟨kk, hkk⟩ : ∃ kk : Nat, p % 10 = kk := ⟨(p % 10).toNat, by omega⟩
        obtain ⟨q, hq⟩ : ∃ q, n % 256 = q := ⟨_, rfl⟩
        have p0 : 0 ≤ p ∧ p < 256 := by omega
        have q0 : 0 ≤ q ∧ q < 256 := by omega
        have hkk10 : kk < 10 := by omega
        have hpm : p.tmod 10 = (kk : Int) := by rw [Int.tmod_eq_emod_of_nonneg p0.1, hkk]
        have zq := wrap_u8t n
        rw [hq] at zq
        have okn := doS_ok ok'.out kk q0.1 q0.2
        have QD := Lib.hid (fun wr => do12_yes s' ok'.out kk hkk10 q q0.1 q0.2 wr)
        obtain ⟨sn, hsn⟩ : ∃ sn, doS s' kk q = sn := ⟨_, rfl⟩
        rw [hsn] at okn QD
        clear hsn hkk hq
        have QT := Lib.hid (fun wr => stint_yes sn okn wr)
        have QI := Lib.hid (fun wr => stile_yes sn okn wr)
        have QC := Lib.hid (fun wr => sck_yes sn okn wr)
        have QR := Lib.hid (fun wr => srow_yes sn okn wr)
        have bt := tileS_in okn
        have bn := tintS_in okn
        have bs := shiftS_in okn
        have br := rowS_in okn
        have OKN := Lib.hid okn
        clear okn
        generalize tileS sn = tt at *
        generalize tintS sn = aa at *
        generalize shiftS sn = sh at *
        generalize rowS sn = rr at *
        have f1 : decide (tt < 8192) = false := by simp; omega
        have f2 : decide (12287 < tt) = false := by simp; omega
        have f3 : decide (aa < 9152) = false := by simp; omega
        have f4 : decide (12287 < aa) = false := by simp; omega
        have f5 := mask_3ff aa (by omega) (by omega)
        obtain ⟨am, ham⟩ : ∃ m, aa % 1024 = m := ⟨_, rfl⟩
        rw [ham] at f5 bn
        have f6 : decide (am < 960) = false := by simp; omega
        have f7 : bits .and .i64 sh 1 = 0 := by
          have := byte_all (p := fun x => bits .and .i64 x 1 = x % 2) (by decide +kernel) sh (by omega) (by omega)
          rw [this, bs.2.2]
        have f8 : decide (6 < sh) = false := by simp; omega
        have f9 : decide (7 < rr) = false := by simp; omega
        clear ham
        go_wp2_with fail
        (try simp only [Act.put, List.setIfInBounds_toArray, List.set_cons_succ, List.set_cons_zero])
        (refine wp_region_mem 93 [⟨17, 18, 99, ptrTo, scC sc0, scC sn, undef⟩] (by kernel_rfl) (by kernel_rfl) (by rfl) (by kernel_rfl) (fun _ => by kernel_rfl) (by simp) H fun β wy hwy => ?_); have H0 := H; replace H := H.next hwy; (simp only [swapL, swapO, List.find?_cons, List.find?_nil, Nat.reduceBEq, Nat.reduceAdd]); (repeat (first | (go_big_quiet_want; refine gate_qload _ _ rfl ?_; refine quiet_gload _ _ rfl _ rfl _ (HL.out _ H.toBelow) (by kernel_rfl) ?_; simp only [Act.put, List.setIfInBounds_toArray, List.set_cons_succ, List.set_cons_zero]; go_big_quiet_on) | (go_big_quiet_want; refine gate_qload _ _ rfl ?_; (first | (refine quiet_mloadA _ _ rfl _ rfl 0 H _ rfl (by decide +kernel) (by kernel_rfl) ?_) | (refine quiet_mload1 _ _ rfl _ _ rfl 0 H _ (.int _ _) rfl rfl (by decide +kernel) ?_) | (refine quiet_mload1 _ _ rfl _ _ rfl 0 H _ (.bool _) rfl rfl (by decide +kernel) ?_) | (refine quiet_mload1 _ _ rfl _ _ rfl 0 H _ (.pointer _) rfl rfl (by decide +kernel) ?_) | (refine quiet_mload1 _ _ rfl _ _ rfl 0 H _ (.string _) rfl rfl (by decide +kernel) ?_) | (refine quiet_mload1 _ _ rfl _ _ rfl 0 H _ (.slice _ _ _) rfl rfl (by decide +kernel) ?_)); simp only [Act.put, List.setIfInBounds_toArray, List.set_cons_succ, List.set_cons_zero]; go_big_quiet_on) | go_big_quiet_step ((go_at_call 6; (with_reducible exact Calls.regrown_of (QD.out _)))))); (refine wpQuiet_nil ?_); (refine ⟨⟨⟨⟨_, run_alloc_scr _ rfl _⟩, ⟨rfl, by kernel_rfl, rfl, by kernel_rfl, fun _ => rfl⟩, trivial⟩, trivial⟩, fun wx HM => ?_⟩); clear H; have H := HM; clear HM H0 hwy; (dsimp only [boxesL, List.cons_append, List.nil_append] at H); (try dsimp only [ptrTo]); (try generalize hq0 : β 17 = q0 at *)
        go_wp2_with (first | (go_at_call 7; (with_reducible refine (QT.out _).mono ?_); rintro e w2 ⟨rfl, hB⟩; replace H := H.next hB; clear hB) | (go_at_call 10; (with_reducible refine (QI.out _).mono ?_); rintro e w2 ⟨rfl, hB⟩; replace H := H.next hB; clear hB) | (go_at_call 8; (with_reducible refine (QC.out _).mono ?_); rintro e w2 ⟨rfl, hB⟩; replace H := H.next hB; clear hB) | (go_at_call 11; (with_reducible refine (QR.out _).mono ?_); rintro e w2 ⟨rfl, hB⟩; replace H := H.next hB; clear hB) | go_skip | (refine wpList_mboxA rfl _ _ rfl H _ rfl ?_; clear H; intro _ w1 _ H) | (refine gate_load _ _ rfl ?_; first | (refine wpList_mloadA rfl _ _ rfl _ rfl 0 H _ rfl (by decide +kernel) (by kernel_rfl) ?_) | (refine wpList_mloadA rfl _ _ rfl _ rfl 1 H _ rfl (by decide +kernel) (by kernel_rfl) ?_) | (refine wpList_mload1 rfl _ _ rfl _ _ rfl 0 H _ (.int _ _) rfl rfl (by decide +kernel) ?_) | (refine wpList_mload1 rfl _ _ rfl _ _ rfl 1 H _ (.int _ _) rfl rfl (by decide +kernel) ?_) | (refine wpList_mload1 rfl _ _ rfl _ _ rfl 0 H _ (.bool _) rfl rfl (by decide +kernel) ?_) | (refine wpList_mload1 rfl _ _ rfl _ _ rfl 1 H _ (.bool _) rfl rfl (by decide +kernel) ?_) | (refine wpList_mload1 rfl _ _ rfl _ _ rfl 0 H _ (.pointer _) rfl rfl (by decide +kernel) ?_) | (refine wpList_mload1 rfl _ _ rfl _ _ rfl 1 H _ (.pointer _) rfl rfl (by decide +kernel) ?_) | (refine wpList_mload1 rfl _ _ rfl _ _ rfl 0 H _ (.string _) rfl rfl (by decide +kernel) ?_) | (refine wpList_mload1 rfl _ _ rfl _ _ rfl 1 H _ (.string _) rfl rfl (by decide +kernel) ?_) | (refine wpList_mload1 rfl _ _ rfl _ _ rfl 0 H _ (.slice _ _ _) rfl rfl (by decide +kernel) ?_) | (refine wpList_mload1 rfl _ _ rfl _ _ rfl 1 H _ (.slice _ _ _) rfl rfl (by decide +kernel) ?_)) | (refine gate_store _ _ _ rfl ?_; (first | (refine wpList_mstoreA rfl _ _ _ rfl rfl _ rfl 0 H _ _ rfl rfl (by kernel_rfl) (by kernel_rfl) (by kernel_rfl) ?_) | (refine wpList_mstoreA rfl _ _ _ rfl rfl _ rfl 1 H _ _ rfl rfl (by kernel_rfl) (by kernel_rfl) (by kernel_rfl) ?_) | (refine wpList_mstore rfl _ _ _ rfl rfl _ _ rfl 0 H _ _ rfl (.int _ _) rfl (by kernel_rfl) (of_decide_eq_true (by kernel_rfl)) (by kernel_rfl) rfl ?_) | (refine wpList_mstore rfl _ _ _ rfl rfl _ _ rfl 1 H _ _ rfl (.int _ _) rfl (by kernel_rfl) (of_decide_eq_true (by kernel_rfl)) (by kernel_rfl) rfl ?_) | (refine wpList_mstore rfl _ _ _ rfl rfl _ _ rfl 0 H _ _ rfl (.bool _) rfl (by kernel_rfl) (of_decide_eq_true (by kernel_rfl)) (by kernel_rfl) rfl ?_) | (refine wpList_mstore rfl _ _ _ rfl rfl _ _ rfl 1 H _ _ rfl (.bool _) rfl (by kernel_rfl) (of_decide_eq_true (by kernel_rfl)) (by kernel_rfl) rfl ?_) | (refine wpList_mstore rfl _ _ _ rfl rfl _ _ rfl 0 H _ _ rfl (.pointer _) rfl (by kernel_rfl) (of_decide_eq_true (by kernel_rfl)) (by kernel_rfl) rfl ?_) | (refine wpList_mstore rfl _ _ _ rfl rfl _ _ rfl 1 H _ _ rfl (.pointer _) rfl (by kernel_rfl) (of_decide_eq_true (by kernel_rfl)) (by kernel_rfl) rfl ?_) | (refine wpList_mstore rfl _ _ _ rfl rfl _ _ rfl 0 H _ _ rfl (.string _) rfl (by kernel_rfl) (of_decide_eq_true (by kernel_rfl)) (by kernel_rfl) rfl ?_) | (refine wpList_mstore rfl _ _ _ rfl rfl _ _ rfl 1 H _ _ rfl (.string _) rfl (by kernel_rfl) (of_decide_eq_true (by kernel_rfl)) (by kernel_rfl) rfl ?_) | (refine wpList_mstore rfl _ _ _ rfl rfl _ _ rfl 0 H _ _ rfl (.slice _ _ _) rfl (by kernel_rfl) (of_decide_eq_true (by kernel_rfl)) (by kernel_rfl) rfl ?_) | (refine wpList_mstore rfl _ _ _ rfl rfl _ _ rfl 1 H _ _ rfl (.slice _ _ _) rfl (by kernel_rfl) (of_decide_eq_true (by kernel_rfl)) (by kernel_rfl) rfl ?_)); clear H; intro w1 H; simp only [List.set_cons_zero, List.set_cons_succ, sc_setV, sc_setT, sc_setX, sc_setW, sc_all] at H) | fail)
        go_roundw
        case rel => exact ⟨k + 1, sn, by omega, by omega, by go_num, OKN, H.sub (List.Sublist.cons _ (List.Sublist.refl _))⟩
        case measure => simp [intOf]; omega
      · obtain rfl : k = 60 := by omega
        go_wp2_with (first | (go_at_call 12; (with_reducible refine (QW.out _).mono ?_); rintro e w2 ⟨rfl, hB⟩; replace H := H.next hB; clear hB) | go_skip | (refine wpList_mboxA rfl _ _ rfl H _ rfl ?_; clear H; intro _ w1 _ H) | (refine gate_load _ _ rfl ?_; first | (refine wpList_mloadA rfl _ _ rfl _ rfl 0 H _ rfl (by decide +kernel) (by kernel_rfl) ?_) | (refine wpList_mloadA rfl _ _ rfl _ rfl 1 H _ rfl (by decide +kernel) (by kernel_rfl) ?_) | (refine wpList_mload1 rfl _ _ rfl _ _ rfl 0 H _ (.int _ _) rfl rfl (by decide +kernel) ?_) | (refine wpList_mload1 rfl _ _ rfl _ _ rfl 1 H _ (.int _ _) rfl rfl (by decide +kernel) ?_) | (refine wpList_mload1 rfl _ _ rfl _ _ rfl 0 H _ (.bool _) rfl rfl (by decide +kernel) ?_) | (refine wpList_mload1 rfl _ _ rfl _ _ rfl 1 H _ (.bool _) rfl rfl (by decide +kernel) ?_) | (refine wpList_mload1 rfl _ _ rfl _ _ rfl 0 H _ (.pointer _) rfl rfl (by decide +kernel) ?_) | (refine wpList_mload1 rfl _ _ rfl _ _ rfl 1 H _ (.pointer _) rfl rfl (by decide +kernel) ?_) | (refine wpList_mload1 rfl _ _ rfl _ _ rfl 0 H _ (.string _) rfl rfl (by decide +kernel) ?_) | (refine wpList_mload1 rfl _ _ rfl _ _ rfl 1 H _ (.string _) rfl rfl (by decide +kernel) ?_) | (refine wpList_mload1 rfl _ _ rfl _ _ rfl 0 H _ (.slice _ _ _) rfl rfl (by decide +kernel) ?_) | (refine wpList_mload1 rfl _ _ rfl _ _ rfl 1 H _ (.slice _ _ _) rfl rfl (by decide +kernel) ?_)) | (refine gate_store _ _ _ rfl ?_; (first | (refine wpList_mstoreA rfl _ _ _ rfl rfl _ rfl 0 H _ _ rfl rfl (by kernel_rfl) (by kernel_rfl) (by kernel_rfl) ?_) | (refine wpList_mstoreA rfl _ _ _ rfl rfl _ rfl 1 H _ _ rfl rfl (by kernel_rfl) (by kernel_rfl) (by kernel_rfl) ?_) | (refine wpList_mstore rfl _ _ _ rfl rfl _ _ rfl 0 H _ _ rfl (.int _ _) rfl (by kernel_rfl) (of_decide_eq_true (by kernel_rfl)) (by kernel_rfl) rfl ?_) | (refine wpList_mstore rfl _ _ _ rfl rfl _ _ rfl 1 H _ _ rfl (.int _ _) rfl (by kernel_rfl) (of_decide_eq_true (by kernel_rfl)) (by kernel_rfl) rfl ?_) | (refine wpList_mstore rfl _ _ _ rfl rfl _ _ rfl 0 H _ _ rfl (.bool _) rfl (by kernel_rfl) (of_decide_eq_true (by kernel_rfl)) (by kernel_rfl) rfl ?_) | (refine wpList_mstore rfl _ _ _ rfl rfl _ _ rfl 1 H _ _ rfl (.bool _) rfl (by kernel_rfl) (of_decide_eq_true (by kernel_rfl)) (by kernel_rfl) rfl ?_) | (refine wpList_mstore rfl _ _ _ rfl rfl _ _ rfl 0 H _ _ rfl (.pointer _) rfl (by kernel_rfl) (of_decide_eq_true (by kernel_rfl)) (by kernel_rfl) rfl ?_) | (refine wpList_mstore rfl _ _ _ rfl rfl _ _ rfl 1 H _ _ rfl (.pointer _) rfl (by kernel_rfl) (of_decide_eq_true (by kernel_rfl)) (by kernel_rfl) rfl ?_) | (refine wpList_mstore rfl _ _ _ rfl rfl _ _ rfl 0 H _ _ rfl (.string _) rfl (by kernel_rfl) (of_decide_eq_true (by kernel_rfl)) (by kernel_rfl) rfl ?_) | (refine wpList_mstore rfl _ _ _ rfl rfl _ _ rfl 1 H _ _ rfl (.string _) rfl (by kernel_rfl) (of_decide_eq_true (by kernel_rfl)) (by kernel_rfl) rfl ?_) | (refine wpList_mstore rfl _ _ _ rfl rfl _ _ rfl 0 H _ _ rfl (.slice _ _ _) rfl (by kernel_rfl) (of_decide_eq_true (by kernel_rfl)) (by kernel_rfl) rfl ?_) | (refine wpList_mstore rfl _ _ _ rfl rfl _ _ rfl 1 H _ _ rfl (.slice _ _ _) rfl (by kernel_rfl) (of_decide_eq_true (by kernel_rfl)) (by kernel_rfl) rfl ?_)); clear H; intro w1 H; simp only [List.set_cons_zero, List.set_cons_succ, sc_setV, sc_setT, sc_setX, sc_setW, sc_all] at H) | fail)
        go_ret
        exact ⟨rfl, H.toBelow⟩
    · obtain rfl : k = l.length := by omega
      go_wp2_with (first | (go_at_call 12; (with_reducible refine (QW.out _).mono ?_); rintro e w2 ⟨rfl, hB⟩; replace H := H.next hB; clear hB) | go_skip | (refine wpList_mboxA rfl _ _ rfl H _ rfl ?_; clear H; intro _ w1 _ H) | (refine gate_load _ _ rfl ?_; first | (refine wpList_mloadA rfl _ _ rfl _ rfl 0 H _ rfl (by decide +kernel) (by kernel_rfl) ?_) | (refine wpList_mloadA rfl _ _ rfl _ rfl 1 H _ rfl (by decide +kernel) (by kernel_rfl) ?_) | (refine wpList_mload1 rfl _ _ rfl _ _ rfl 0 H _ (.int _ _) rfl rfl (by decide +kernel) ?_) | (refine wpList_mload1 rfl _ _ rfl _ _ rfl 1 H _ (.int _ _) rfl rfl (by decide +kernel) ?_) | (refine wpList_mload1 rfl _ _ rfl _ _ rfl 0 H _ (.bool _) rfl rfl (by decide +kernel) ?_) | (refine wpList_mload1 rfl _ _ rfl _ _ rfl 1 H _ (.bool _) rfl rfl (by decide +kernel) ?_) | (refine wpList_mload1 rfl _ _ rfl _ _ rfl 0 H _ (.pointer _) rfl rfl (by decide +kernel) ?_) | (refine wpList_mload1 rfl _ _ rfl _ _ rfl 1 H _ (.pointer _) rfl rfl (by decide +kernel) ?_) | (refine wpList_mload1 rfl _ _ rfl _ _ rfl 0 H _ (.string _) rfl rfl (by decide +kernel) ?_) | (refine wpList_mload1 rfl _ _ rfl _ _ rfl 1 H _ (.string _) rfl rfl (by decide +kernel) ?_) | (refine wpList_mload1 rfl _ _ rfl _ _ rfl 0 H _ (.slice _ _ _) rfl rfl (by decide +kernel) ?_) | (refine wpList_mload1 rfl _ _ rfl _ _ rfl 1 H _ (.slice _ _ _) rfl rfl (by decide +kernel) ?_)) | (refine gate_store _ _ _ rfl ?_; (first | (refine wpList_mstoreA rfl _ _ _ rfl rfl _ rfl 0 H _ _ rfl rfl (by kernel_rfl) (by kernel_rfl) (by kernel_rfl) ?_) | (refine wpList_mstoreA rfl _ _ _ rfl rfl _ rfl 1 H _ _ rfl rfl (by kernel_rfl) (by kernel_rfl) (by kernel_rfl) ?_) | (refine wpList_mstore rfl _ _ _ rfl rfl _ _ rfl 0 H _ _ rfl (.int _ _) rfl (by kernel_rfl) (of_decide_eq_true (by kernel_rfl)) (by kernel_rfl) rfl ?_) | (refine wpList_mstore rfl _ _ _ rfl rfl _ _ rfl 1 H _ _ rfl (.int _ _) rfl (by kernel_rfl) (of_decide_eq_true (by kernel_rfl)) (by kernel_rfl) rfl ?_) | (refine wpList_mstore rfl _ _ _ rfl rfl _ _ rfl 0 H _ _ rfl (.bool _) rfl (by kernel_rfl) (of_decide_eq_true (by kernel_rfl)) (by kernel_rfl) rfl ?_) | (refine wpList_mstore rfl _ _ _ rfl rfl _ _ rfl 1 H _ _ rfl (.bool _) rfl (by kernel_rfl) (of_decide_eq_true (by kernel_rfl)) (by kernel_rfl) rfl ?_) | (refine wpList_mstore rfl _ _ _ rfl rfl _ _ rfl 0 H _ _ rfl (.pointer _) rfl (by kernel_rfl) (of_decide_eq_true (by kernel_rfl)) (by kernel_rfl) rfl ?_) | (refine wpList_mstore rfl _ _ _ rfl rfl _ _ rfl 1 H _ _ rfl (.pointer _) rfl (by kernel_rfl) (of_decide_eq_true (by kernel_rfl)) (by kernel_rfl) rfl ?_) | (refine wpList_mstore rfl _ _ _ rfl rfl _ _ rfl 0 H _ _ rfl (.string _) rfl (by kernel_rfl) (of_decide_eq_true (by kernel_rfl)) (by kernel_rfl) rfl ?_) | (refine wpList_mstore rfl _ _ _ rfl rfl _ _ rfl 1 H _ _ rfl (.string _) rfl (by kernel_rfl) (of_decide_eq_true (by kernel_rfl)) (by kernel_rfl) rfl ?_) | (refine wpList_mstore rfl _ _ _ rfl rfl _ _ rfl 0 H _ _ rfl (.slice _ _ _) rfl (by kernel_rfl) (of_decide_eq_true (by kernel_rfl)) (by kernel_rfl) rfl ?_) | (refine wpList_mstore rfl _ _ _ rfl rfl _ _ rfl 1 H _ _ rfl (.slice _ _ _) rfl (by kernel_rfl) (of_decide_eq_true (by kernel_rfl)) (by kernel_rfl) rfl ?_)); clear H; intro w1 H; simp only [List.set_cons_zero, List.set_cons_succ, sc_setV, sc_setT, sc_setX, sc_setW, sc_all] at H) | fail)
      go_ret
      exact ⟨rfl, H.toBelow⟩
theorem scrollStays_walk (w : World) (s : Sc) (ok : s.oct) (l : List Int) (sv : Value) (hr : Rh w sv l) (ba : ∀ k, k < l.length → 0 ≤ nthH l k ∧ nthH l k < 65536) : Calls Try.prog 4 #[.agg (scC s), sv] w fun e w' => e = .returned (.bool true) ∧ Below w.heap.size w w' := by
  cases hm : scMay s
  · exact scrollStays_no s hm sv w
  · exact scrollStays_yes w s (Sc.ok_of ok hm) l sv hr ba
end Go.Proofs.Ytcgnnbgknaamdaa
