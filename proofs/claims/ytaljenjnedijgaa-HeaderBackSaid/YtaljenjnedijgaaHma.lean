/-
  The walk of HeaderMagic. Over this seat's translation; octets are from 0 to 255.
-/
import Derived.Test.YtaljenjnedijgaaHlp
import Derived.Test.YtaljenjnedijgaaOct
namespace Go.Proofs.Ytaljenjnedijgaa
open Go.RowKit
set_option linter.unusedSimpArgs false
set_option linter.unusedVariables false

theorem oct_mid (A : ByteArray) (y : Int) (C : ByteArray) (y0 : 0 ≤ y) (y1 : y < 256) : oct (A ++ strOfNums [y] ++ C) A.size = y := by
  have hz : (strOfNums [y]).size = 1 := by rw [strOfNums_size]; rfl
  rw [oct_append _ _ _ (by rw [ByteArray.size_append, hz]; omega)]
  unfold oct
  have e : (A ++ strOfNums [y]).data.toList = A.data.toList ++ (strOfNums [y]).data.toList := by simp
  have hl : A.data.toList.length = A.size := by simp
  rw [e, List.getD_eq_getElem?_getD, List.getElem?_append_right (by omega), hl, Nat.sub_self, strOfNums_data]
  simp
  omega
theorem magic_err (i : Nat) (hi : i < 4) (y : Int) (y0 : 0 ≤ y) (y1 : y < 256) (hy : y ≠ oct leastS i) (B r : ByteArray) : wholeE (leastS.extract 0 i ++ strOfNums [y] ++ B ++ r) = 4 := by
  have hz : (leastS.extract 0 i).size = i := by rw [ByteArray.size_extract, leastS_le]; omega
  have ho : oct (leastS.extract 0 i ++ strOfNums [y] ++ B ++ r) i = y := by
    have := oct_mid (leastS.extract 0 i) y (B ++ r) y0 y1
    rw [hz, ← ByteArray.append_assoc] at this
    exact this
  have hm : magB (leastS.extract 0 i ++ strOfNums [y] ++ B ++ r) = false := by
    generalize leastS.extract 0 i ++ strOfNums [y] ++ B ++ r = s at *
    have hc : i = 0 ∨ i = 1 ∨ i = 2 ∨ i = 3 := by omega
    unfold magB
    rcases hc with rfl | rfl | rfl | rfl
    · have e : oct leastS 0 = 78 := by decide +kernel
      rw [ho]; rw [e] at hy; simp [hy]
    · have e : oct leastS 1 = 69 := by decide +kernel
      rw [ho]; rw [e] at hy; simp [hy]
    · have e : oct leastS 2 = 83 := by decide +kernel
      rw [ho]; rw [e] at hy; simp [hy]
    · have e : oct leastS 3 = 26 := by decide +kernel
      rw [ho]; rw [e] at hy; simp [hy]
  unfold wholeE
  rw [if_neg (by rw [hm]; decide)]
theorem short_err (s : ByteArray) (h : s.size < 16) : wholeE s = 4 := by
  unfold wholeE
  rw [if_neg]
  unfold magB
  simp [show ¬ 16 ≤ s.size by omega]
theorem xor_other (i : Nat) (hi : i < 4) (v : Int) (v0 : 0 < v) (v1 : v < 256) : bits .xor .u8 (oct leastS i) v ≠ oct leastS i ∧ 0 ≤ bits .xor .u8 (oct leastS i) v ∧ bits .xor .u8 (oct leastS i) v < 256 := by
  have hc : i = 0 ∨ i = 1 ∨ i = 2 ∨ i = 3 := by omega
  have key : ∀ c : Int, c = 78 ∨ c = 69 ∨ c = 83 ∨ c = 26 → bits .xor .u8 c v ≠ c ∧ 0 ≤ bits .xor .u8 c v ∧ bits .xor .u8 c v < 256 := fun c hc => by
    have : v = 0 ∨ (bits .xor .u8 c v ≠ c ∧ 0 ≤ bits .xor .u8 c v ∧ bits .xor .u8 c v < 256) := by
      rcases hc with rfl | rfl | rfl | rfl
      · exact byte_all (p := fun v => v = 0 ∨ (bits .xor .u8 78 v ≠ 78 ∧ 0 ≤ bits .xor .u8 78 v ∧ bits .xor .u8 78 v < 256)) (by decide +kernel) v (by omega) v1
      · exact byte_all (p := fun v => v = 0 ∨ (bits .xor .u8 69 v ≠ 69 ∧ 0 ≤ bits .xor .u8 69 v ∧ bits .xor .u8 69 v < 256)) (by decide +kernel) v (by omega) v1
      · exact byte_all (p := fun v => v = 0 ∨ (bits .xor .u8 83 v ≠ 83 ∧ 0 ≤ bits .xor .u8 83 v ∧ bits .xor .u8 83 v < 256)) (by decide +kernel) v (by omega) v1
      · exact byte_all (p := fun v => v = 0 ∨ (bits .xor .u8 26 v ≠ 26 ∧ 0 ≤ bits .xor .u8 26 v ∧ bits .xor .u8 26 v < 256)) (by decide +kernel) v (by omega) v1
    rcases this with h | h
    · omega
    · exact h
  rcases hc with rfl | rfl | rfl | rfl
  · exact key _ (.inl (by decide +kernel))
  · exact key _ (.inr (.inl (by decide +kernel)))
  · exact key _ (.inr (.inr (.inl (by decide +kernel))))
  · exact key _ (.inr (.inr (.inr (by decide +kernel))))
def crtC (c : Crt) : Array Value := #[.int .i64 c.m, .int .i64 c.s, .int .i64 c.p, .int .i64 c.k, .bool c.b, .bool c.f, .bool c.v, .bool c.t, .bool c.o]
theorem alloc_cart (w : World) : (Instr.alloc 23 true (.tuple #[])).run Try.prog w = .ok (.pointer (some ⟨w.heap.size, 0, none⟩)) (w.alloc (.cells (crtC crt0) 23)) := by kernel_rfl
theorem cart_all (c : Crt) : (splice (crtC crt0).toList 0 (Value.cells (.agg (crtC c))).toList).toArray = crtC c := rfl
set_option maxRecDepth 100000 in
set_option maxHeartbeats 4000000 in
/-- The walk, where what is turned is known (y: by what; v: what came in). -/
theorem magic_way (b : ByteArray) (t v y m : Int) (w : World) (hb : b.size ≤ maxLen) (t0 : 0 ≤ t) (t1 : t < 256) (y0 : 0 < y) (y1 : y < 256) (m0 : 0 ≤ m) (m1 : m < 65536) (hv : (v = 0 ∧ y = 1) ∨ ((v == 0) = false ∧ v = y)) :
    Calls Try.prog 5 #[.agg #[.string b, .int .u8 t, .int .u8 v, .int .u16 m]] w fun e w' => e = .returned (.bool true) ∧ Below w.heap.size w w' := by
  obtain ⟨k, hk⟩ : ∃ k : Nat, t % 4 = (k : Int) := ⟨(t % 4).toNat, by omega⟩
  obtain ⟨j, hj⟩ : ∃ j : Nat, t % 16 = (j : Int) := ⟨(t % 16).toNat, by omega⟩
  obtain ⟨q, rfl⟩ : ∃ q : Nat, m = (q : Int) := ⟨m.toNat, by omega⟩
  have k4 : k < 4 := by omega
  have j16 : j < 16 := by omega
  have hx := xor_other k k4 y y0 y1
  obtain ⟨z, hz⟩ : ∃ z, bits .xor .u8 (oct leastS k) y = z := ⟨_, rfl⟩
  rw [hz] at hx
  have hw1 := magic_err k k4 z hx.2.1 hx.2.2 hx.1 (leastS.extract (k + 1) 16) (fewB b ++ zS q)
  have hw2 := short_err (leastS.extract 0 j) (by rw [ByteArray.size_extract, leastS_le]; omega)
  have hf := fewB_le b
  have sz : (leastS.extract 0 k ++ strOfNums [z] ++ leastS.extract (k + 1) 16 ++ fewB b ++ zS q).size ≤ maxLen := by
    simp only [ByteArray.size_append, ByteArray.size_extract, leastS_le, strOfNums_size, zS_size]
    unfold maxLen
    simp
    omega
  rw [← ByteArray.append_assoc] at hw1
  have KL := Lib.hid (fun wr => least_ct wr)
  have KM0 := fun wr => made_least wr
  unfold lst at KM0
  have KM := Lib.hid KM0
  clear KM0
  have KF := Lib.hid (fun wr => hfew_ct b wr hb)
  have K1 := fun wr => parse_err _ wr sz 4 hw1 (by decide)
  have K2 := fun wr => parse_err (leastS.extract 0 j) wr (by rw [ByteArray.size_extract, leastS_le]; unfold maxLen; omega) 4 hw2 (by decide)
  have KA := Lib.hid (fun wr => hawake_ct wr)
  have HM := Lib.hid (fun wr => make_octs q (by omega) wr)
  have l16 := leastS_le
  clear hw1 hw2 sz hx
  generalize leastS = L at *
  have hkL : k < L.size := by omega
  have ix := oct_at L k hkL
  generalize hF : fewB b = F at *
  generalize hoc : oct L k = oc at *
  have Q1 := Lib.hid K1
  have Q2 := Lib.hid K2
  have HK := Lib.hid hk
  have HJ := Lib.hid hj
  have HZ := Lib.hid hz
  clear K1 K2 hk hj hz hoc hF hb
  have lz : (strOfNums [z]).size = 1 := by rw [strOfNums_size]; rfl
  have lq := zS_size q
  have HC := Lib.hid alloc_cart
  have H := Mem.start w
  rcases hv with ⟨rfl, rfl⟩ | ⟨hv0, rfl⟩
  all_goals
    go_enter Try.func5, Try.ntmps5
    go_wp2_with (first | go_skip | (refine wpList_mboxA rfl _ _ rfl H _ rfl ?_; clear H; intro R1 w1 _ H) | fail)
    (refine wp_region_quiet_below (by kernel_rfl) (by kernel_rfl) ?_); (repeat (first | (go_big_quiet_want; refine gate_qload _ _ rfl ?_; (first | (refine quiet_mloadA _ _ rfl _ rfl 0 H _ rfl (by decide +kernel) (by kernel_rfl) ?_) | (refine quiet_mload1 _ _ rfl _ _ rfl 0 H _ (.int _ _) rfl rfl (by decide +kernel) ?_) | (refine quiet_mload1 _ _ rfl _ _ rfl 0 H _ (.bool _) rfl rfl (by decide +kernel) ?_) | (refine quiet_mload1 _ _ rfl _ _ rfl 0 H _ (.pointer _) rfl rfl (by decide +kernel) ?_) | (refine quiet_mload1 _ _ rfl _ _ rfl 0 H _ (.string _) rfl rfl (by decide +kernel) ?_) | (refine quiet_mload1 _ _ rfl _ _ rfl 0 H _ (.slice _ _ _) rfl rfl (by decide +kernel) ?_)); simp only [Act.put, List.setIfInBounds_toArray, List.set_cons_succ, List.set_cons_zero]; go_big_quiet_on) | go_big_quiet_step (fail))); (refine wpQuiet_nil ?_); intro _ hw'; obtain ⟨⟨dq, osq⟩, hw''⟩ := hw'; (subst hw''); have hq := below_regrown w1 dq osq; replace H := H.next hq; generalize Go.Sort.grow (redrawn w1 dq) osq = wq at *
    go_upto_region 8 with (first
      | (go_at_call 10; (with_reducible refine (KL.out _).mono ?_); rintro e w2 ⟨rfl, hB⟩; replace H := H.next hB; clear hB)
      | (go_at_call 6; (with_reducible refine (KM.out _).mono ?_); rintro e w2 ⟨rfl, hB⟩; replace H := H.next hB; clear hB)
      | go_skip | (refine wpList_mboxA rfl _ _ rfl H _ rfl ?_; clear H; intro _ w1 _ H) | (refine gate_load _ _ rfl ?_; first | (refine wpList_mloadA rfl _ _ rfl _ rfl 0 H _ rfl (by decide +kernel) (by kernel_rfl) ?_) | (refine wpList_mload1 rfl _ _ rfl _ _ rfl 0 H _ (.int _ _) rfl rfl (by decide +kernel) ?_) | (refine wpList_mload1 rfl _ _ rfl _ _ rfl 0 H _ (.bool _) rfl rfl (by decide +kernel) ?_) | (refine wpList_mload1 rfl _ _ rfl _ _ rfl 0 H _ (.pointer _) rfl rfl (by decide +kernel) ?_) | (refine wpList_mload1 rfl _ _ rfl _ _ rfl 0 H _ (.string _) rfl rfl (by decide +kernel) ?_) | (refine wpList_mload1 rfl _ _ rfl _ _ rfl 0 H _ (.slice _ _ _) rfl rfl (by decide +kernel) ?_)) | (refine gate_store _ _ _ rfl ?_; (first | (refine wpList_mstoreA rfl _ _ _ rfl rfl _ rfl 0 H _ _ rfl rfl (by kernel_rfl) (by kernel_rfl) (by kernel_rfl) ?_) | (refine wpList_mstore rfl _ _ _ rfl rfl _ _ rfl 0 H _ _ rfl (.int _ _) rfl (by kernel_rfl) (of_decide_eq_true (by kernel_rfl)) (by kernel_rfl) rfl ?_) | (refine wpList_mstore rfl _ _ _ rfl rfl _ _ rfl 0 H _ _ rfl (.bool _) rfl (by kernel_rfl) (of_decide_eq_true (by kernel_rfl)) (by kernel_rfl) rfl ?_) | (refine wpList_mstore rfl _ _ _ rfl rfl _ _ rfl 0 H _ _ rfl (.pointer _) rfl (by kernel_rfl) (of_decide_eq_true (by kernel_rfl)) (by kernel_rfl) rfl ?_) | (refine wpList_mstore rfl _ _ _ rfl rfl _ _ rfl 0 H _ _ rfl (.string _) rfl (by kernel_rfl) (of_decide_eq_true (by kernel_rfl)) (by kernel_rfl) rfl ?_) | (refine wpList_mstore rfl _ _ _ rfl rfl _ _ rfl 0 H _ _ rfl (.slice _ _ _) rfl (by kernel_rfl) (of_decide_eq_true (by kernel_rfl)) (by kernel_rfl) rfl ?_)); clear H; intro w1 H; simp only [List.set_cons_zero, List.set_cons_succ] at H)
      | fail)
    rw [HK.out]
    go_wp2_with fail
    have hz := HZ.out
    have hq2 : q ≤ 2000000 := by omega
    (refine wp_region_mem 85 [⟨8, 99, 9, rowV 1, octs [z], octs [z], .string (strOfNums [z])⟩, ⟨21, 99, 22, rowV q, octs (List.replicate q 0), octs (List.replicate q 0), .string (zS q)⟩, ⟨28, 29, 99, ptrTo, crtC crt0, crtC crt0, undef⟩] (by kernel_rfl) (by kernel_rfl) (by rfl) (by kernel_rfl) (fun _ => by kernel_rfl) (by simp) H fun β wy hwy => ?_); have H0 := H; replace H := H.next hwy; (simp only [swapL, swapO, List.find?_cons, List.find?_nil, Nat.reduceBEq, Nat.reduceAdd]); (repeat (first | (go_big_quiet_want; refine gate_qload _ _ rfl ?_; (first | (refine quiet_mloadA _ _ rfl _ rfl 0 H _ rfl (by decide +kernel) (by kernel_rfl) ?_) | (refine quiet_mload1 _ _ rfl _ _ rfl 0 H _ (.int _ _) rfl rfl (by decide +kernel) ?_) | (refine quiet_mload1 _ _ rfl _ _ rfl 0 H _ (.bool _) rfl rfl (by decide +kernel) ?_) | (refine quiet_mload1 _ _ rfl _ _ rfl 0 H _ (.pointer _) rfl rfl (by decide +kernel) ?_) | (refine quiet_mload1 _ _ rfl _ _ rfl 0 H _ (.string _) rfl rfl (by decide +kernel) ?_) | (refine quiet_mload1 _ _ rfl _ _ rfl 0 H _ (.slice _ _ _) rfl rfl (by decide +kernel) ?_)); simp only [Act.put, List.setIfInBounds_toArray, List.set_cons_succ, List.set_cons_zero]; go_big_quiet_on) | go_big_quiet_step ((first | (go_at_call 11; (with_reducible exact Calls.regrown_of (KF.out _))) | (go_at_call 8; (with_reducible exact Calls.regrown_of (Q1.out _))))))); (refine wpQuiet_nil ?_); (refine ⟨⟨⟨⟨_, ex_build1 rfl rfl (build_octs z)⟩, rfl, fun w T h => ex_conv rfl rfl (conv_octs [z] _ T w h)⟩, ⟨⟨_, ex_make rfl rfl rfl (make_octs q hq2)⟩, rfl, fun w T h => ex_conv rfl rfl (by have := conv_octs (List.replicate q 0) _ T w h; rw [List.length_replicate] at this; exact this)⟩, ⟨⟨_, run_alloc_cart _ rfl _⟩, ⟨rfl, by kernel_rfl, rfl, by kernel_rfl, fun _ => rfl⟩, trivial⟩, trivial⟩, fun wx HM => ?_⟩); clear H; have H := HM; clear HM H0 hwy; (dsimp only [boxesL, List.cons_append, List.nil_append] at H); (try generalize hq0 : β 8 = q0 at *); (try generalize hq1 : β 21 = q1 at *); (try generalize hq2 : β 28 = q2 at *)
    clear hz
    have hj := HJ.out
    go_wp2_with (first
      | (go_at_call 8; (with_reducible refine (Q2.out _).mono ?_); rintro e w2 ⟨rfl, hB⟩; replace H := H.next hB; clear hB)
      | (go_at_call 7; (with_reducible refine (KA.out _).mono ?_); rintro e w2 ⟨rfl, hB⟩; replace H := H.next hB; clear hB)
      | go_skip | (refine wpList_mboxA rfl _ _ rfl H _ rfl ?_; clear H; intro _ w1 _ H) | (refine gate_load _ _ rfl ?_; first | (refine wpList_mloadA rfl _ _ rfl _ rfl 0 H _ rfl (by decide +kernel) (by kernel_rfl) ?_) | (refine wpList_mloadA rfl _ _ rfl _ rfl 1 H _ rfl (by decide +kernel) (by kernel_rfl) ?_) | (refine wpList_mloadA rfl _ _ rfl _ rfl 2 H _ rfl (by decide +kernel) (by kernel_rfl) ?_) | (refine wpList_mloadA rfl _ _ rfl _ rfl 3 H _ rfl (by decide +kernel) (by kernel_rfl) ?_) | (refine wpList_mload1 rfl _ _ rfl _ _ rfl 0 H _ (.int _ _) rfl rfl (by decide +kernel) ?_) | (refine wpList_mload1 rfl _ _ rfl _ _ rfl 1 H _ (.int _ _) rfl rfl (by decide +kernel) ?_) | (refine wpList_mload1 rfl _ _ rfl _ _ rfl 2 H _ (.int _ _) rfl rfl (by decide +kernel) ?_) | (refine wpList_mload1 rfl _ _ rfl _ _ rfl 3 H _ (.int _ _) rfl rfl (by decide +kernel) ?_) | (refine wpList_mload1 rfl _ _ rfl _ _ rfl 0 H _ (.bool _) rfl rfl (by decide +kernel) ?_) | (refine wpList_mload1 rfl _ _ rfl _ _ rfl 1 H _ (.bool _) rfl rfl (by decide +kernel) ?_) | (refine wpList_mload1 rfl _ _ rfl _ _ rfl 2 H _ (.bool _) rfl rfl (by decide +kernel) ?_) | (refine wpList_mload1 rfl _ _ rfl _ _ rfl 3 H _ (.bool _) rfl rfl (by decide +kernel) ?_) | (refine wpList_mload1 rfl _ _ rfl _ _ rfl 0 H _ (.pointer _) rfl rfl (by decide +kernel) ?_) | (refine wpList_mload1 rfl _ _ rfl _ _ rfl 1 H _ (.pointer _) rfl rfl (by decide +kernel) ?_) | (refine wpList_mload1 rfl _ _ rfl _ _ rfl 2 H _ (.pointer _) rfl rfl (by decide +kernel) ?_) | (refine wpList_mload1 rfl _ _ rfl _ _ rfl 3 H _ (.pointer _) rfl rfl (by decide +kernel) ?_) | (refine wpList_mload1 rfl _ _ rfl _ _ rfl 0 H _ (.string _) rfl rfl (by decide +kernel) ?_) | (refine wpList_mload1 rfl _ _ rfl _ _ rfl 1 H _ (.string _) rfl rfl (by decide +kernel) ?_) | (refine wpList_mload1 rfl _ _ rfl _ _ rfl 2 H _ (.string _) rfl rfl (by decide +kernel) ?_) | (refine wpList_mload1 rfl _ _ rfl _ _ rfl 3 H _ (.string _) rfl rfl (by decide +kernel) ?_) | (refine wpList_mload1 rfl _ _ rfl _ _ rfl 0 H _ (.slice _ _ _) rfl rfl (by decide +kernel) ?_) | (refine wpList_mload1 rfl _ _ rfl _ _ rfl 1 H _ (.slice _ _ _) rfl rfl (by decide +kernel) ?_) | (refine wpList_mload1 rfl _ _ rfl _ _ rfl 2 H _ (.slice _ _ _) rfl rfl (by decide +kernel) ?_) | (refine wpList_mload1 rfl _ _ rfl _ _ rfl 3 H _ (.slice _ _ _) rfl rfl (by decide +kernel) ?_)) | (refine gate_store _ _ _ rfl ?_; (first | (refine wpList_mstoreA rfl _ _ _ rfl rfl _ rfl 0 H _ _ rfl rfl (by kernel_rfl) (by kernel_rfl) (by kernel_rfl) ?_) | (refine wpList_mstoreA rfl _ _ _ rfl rfl _ rfl 1 H _ _ rfl rfl (by kernel_rfl) (by kernel_rfl) (by kernel_rfl) ?_) | (refine wpList_mstoreA rfl _ _ _ rfl rfl _ rfl 2 H _ _ rfl rfl (by kernel_rfl) (by kernel_rfl) (by kernel_rfl) ?_) | (refine wpList_mstoreA rfl _ _ _ rfl rfl _ rfl 3 H _ _ rfl rfl (by kernel_rfl) (by kernel_rfl) (by kernel_rfl) ?_) | (refine wpList_mstore rfl _ _ _ rfl rfl _ _ rfl 0 H _ _ rfl (.int _ _) rfl (by kernel_rfl) (of_decide_eq_true (by kernel_rfl)) (by kernel_rfl) rfl ?_) | (refine wpList_mstore rfl _ _ _ rfl rfl _ _ rfl 1 H _ _ rfl (.int _ _) rfl (by kernel_rfl) (of_decide_eq_true (by kernel_rfl)) (by kernel_rfl) rfl ?_) | (refine wpList_mstore rfl _ _ _ rfl rfl _ _ rfl 2 H _ _ rfl (.int _ _) rfl (by kernel_rfl) (of_decide_eq_true (by kernel_rfl)) (by kernel_rfl) rfl ?_) | (refine wpList_mstore rfl _ _ _ rfl rfl _ _ rfl 3 H _ _ rfl (.int _ _) rfl (by kernel_rfl) (of_decide_eq_true (by kernel_rfl)) (by kernel_rfl) rfl ?_) | (refine wpList_mstore rfl _ _ _ rfl rfl _ _ rfl 0 H _ _ rfl (.bool _) rfl (by kernel_rfl) (of_decide_eq_true (by kernel_rfl)) (by kernel_rfl) rfl ?_) | (refine wpList_mstore rfl _ _ _ rfl rfl _ _ rfl 1 H _ _ rfl (.bool _) rfl (by kernel_rfl) (of_decide_eq_true (by kernel_rfl)) (by kernel_rfl) rfl ?_) | (refine wpList_mstore rfl _ _ _ rfl rfl _ _ rfl 2 H _ _ rfl (.bool _) rfl (by kernel_rfl) (of_decide_eq_true (by kernel_rfl)) (by kernel_rfl) rfl ?_) | (refine wpList_mstore rfl _ _ _ rfl rfl _ _ rfl 3 H _ _ rfl (.bool _) rfl (by kernel_rfl) (of_decide_eq_true (by kernel_rfl)) (by kernel_rfl) rfl ?_) | (refine wpList_mstore rfl _ _ _ rfl rfl _ _ rfl 0 H _ _ rfl (.pointer _) rfl (by kernel_rfl) (of_decide_eq_true (by kernel_rfl)) (by kernel_rfl) rfl ?_) | (refine wpList_mstore rfl _ _ _ rfl rfl _ _ rfl 1 H _ _ rfl (.pointer _) rfl (by kernel_rfl) (of_decide_eq_true (by kernel_rfl)) (by kernel_rfl) rfl ?_) | (refine wpList_mstore rfl _ _ _ rfl rfl _ _ rfl 2 H _ _ rfl (.pointer _) rfl (by kernel_rfl) (of_decide_eq_true (by kernel_rfl)) (by kernel_rfl) rfl ?_) | (refine wpList_mstore rfl _ _ _ rfl rfl _ _ rfl 3 H _ _ rfl (.pointer _) rfl (by kernel_rfl) (of_decide_eq_true (by kernel_rfl)) (by kernel_rfl) rfl ?_) | (refine wpList_mstore rfl _ _ _ rfl rfl _ _ rfl 0 H _ _ rfl (.string _) rfl (by kernel_rfl) (of_decide_eq_true (by kernel_rfl)) (by kernel_rfl) rfl ?_) | (refine wpList_mstore rfl _ _ _ rfl rfl _ _ rfl 1 H _ _ rfl (.string _) rfl (by kernel_rfl) (of_decide_eq_true (by kernel_rfl)) (by kernel_rfl) rfl ?_) | (refine wpList_mstore rfl _ _ _ rfl rfl _ _ rfl 2 H _ _ rfl (.string _) rfl (by kernel_rfl) (of_decide_eq_true (by kernel_rfl)) (by kernel_rfl) rfl ?_) | (refine wpList_mstore rfl _ _ _ rfl rfl _ _ rfl 3 H _ _ rfl (.string _) rfl (by kernel_rfl) (of_decide_eq_true (by kernel_rfl)) (by kernel_rfl) rfl ?_) | (refine wpList_mstore rfl _ _ _ rfl rfl _ _ rfl 0 H _ _ rfl (.slice _ _ _) rfl (by kernel_rfl) (of_decide_eq_true (by kernel_rfl)) (by kernel_rfl) rfl ?_) | (refine wpList_mstore rfl _ _ _ rfl rfl _ _ rfl 1 H _ _ rfl (.slice _ _ _) rfl (by kernel_rfl) (of_decide_eq_true (by kernel_rfl)) (by kernel_rfl) rfl ?_) | (refine wpList_mstore rfl _ _ _ rfl rfl _ _ rfl 2 H _ _ rfl (.slice _ _ _) rfl (by kernel_rfl) (of_decide_eq_true (by kernel_rfl)) (by kernel_rfl) rfl ?_) | (refine wpList_mstore rfl _ _ _ rfl rfl _ _ rfl 3 H _ _ rfl (.slice _ _ _) rfl (by kernel_rfl) (of_decide_eq_true (by kernel_rfl)) (by kernel_rfl) rfl ?_)); clear H; intro w1 H; simp only [List.set_cons_zero, List.set_cons_succ, cart_all] at H)
      | (refine wpList_mnew rfl _ rfl H _ HC.out ?_; clear H; intro _ w1 _ H)
      | fail)
    go_ret
    exact ⟨rfl, H.toBelow⟩
theorem magic_walk (b : ByteArray) (t v m : Int) (w : World) (hb : b.size ≤ maxLen) (t0 : 0 ≤ t) (t1 : t < 256) (v0 : 0 ≤ v) (v1 : v < 256) (m0 : 0 ≤ m) (m1 : m < 65536) :
    Calls Try.prog 5 #[.agg #[.string b, .int .u8 t, .int .u8 v, .int .u16 m]] w fun e w' => e = .returned (.bool true) ∧ Below w.heap.size w w' := by
  by_cases h : v = 0
  · exact magic_way b t v 1 m w hb t0 t1 (by decide) (by decide) m0 m1 (.inl ⟨h, rfl⟩)
  · exact magic_way b t v v m w hb t0 t1 (by omega) v1 m0 m1 (.inr ⟨by simpa using h, rfl⟩)
end Go.Proofs.Ytaljenjnedijgaa
