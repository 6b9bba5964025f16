/-
  The walk of TileAlike. Over this seat's translation; no condition. (Written by gen_ti.py.)
-/
import Derived.Test.YtbgclhhhfldphaaTis
import Derived.Test.YtbgclhhhfldphaaTiq
import Derived.Test.YtbgclhhhfldphaaReb
namespace Go.Proofs.Ytbgclhhhfldphaa
open Go.RowKit Go.Sort
set_option linter.unusedSimpArgs false
set_option linter.unusedVariables false
set_option maxRecDepth 100000

attribute [local irreducible] wpList
def taZ : Ta := ⟨ti0, 0, false, 0, false, 0, false, 0⟩
theorem run_alloc_ta (o : Oper) (h : o.op = .alloc 28) (ρ : Operand → Value) (w : World) : (execOp ρ o).run Try.prog w = .ok (.value (ptrTo w.heap.size)) (w.alloc (.cells (taC taZ) 28)) := by
  unfold execOp
  rw [h]
  kernel_rfl
theorem mix_raw (x n s : BitVec 16) : bits .xor .u16 (w16 x) (bits .and .u16 (w16 n) (w16 s)) = w16 (mixB x n s) := by
  rw [v16_and, v16_xor]
  rfl
def xlB (lo : BitVec 8) (n : BitVec 16) : BitVec 8 := lo ^^^ n.setWidth 8
def xhB (hi : BitVec 8) (n : BitVec 16) : BitVec 8 := hi ^^^ (n >>> 8).setWidth 8
theorem lowB_raw (lo : BitVec 8) (n : BitVec 16) : bits .xor .u8 (w8 lo) (w16 n % 256) = w8 (xlB lo n) := by
  rw [w16_to8, v8_xor]
  rfl
theorem highB_raw (hi : BitVec 8) (n : BitVec 16) : bits .xor .u8 (w8 hi) (w16 n / 256) = w8 (xhB hi n) := by
  have h := w16_lt n
  have e := w16_shr n 8
  have e2 := w16_to8 (n >>> 8)
  rw [← e] at e2
  rw [show (w16 n / 256 : Int) = w16 n / 2 ^ 8 % 256 by simp; omega, e2, v8_xor]
  rfl
theorem highB_raw' (hi : BitVec 8) (n : BitVec 16) : bits .xor .u8 (w8 hi) (w16 n / 256 % 256) = w8 (xhB hi n) := by
  have h := w16_lt n
  rw [show (w16 n / 256 % 256 : Int) = w16 n / 256 by omega]
  exact highB_raw hi n
theorem ta_setLo {q : Ta} {v : Int} {x : BitVec 8} (h : v = w8 x) : (splice (taC q).toList 5 (Value.cells (.int .u8 v)).toList).toArray = taC { q with lo := x } := by subst h; rfl
theorem ta_setHi {q : Ta} {v : Int} {x : BitVec 8} (h : v = w8 x) : (splice (taC q).toList 7 (Value.cells (.int .u8 v)).toList).toArray = taC { q with hi := x } := by subst h; rfl
set_option maxHeartbeats 8000000 in
theorem tal_ttt (t : Ti) (lo hi tint x : BitVec 8) (s : Bool) (n : BitVec 16) (hz : secT t (w8 x % 8).toNat = true) (w : World) : Calls Try.prog 6 #[.agg (taC ⟨t, lo, true, hi, true, tint, s, x⟩), .int .u16 (w16 n)] w fun e w' => e = .returned (.bool true) ∧ Below w.heap.size w w' := by
  have K1 := fun wr => tdot_ct t x wr
  have K2 := fun wr => tdot_ct (mixT t n) x wr
  have A0 := mix_alike t n
  have K3 := fun wr => talike_ct t (mixT t n) wr
  rw [A0] at K3
  rw [mix_sec] at K2
  have D0 := mix_dot t n (w8 x % 8).toNat
  generalize (w8 x % 8).toNat = k at *
  have K4 := fun wr => tload_ct t lo hi tint s true true wr
  have K5 := fun wr => tload_ct (mixT t n) (xlB lo n) (xhB hi n) tint s true true wr
  have A1 := load_alike t (mixT t n) lo hi (xlB lo n) (xhB hi n) tint (s || true || true) A0 (by intro h; first | rfl | simp at h) (by intro h; first | rfl | simp at h)
  obtain ⟨u, hu⟩ : ∃ u, loadT t lo hi tint (s || true || true) = u := ⟨_, rfl⟩
  obtain ⟨y, hy⟩ : ∃ y, loadT (mixT t n) (xlB lo n) (xhB hi n) tint (s || true || true) = y := ⟨_, rfl⟩
  rw [hu] at K4 A1
  rw [hy] at K5 A1
  have A2 := shift_alike u y A1
  have K6 := fun wr => talike_ct u y wr
  have K7 := fun wr => ralike14_ct u y wr
  have K8 := fun wr => talike_ct (shiftT u) (shiftT y) wr
  rw [A1] at K6 K7
  rw [A2] at K8
  have KA := fun wr => tshift_ct u wr
  have KB := fun wr => tshift_ct y wr
  generalize shiftT u = u2 at *
  generalize shiftT y = y2 at *
  rw [hz] at K1 K2 D0
  obtain ⟨d1, hd1⟩ : ∃ d, dotT t k = d := ⟨_, rfl⟩
  obtain ⟨d2, hd2⟩ : ∃ d, dotT (mixT t n) k = d := ⟨_, rfl⟩
  rw [hd1] at K1 D0
  rw [hd2] at K2 D0
  (first | (have D1 := D0 rfl; rw [D1] at K2; clear D1) | skip)
  clear D0
  obtain ⟨m, hm⟩ : ∃ m, mixT t n = m := ⟨_, rfl⟩
  rw [hm] at K2 K3 K5
  have nl := w16_lt n
  have n0 := nl.1
  have n1 := nl.2
  have Q1 := Lib.hid K1
  clear K1
  have Q2 := Lib.hid K2
  clear K2
  have Q3 := Lib.hid K3
  clear K3
  have Q4 := Lib.hid K4
  clear K4
  have Q5 := Lib.hid K5
  clear K5
  have Q6 := Lib.hid K6
  clear K6
  have Q7 := Lib.hid K7
  clear K7
  have Q8 := Lib.hid K8
  clear K8
  have QA := Lib.hid KA
  clear KA
  have QB := Lib.hid KB
  clear KB
  have QW := Lib.hid (fun wr => awake14_ct wr)
  have HM := Lib.hid (show (⟨mixB t.lo n t.s, mixB t.hi n t.s, mixB t.one n t.s, mixB t.two n t.s, t.s⟩ : Ti) = m from hm)
  clear A0 A1 A2 hu hy hz hd1 hd2 hm nl n0 n1
  have H := Mem.start w
  have ML : True := trivial
  have MH : True := trivial
  have M1 : True := trivial
  go_enter Try.func6, Try.ntmps6
  go_wp2_with (first | (clear M1; refine wpList_mboxA rfl _ _ rfl H _ rfl ?_; clear H; intro Rq w1 _ H) | fail)
  (try simp only [Act.put, List.setIfInBounds_toArray, List.set_cons_succ, List.set_cons_zero])
  (refine wp_region_mem 144 [⟨3, 5, 99, ptrTo, tiC ti0, tiC t, undef⟩, ⟨4, 6, 99, ptrTo, taC taZ, taC ⟨t, lo, true, hi, true, tint, s, x⟩, undef⟩] (by kernel_rfl) (by kernel_rfl) (by rfl) (by kernel_rfl) (fun _ => by kernel_rfl) (by simp) H fun β wy hwy => ?_); have H0 := H; replace H := H.next hwy; (simp only [swapL, swapO, List.find?_cons, List.find?_nil, Nat.reduceBEq, Nat.reduceAdd]); (repeat (first | (go_big_quiet_want; refine gate_qload _ _ rfl ?_; refine quiet_mload 24 _ rfl _ _ rfl 0 H _ (tiC _) rfl (by decide +kernel) (by kernel_rfl) (ta_tile _) ?_; simp only [Act.put, List.setIfInBounds_toArray, List.set_cons_succ, List.set_cons_zero]; go_big_quiet_on) | (go_big_quiet_want; refine gate_qload _ _ rfl ?_; refine quiet_mloadA 28 _ rfl _ rfl 0 H (taC _) rfl (by decide +kernel) (by kernel_rfl) ?_; simp only [Act.put, List.setIfInBounds_toArray, List.set_cons_succ, List.set_cons_zero]; go_big_quiet_on) | (go_big_quiet_want; refine gate_qload _ _ rfl ?_; (first | (refine quiet_mloadA _ _ rfl _ rfl 0 H _ rfl (by decide +kernel) (by kernel_rfl) ?_) | (refine quiet_mload1 _ _ rfl _ _ rfl 0 H _ (.int _ _) rfl rfl (by decide +kernel) ?_) | (refine quiet_mload1 _ _ rfl _ _ rfl 0 H _ (.bool _) rfl rfl (by decide +kernel) ?_) | (refine quiet_mload1 _ _ rfl _ _ rfl 0 H _ (.pointer _) rfl rfl (by decide +kernel) ?_) | (refine quiet_mload1 _ _ rfl _ _ rfl 0 H _ (.string _) rfl rfl (by decide +kernel) ?_) | (refine quiet_mload1 _ _ rfl _ _ rfl 0 H _ (.slice _ _ _) rfl rfl (by decide +kernel) ?_)); simp only [Act.put, List.setIfInBounds_toArray, List.set_cons_succ, List.set_cons_zero]; go_big_quiet_on) | go_big_quiet_step (fail))); (refine wpQuiet_nil ?_); (refine ⟨⟨⟨⟨_, alloc_til _ rfl _⟩, ⟨rfl, by kernel_rfl, rfl, by kernel_rfl, fun _ => rfl⟩, trivial⟩, ⟨⟨_, run_alloc_ta _ rfl _⟩, ⟨rfl, by kernel_rfl, rfl, by kernel_rfl, fun _ => rfl⟩, trivial⟩, trivial⟩, fun wx HM => ?_⟩); clear H; have H := HM; clear HM H0 hwy; (dsimp only [boxesL, List.cons_append, List.nil_append] at H); (try dsimp only [ptrTo]); (try generalize hq0 : β 3 = q0 at *); (try generalize hq1 : β 4 = q1 at *)
  go_wp2_with (first | (refine gate_load _ _ rfl ?_; refine wpList_mload1 rfl 22 _ rfl _ _ rfl 0 H _ (.int .u16 _) rfl rfl (by decide +kernel) ?_) | (refine gate_store _ _ _ rfl ?_; refine wpList_mstore rfl 22 _ _ rfl rfl _ _ rfl 0 H _ _ rfl (.int .u16 _) rfl (by kernel_rfl) (of_decide_eq_true (by kernel_rfl)) (by kernel_rfl) (ti_I (mix_raw _ _ _) rfl) ?_; clear H; intro w1 H; simp only [List.set_cons_zero, List.set_cons_succ] at H) | (refine gate_load _ _ rfl ?_; refine wpList_mload1 rfl 4 _ rfl _ _ rfl 2 H _ (.bool _) rfl rfl (by decide +kernel) ?_) | (refine gate_load _ _ rfl ?_; refine wpList_mload1 rfl 5 _ rfl _ _ rfl 1 H _ (.int .u8 _) rfl rfl (by decide +kernel) ?_) | (clear ML; (refine gate_store _ _ _ rfl ?_; refine wpList_mstore rfl 5 _ _ rfl rfl _ _ rfl 1 H _ _ rfl (.int .u8 _) rfl (by kernel_rfl) (of_decide_eq_true (by kernel_rfl)) (by kernel_rfl) (ta_setLo (lowB_raw _ _)) ?_; clear H; intro w1 H; simp only [List.set_cons_zero, List.set_cons_succ] at H)) | (clear MH; (refine gate_store _ _ _ rfl ?_; refine wpList_mstore rfl 5 _ _ rfl rfl _ _ rfl 1 H _ _ rfl (.int .u8 _) rfl (by kernel_rfl) (of_decide_eq_true (by kernel_rfl)) (by kernel_rfl) (ta_setHi (highB_raw' _ _)) ?_; clear H; intro w1 H; simp only [List.set_cons_zero, List.set_cons_succ] at H)) | (refine gate_load _ _ rfl ?_; refine wpList_mload rfl 24 _ rfl _ _ rfl 2 H _ (tiC _) rfl (by decide +kernel) (by kernel_rfl) (ta_tile _) ?_) | (refine gate_load _ _ rfl ?_; refine wpList_mload1 rfl 5 _ rfl _ _ rfl 2 H _ (.int .u8 _) rfl rfl (by decide +kernel) ?_) | (refine gate_load _ _ rfl ?_; have hmm := HM.out; rw [hmm] at H; clear hmm HM; refine wpList_mloadA rfl 24 _ rfl _ rfl 0 H (tiC _) rfl (by decide +kernel) (by kernel_rfl) ?_) | (refine gate_load _ _ rfl ?_; refine wpList_mloadA rfl 24 _ rfl _ rfl 0 H (tiC _) rfl (by decide +kernel) (by kernel_rfl) ?_) | (go_at_call 8; (first | (with_reducible refine (Q1.out _).mono ?_) | (with_reducible refine (Q2.out _).mono ?_)); rintro e w2 ⟨rfl, hB⟩; replace H := H.next hB; clear hB) | (go_at_call 15; (first | (with_reducible refine (Q3.out _).mono ?_)); rintro e w2 ⟨rfl, hB⟩; replace H := H.next hB; clear hB) | fail)
  (try simp only [Act.put, List.setIfInBounds_toArray, List.set_cons_succ, List.set_cons_zero])
  (refine wp_region_mem 144 [⟨21, 23, 99, ptrTo, tiC ti0, tiC u, undef⟩, ⟨22, 24, 99, ptrTo, tiC ti0, tiC y, undef⟩] (by kernel_rfl) (by kernel_rfl) (by rfl) (by kernel_rfl) (fun _ => by kernel_rfl) (by simp) H fun β wy hwy => ?_); have H0 := H; replace H := H.next hwy; (simp only [swapL, swapO, List.find?_cons, List.find?_nil, Nat.reduceBEq, Nat.reduceAdd]); (repeat (first | (go_big_quiet_want; refine gate_qload _ _ rfl ?_; refine quiet_mloadA 24 _ rfl _ rfl 0 H (tiC _) rfl (by decide +kernel) (by kernel_rfl) ?_; simp only [Act.put, List.setIfInBounds_toArray, List.set_cons_succ, List.set_cons_zero]; go_big_quiet_on) | (go_big_quiet_want; refine gate_qload _ _ rfl ?_; refine quiet_mload 24 _ rfl _ _ rfl 2 H _ (tiC _) rfl (by decide +kernel) (by kernel_rfl) (ta_tile _) ?_; simp only [Act.put, List.setIfInBounds_toArray, List.set_cons_succ, List.set_cons_zero]; go_big_quiet_on) | (go_big_quiet_want; refine gate_qload _ _ rfl ?_; refine quiet_mload 26 _ rfl _ _ rfl 1 H _ #[.int .u8 _, .bool _] rfl (by decide +kernel) (by kernel_rfl) (ta_lo _) ?_; simp only [Act.put, List.setIfInBounds_toArray, List.set_cons_succ, List.set_cons_zero]; go_big_quiet_on) | (go_big_quiet_want; refine gate_qload _ _ rfl ?_; refine quiet_mload 26 _ rfl _ _ rfl 1 H _ #[.int .u8 _, .bool _] rfl (by decide +kernel) (by kernel_rfl) (ta_hi _) ?_; simp only [Act.put, List.setIfInBounds_toArray, List.set_cons_succ, List.set_cons_zero]; go_big_quiet_on) | (go_big_quiet_want; refine gate_qload _ _ rfl ?_; refine quiet_mload 26 _ rfl _ _ rfl 2 H _ #[.int .u8 _, .bool _] rfl (by decide +kernel) (by kernel_rfl) (ta_lo _) ?_; simp only [Act.put, List.setIfInBounds_toArray, List.set_cons_succ, List.set_cons_zero]; go_big_quiet_on) | (go_big_quiet_want; refine gate_qload _ _ rfl ?_; refine quiet_mload 26 _ rfl _ _ rfl 2 H _ #[.int .u8 _, .bool _] rfl (by decide +kernel) (by kernel_rfl) (ta_hi _) ?_; simp only [Act.put, List.setIfInBounds_toArray, List.set_cons_succ, List.set_cons_zero]; go_big_quiet_on) | (go_big_quiet_want; refine gate_qload _ _ rfl ?_; refine quiet_mload1 5 _ rfl _ _ rfl 2 H _ (.int .u8 _) rfl rfl (by decide +kernel) ?_; simp only [Act.put, List.setIfInBounds_toArray, List.set_cons_succ, List.set_cons_zero]; go_big_quiet_on) | (go_big_quiet_want; refine gate_qload _ _ rfl ?_; refine quiet_mload1 4 _ rfl _ _ rfl 2 H _ (.bool _) rfl rfl (by decide +kernel) ?_; simp only [Act.put, List.setIfInBounds_toArray, List.set_cons_succ, List.set_cons_zero]; go_big_quiet_on) | (go_big_quiet_want; refine gate_qload _ _ rfl ?_; (first | (refine quiet_mloadA _ _ rfl _ rfl 0 H _ rfl (by decide +kernel) (by kernel_rfl) ?_) | (refine quiet_mloadA _ _ rfl _ rfl 1 H _ rfl (by decide +kernel) (by kernel_rfl) ?_) | (refine quiet_mloadA _ _ rfl _ rfl 2 H _ rfl (by decide +kernel) (by kernel_rfl) ?_) | (refine quiet_mload1 _ _ rfl _ _ rfl 0 H _ (.int _ _) rfl rfl (by decide +kernel) ?_) | (refine quiet_mload1 _ _ rfl _ _ rfl 1 H _ (.int _ _) rfl rfl (by decide +kernel) ?_) | (refine quiet_mload1 _ _ rfl _ _ rfl 2 H _ (.int _ _) rfl rfl (by decide +kernel) ?_) | (refine quiet_mload1 _ _ rfl _ _ rfl 0 H _ (.bool _) rfl rfl (by decide +kernel) ?_) | (refine quiet_mload1 _ _ rfl _ _ rfl 1 H _ (.bool _) rfl rfl (by decide +kernel) ?_) | (refine quiet_mload1 _ _ rfl _ _ rfl 2 H _ (.bool _) rfl rfl (by decide +kernel) ?_) | (refine quiet_mload1 _ _ rfl _ _ rfl 0 H _ (.pointer _) rfl rfl (by decide +kernel) ?_) | (refine quiet_mload1 _ _ rfl _ _ rfl 1 H _ (.pointer _) rfl rfl (by decide +kernel) ?_) | (refine quiet_mload1 _ _ rfl _ _ rfl 2 H _ (.pointer _) rfl rfl (by decide +kernel) ?_) | (refine quiet_mload1 _ _ rfl _ _ rfl 0 H _ (.string _) rfl rfl (by decide +kernel) ?_) | (refine quiet_mload1 _ _ rfl _ _ rfl 1 H _ (.string _) rfl rfl (by decide +kernel) ?_) | (refine quiet_mload1 _ _ rfl _ _ rfl 2 H _ (.string _) rfl rfl (by decide +kernel) ?_) | (refine quiet_mload1 _ _ rfl _ _ rfl 0 H _ (.slice _ _ _) rfl rfl (by decide +kernel) ?_) | (refine quiet_mload1 _ _ rfl _ _ rfl 1 H _ (.slice _ _ _) rfl rfl (by decide +kernel) ?_) | (refine quiet_mload1 _ _ rfl _ _ rfl 2 H _ (.slice _ _ _) rfl rfl (by decide +kernel) ?_)); simp only [Act.put, List.setIfInBounds_toArray, List.set_cons_succ, List.set_cons_zero]; go_big_quiet_on) | go_big_quiet_step ((first | (go_at_call 10; (first | (with_reducible exact Calls.regrown_of (Q4.out _)) | (with_reducible exact Calls.regrown_of (Q5.out _)))) | fail)))); (refine wpQuiet_nil ?_); (refine ⟨⟨⟨⟨_, alloc_til _ rfl _⟩, ⟨rfl, by kernel_rfl, rfl, by kernel_rfl, fun _ => rfl⟩, trivial⟩, ⟨⟨_, alloc_til _ rfl _⟩, ⟨rfl, by kernel_rfl, rfl, by kernel_rfl, fun _ => rfl⟩, trivial⟩, trivial⟩, fun wx HM => ?_⟩); clear H; have H := HM; clear HM H0 hwy; (dsimp only [boxesL, List.cons_append, List.nil_append] at H); (try dsimp only [ptrTo]); (try generalize hq0 : β 21 = q0 at *); (try generalize hq1 : β 22 = q1 at *)
  go_wp2_with fail
  (try simp only [Act.put, List.setIfInBounds_toArray, List.set_cons_succ, List.set_cons_zero])
  (refine wp_region_quiet_below (by kernel_rfl) (by kernel_rfl) ?_); (repeat (first | (go_big_quiet_want; refine gate_qload _ _ rfl ?_; refine quiet_mloadA 24 _ rfl _ rfl 0 H (tiC _) rfl (by decide +kernel) (by kernel_rfl) ?_; simp only [Act.put, List.setIfInBounds_toArray, List.set_cons_succ, List.set_cons_zero]; go_big_quiet_on) | (go_big_quiet_want; refine gate_qload _ _ rfl ?_; refine quiet_mloadA 24 _ rfl _ rfl 1 H (tiC _) rfl (by decide +kernel) (by kernel_rfl) ?_; simp only [Act.put, List.setIfInBounds_toArray, List.set_cons_succ, List.set_cons_zero]; go_big_quiet_on) | go_big_quiet_step ((first | (go_at_call 15; (first | (with_reducible exact Calls.regrown_of (Q6.out _)) | (with_reducible exact Calls.regrown_of (Q8.out _)))) | (go_at_call 16; (first | (with_reducible exact Calls.regrown_of (Q7.out _)))) | (go_at_call 12; (first | (with_reducible exact Calls.regrown_of (QA.out _)) | (with_reducible exact Calls.regrown_of (QB.out _)))) | (go_at_call 17; (with_reducible exact Calls.regrown_of (QW.out _))) | fail)))); (refine wpQuiet_nil ?_); intro _ hw'; obtain ⟨⟨dq, osq⟩, hw''⟩ := hw'; (subst hw''); replace H := H.next (below_regrown _ dq osq); generalize Go.Sort.grow (redrawn _ dq) osq = wq at *
  go_wp2
  go_ret
  exact ⟨rfl, H.toBelow⟩
set_option maxHeartbeats 8000000 in
theorem tal_ttf (t : Ti) (lo hi tint x : BitVec 8) (s : Bool) (n : BitVec 16) (hz : secT t (w8 x % 8).toNat = false) (w : World) : Calls Try.prog 6 #[.agg (taC ⟨t, lo, true, hi, true, tint, s, x⟩), .int .u16 (w16 n)] w fun e w' => e = .returned (.bool true) ∧ Below w.heap.size w w' := by
  have K1 := fun wr => tdot_ct t x wr
  have K2 := fun wr => tdot_ct (mixT t n) x wr
  have A0 := mix_alike t n
  have K3 := fun wr => talike_ct t (mixT t n) wr
  rw [A0] at K3
  rw [mix_sec] at K2
  have D0 := mix_dot t n (w8 x % 8).toNat
  generalize (w8 x % 8).toNat = k at *
  have K4 := fun wr => tload_ct t lo hi tint s true true wr
  have K5 := fun wr => tload_ct (mixT t n) (xlB lo n) (xhB hi n) tint s true true wr
  have A1 := load_alike t (mixT t n) lo hi (xlB lo n) (xhB hi n) tint (s || true || true) A0 (by intro h; first | rfl | simp at h) (by intro h; first | rfl | simp at h)
  obtain ⟨u, hu⟩ : ∃ u, loadT t lo hi tint (s || true || true) = u := ⟨_, rfl⟩
  obtain ⟨y, hy⟩ : ∃ y, loadT (mixT t n) (xlB lo n) (xhB hi n) tint (s || true || true) = y := ⟨_, rfl⟩
  rw [hu] at K4 A1
  rw [hy] at K5 A1
  have A2 := shift_alike u y A1
  have K6 := fun wr => talike_ct u y wr
  have K7 := fun wr => ralike14_ct u y wr
  have K8 := fun wr => talike_ct (shiftT u) (shiftT y) wr
  rw [A1] at K6 K7
  rw [A2] at K8
  have KA := fun wr => tshift_ct u wr
  have KB := fun wr => tshift_ct y wr
  generalize shiftT u = u2 at *
  generalize shiftT y = y2 at *
  rw [hz] at K1 K2 D0
  obtain ⟨d1, hd1⟩ : ∃ d, dotT t k = d := ⟨_, rfl⟩
  obtain ⟨d2, hd2⟩ : ∃ d, dotT (mixT t n) k = d := ⟨_, rfl⟩
  rw [hd1] at K1 D0
  rw [hd2] at K2 D0
  (first | (have D1 := D0 rfl; rw [D1] at K2; clear D1) | skip)
  clear D0
  obtain ⟨m, hm⟩ : ∃ m, mixT t n = m := ⟨_, rfl⟩
  rw [hm] at K2 K3 K5
  have nl := w16_lt n
  have n0 := nl.1
  have n1 := nl.2
  have Q1 := Lib.hid K1
  clear K1
  have Q2 := Lib.hid K2
  clear K2
  have Q3 := Lib.hid K3
  clear K3
  have Q4 := Lib.hid K4
  clear K4
  have Q5 := Lib.hid K5
  clear K5
  have Q6 := Lib.hid K6
  clear K6
  have Q7 := Lib.hid K7
  clear K7
  have Q8 := Lib.hid K8
  clear K8
  have QA := Lib.hid KA
  clear KA
  have QB := Lib.hid KB
  clear KB
  have QW := Lib.hid (fun wr => awake14_ct wr)
  have HM := Lib.hid (show (⟨mixB t.lo n t.s, mixB t.hi n t.s, mixB t.one n t.s, mixB t.two n t.s, t.s⟩ : Ti) = m from hm)
  clear A0 A1 A2 hu hy hz hd1 hd2 hm nl n0 n1
  have H := Mem.start w
  have ML : True := trivial
  have MH : True := trivial
  have M1 : True := trivial
  go_enter Try.func6, Try.ntmps6
  go_wp2_with (first | (clear M1; refine wpList_mboxA rfl _ _ rfl H _ rfl ?_; clear H; intro Rq w1 _ H) | fail)
  (try simp only [Act.put, List.setIfInBounds_toArray, List.set_cons_succ, List.set_cons_zero])
  (refine wp_region_mem 144 [⟨3, 5, 99, ptrTo, tiC ti0, tiC t, undef⟩, ⟨4, 6, 99, ptrTo, taC taZ, taC ⟨t, lo, true, hi, true, tint, s, x⟩, undef⟩] (by kernel_rfl) (by kernel_rfl) (by rfl) (by kernel_rfl) (fun _ => by kernel_rfl) (by simp) H fun β wy hwy => ?_); have H0 := H; replace H := H.next hwy; (simp only [swapL, swapO, List.find?_cons, List.find?_nil, Nat.reduceBEq, Nat.reduceAdd]); (repeat (first | (go_big_quiet_want; refine gate_qload _ _ rfl ?_; refine quiet_mload 24 _ rfl _ _ rfl 0 H _ (tiC _) rfl (by decide +kernel) (by kernel_rfl) (ta_tile _) ?_; simp only [Act.put, List.setIfInBounds_toArray, List.set_cons_succ, List.set_cons_zero]; go_big_quiet_on) | (go_big_quiet_want; refine gate_qload _ _ rfl ?_; refine quiet_mloadA 28 _ rfl _ rfl 0 H (taC _) rfl (by decide +kernel) (by kernel_rfl) ?_; simp only [Act.put, List.setIfInBounds_toArray, List.set_cons_succ, List.set_cons_zero]; go_big_quiet_on) | (go_big_quiet_want; refine gate_qload _ _ rfl ?_; (first | (refine quiet_mloadA _ _ rfl _ rfl 0 H _ rfl (by decide +kernel) (by kernel_rfl) ?_) | (refine quiet_mload1 _ _ rfl _ _ rfl 0 H _ (.int _ _) rfl rfl (by decide +kernel) ?_) | (refine quiet_mload1 _ _ rfl _ _ rfl 0 H _ (.bool _) rfl rfl (by decide +kernel) ?_) | (refine quiet_mload1 _ _ rfl _ _ rfl 0 H _ (.pointer _) rfl rfl (by decide +kernel) ?_) | (refine quiet_mload1 _ _ rfl _ _ rfl 0 H _ (.string _) rfl rfl (by decide +kernel) ?_) | (refine quiet_mload1 _ _ rfl _ _ rfl 0 H _ (.slice _ _ _) rfl rfl (by decide +kernel) ?_)); simp only [Act.put, List.setIfInBounds_toArray, List.set_cons_succ, List.set_cons_zero]; go_big_quiet_on) | go_big_quiet_step (fail))); (refine wpQuiet_nil ?_); (refine ⟨⟨⟨⟨_, alloc_til _ rfl _⟩, ⟨rfl, by kernel_rfl, rfl, by kernel_rfl, fun _ => rfl⟩, trivial⟩, ⟨⟨_, run_alloc_ta _ rfl _⟩, ⟨rfl, by kernel_rfl, rfl, by kernel_rfl, fun _ => rfl⟩, trivial⟩, trivial⟩, fun wx HM => ?_⟩); clear H; have H := HM; clear HM H0 hwy; (dsimp only [boxesL, List.cons_append, List.nil_append] at H); (try dsimp only [ptrTo]); (try generalize hq0 : β 3 = q0 at *); (try generalize hq1 : β 4 = q1 at *)
  go_wp2_with (first | (refine gate_load _ _ rfl ?_; refine wpList_mload1 rfl 22 _ rfl _ _ rfl 0 H _ (.int .u16 _) rfl rfl (by decide +kernel) ?_) | (refine gate_store _ _ _ rfl ?_; refine wpList_mstore rfl 22 _ _ rfl rfl _ _ rfl 0 H _ _ rfl (.int .u16 _) rfl (by kernel_rfl) (of_decide_eq_true (by kernel_rfl)) (by kernel_rfl) (ti_I (mix_raw _ _ _) rfl) ?_; clear H; intro w1 H; simp only [List.set_cons_zero, List.set_cons_succ] at H) | (refine gate_load _ _ rfl ?_; refine wpList_mload1 rfl 4 _ rfl _ _ rfl 2 H _ (.bool _) rfl rfl (by decide +kernel) ?_) | (refine gate_load _ _ rfl ?_; refine wpList_mload1 rfl 5 _ rfl _ _ rfl 1 H _ (.int .u8 _) rfl rfl (by decide +kernel) ?_) | (clear ML; (refine gate_store _ _ _ rfl ?_; refine wpList_mstore rfl 5 _ _ rfl rfl _ _ rfl 1 H _ _ rfl (.int .u8 _) rfl (by kernel_rfl) (of_decide_eq_true (by kernel_rfl)) (by kernel_rfl) (ta_setLo (lowB_raw _ _)) ?_; clear H; intro w1 H; simp only [List.set_cons_zero, List.set_cons_succ] at H)) | (clear MH; (refine gate_store _ _ _ rfl ?_; refine wpList_mstore rfl 5 _ _ rfl rfl _ _ rfl 1 H _ _ rfl (.int .u8 _) rfl (by kernel_rfl) (of_decide_eq_true (by kernel_rfl)) (by kernel_rfl) (ta_setHi (highB_raw' _ _)) ?_; clear H; intro w1 H; simp only [List.set_cons_zero, List.set_cons_succ] at H)) | (refine gate_load _ _ rfl ?_; refine wpList_mload rfl 24 _ rfl _ _ rfl 2 H _ (tiC _) rfl (by decide +kernel) (by kernel_rfl) (ta_tile _) ?_) | (refine gate_load _ _ rfl ?_; refine wpList_mload1 rfl 5 _ rfl _ _ rfl 2 H _ (.int .u8 _) rfl rfl (by decide +kernel) ?_) | (refine gate_load _ _ rfl ?_; have hmm := HM.out; rw [hmm] at H; clear hmm HM; refine wpList_mloadA rfl 24 _ rfl _ rfl 0 H (tiC _) rfl (by decide +kernel) (by kernel_rfl) ?_) | (refine gate_load _ _ rfl ?_; refine wpList_mloadA rfl 24 _ rfl _ rfl 0 H (tiC _) rfl (by decide +kernel) (by kernel_rfl) ?_) | (go_at_call 8; (first | (with_reducible refine (Q1.out _).mono ?_) | (with_reducible refine (Q2.out _).mono ?_)); rintro e w2 ⟨rfl, hB⟩; replace H := H.next hB; clear hB) | (go_at_call 15; (first | (with_reducible refine (Q3.out _).mono ?_)); rintro e w2 ⟨rfl, hB⟩; replace H := H.next hB; clear hB) | fail)
  (try simp only [Act.put, List.setIfInBounds_toArray, List.set_cons_succ, List.set_cons_zero])
  (refine wp_region_mem 144 [⟨21, 23, 99, ptrTo, tiC ti0, tiC u, undef⟩, ⟨22, 24, 99, ptrTo, tiC ti0, tiC y, undef⟩] (by kernel_rfl) (by kernel_rfl) (by rfl) (by kernel_rfl) (fun _ => by kernel_rfl) (by simp) H fun β wy hwy => ?_); have H0 := H; replace H := H.next hwy; (simp only [swapL, swapO, List.find?_cons, List.find?_nil, Nat.reduceBEq, Nat.reduceAdd]); (repeat (first | (go_big_quiet_want; refine gate_qload _ _ rfl ?_; refine quiet_mloadA 24 _ rfl _ rfl 0 H (tiC _) rfl (by decide +kernel) (by kernel_rfl) ?_; simp only [Act.put, List.setIfInBounds_toArray, List.set_cons_succ, List.set_cons_zero]; go_big_quiet_on) | (go_big_quiet_want; refine gate_qload _ _ rfl ?_; refine quiet_mload 24 _ rfl _ _ rfl 2 H _ (tiC _) rfl (by decide +kernel) (by kernel_rfl) (ta_tile _) ?_; simp only [Act.put, List.setIfInBounds_toArray, List.set_cons_succ, List.set_cons_zero]; go_big_quiet_on) | (go_big_quiet_want; refine gate_qload _ _ rfl ?_; refine quiet_mload 26 _ rfl _ _ rfl 1 H _ #[.int .u8 _, .bool _] rfl (by decide +kernel) (by kernel_rfl) (ta_lo _) ?_; simp only [Act.put, List.setIfInBounds_toArray, List.set_cons_succ, List.set_cons_zero]; go_big_quiet_on) | (go_big_quiet_want; refine gate_qload _ _ rfl ?_; refine quiet_mload 26 _ rfl _ _ rfl 1 H _ #[.int .u8 _, .bool _] rfl (by decide +kernel) (by kernel_rfl) (ta_hi _) ?_; simp only [Act.put, List.setIfInBounds_toArray, List.set_cons_succ, List.set_cons_zero]; go_big_quiet_on) | (go_big_quiet_want; refine gate_qload _ _ rfl ?_; refine quiet_mload 26 _ rfl _ _ rfl 2 H _ #[.int .u8 _, .bool _] rfl (by decide +kernel) (by kernel_rfl) (ta_lo _) ?_; simp only [Act.put, List.setIfInBounds_toArray, List.set_cons_succ, List.set_cons_zero]; go_big_quiet_on) | (go_big_quiet_want; refine gate_qload _ _ rfl ?_; refine quiet_mload 26 _ rfl _ _ rfl 2 H _ #[.int .u8 _, .bool _] rfl (by decide +kernel) (by kernel_rfl) (ta_hi _) ?_; simp only [Act.put, List.setIfInBounds_toArray, List.set_cons_succ, List.set_cons_zero]; go_big_quiet_on) | (go_big_quiet_want; refine gate_qload _ _ rfl ?_; refine quiet_mload1 5 _ rfl _ _ rfl 2 H _ (.int .u8 _) rfl rfl (by decide +kernel) ?_; simp only [Act.put, List.setIfInBounds_toArray, List.set_cons_succ, List.set_cons_zero]; go_big_quiet_on) | (go_big_quiet_want; refine gate_qload _ _ rfl ?_; refine quiet_mload1 4 _ rfl _ _ rfl 2 H _ (.bool _) rfl rfl (by decide +kernel) ?_; simp only [Act.put, List.setIfInBounds_toArray, List.set_cons_succ, List.set_cons_zero]; go_big_quiet_on) | (go_big_quiet_want; refine gate_qload _ _ rfl ?_; (first | (refine quiet_mloadA _ _ rfl _ rfl 0 H _ rfl (by decide +kernel) (by kernel_rfl) ?_) | (refine quiet_mloadA _ _ rfl _ rfl 1 H _ rfl (by decide +kernel) (by kernel_rfl) ?_) | (refine quiet_mloadA _ _ rfl _ rfl 2 H _ rfl (by decide +kernel) (by kernel_rfl) ?_) | (refine quiet_mload1 _ _ rfl _ _ rfl 0 H _ (.int _ _) rfl rfl (by decide +kernel) ?_) | (refine quiet_mload1 _ _ rfl _ _ rfl 1 H _ (.int _ _) rfl rfl (by decide +kernel) ?_) | (refine quiet_mload1 _ _ rfl _ _ rfl 2 H _ (.int _ _) rfl rfl (by decide +kernel) ?_) | (refine quiet_mload1 _ _ rfl _ _ rfl 0 H _ (.bool _) rfl rfl (by decide +kernel) ?_) | (refine quiet_mload1 _ _ rfl _ _ rfl 1 H _ (.bool _) rfl rfl (by decide +kernel) ?_) | (refine quiet_mload1 _ _ rfl _ _ rfl 2 H _ (.bool _) rfl rfl (by decide +kernel) ?_) | (refine quiet_mload1 _ _ rfl _ _ rfl 0 H _ (.pointer _) rfl rfl (by decide +kernel) ?_) | (refine quiet_mload1 _ _ rfl _ _ rfl 1 H _ (.pointer _) rfl rfl (by decide +kernel) ?_) | (refine quiet_mload1 _ _ rfl _ _ rfl 2 H _ (.pointer _) rfl rfl (by decide +kernel) ?_) | (refine quiet_mload1 _ _ rfl _ _ rfl 0 H _ (.string _) rfl rfl (by decide +kernel) ?_) | (refine quiet_mload1 _ _ rfl _ _ rfl 1 H _ (.string _) rfl rfl (by decide +kernel) ?_) | (refine quiet_mload1 _ _ rfl _ _ rfl 2 H _ (.string _) rfl rfl (by decide +kernel) ?_) | (refine quiet_mload1 _ _ rfl _ _ rfl 0 H _ (.slice _ _ _) rfl rfl (by decide +kernel) ?_) | (refine quiet_mload1 _ _ rfl _ _ rfl 1 H _ (.slice _ _ _) rfl rfl (by decide +kernel) ?_) | (refine quiet_mload1 _ _ rfl _ _ rfl 2 H _ (.slice _ _ _) rfl rfl (by decide +kernel) ?_)); simp only [Act.put, List.setIfInBounds_toArray, List.set_cons_succ, List.set_cons_zero]; go_big_quiet_on) | go_big_quiet_step ((first | (go_at_call 10; (first | (with_reducible exact Calls.regrown_of (Q4.out _)) | (with_reducible exact Calls.regrown_of (Q5.out _)))) | fail)))); (refine wpQuiet_nil ?_); (refine ⟨⟨⟨⟨_, alloc_til _ rfl _⟩, ⟨rfl, by kernel_rfl, rfl, by kernel_rfl, fun _ => rfl⟩, trivial⟩, ⟨⟨_, alloc_til _ rfl _⟩, ⟨rfl, by kernel_rfl, rfl, by kernel_rfl, fun _ => rfl⟩, trivial⟩, trivial⟩, fun wx HM => ?_⟩); clear H; have H := HM; clear HM H0 hwy; (dsimp only [boxesL, List.cons_append, List.nil_append] at H); (try dsimp only [ptrTo]); (try generalize hq0 : β 21 = q0 at *); (try generalize hq1 : β 22 = q1 at *)
  go_wp2_with fail
  (try simp only [Act.put, List.setIfInBounds_toArray, List.set_cons_succ, List.set_cons_zero])
  (refine wp_region_quiet_below (by kernel_rfl) (by kernel_rfl) ?_); (repeat (first | (go_big_quiet_want; refine gate_qload _ _ rfl ?_; refine quiet_mloadA 24 _ rfl _ rfl 0 H (tiC _) rfl (by decide +kernel) (by kernel_rfl) ?_; simp only [Act.put, List.setIfInBounds_toArray, List.set_cons_succ, List.set_cons_zero]; go_big_quiet_on) | (go_big_quiet_want; refine gate_qload _ _ rfl ?_; refine quiet_mloadA 24 _ rfl _ rfl 1 H (tiC _) rfl (by decide +kernel) (by kernel_rfl) ?_; simp only [Act.put, List.setIfInBounds_toArray, List.set_cons_succ, List.set_cons_zero]; go_big_quiet_on) | go_big_quiet_step ((first | (go_at_call 15; (first | (with_reducible exact Calls.regrown_of (Q6.out _)) | (with_reducible exact Calls.regrown_of (Q8.out _)))) | (go_at_call 16; (first | (with_reducible exact Calls.regrown_of (Q7.out _)))) | (go_at_call 12; (first | (with_reducible exact Calls.regrown_of (QA.out _)) | (with_reducible exact Calls.regrown_of (QB.out _)))) | (go_at_call 17; (with_reducible exact Calls.regrown_of (QW.out _))) | fail)))); (refine wpQuiet_nil ?_); intro _ hw'; obtain ⟨⟨dq, osq⟩, hw''⟩ := hw'; (subst hw''); replace H := H.next (below_regrown _ dq osq); generalize Go.Sort.grow (redrawn _ dq) osq = wq at *
  go_wp2
  go_ret
  exact ⟨rfl, H.toBelow⟩
set_option maxHeartbeats 8000000 in
theorem tal_tft (t : Ti) (lo hi tint x : BitVec 8) (s : Bool) (n : BitVec 16) (hz : secT t (w8 x % 8).toNat = true) (w : World) : Calls Try.prog 6 #[.agg (taC ⟨t, lo, true, hi, false, tint, s, x⟩), .int .u16 (w16 n)] w fun e w' => e = .returned (.bool true) ∧ Below w.heap.size w w' := by
  have K1 := fun wr => tdot_ct t x wr
  have K2 := fun wr => tdot_ct (mixT t n) x wr
  have A0 := mix_alike t n
  have K3 := fun wr => talike_ct t (mixT t n) wr
  rw [A0] at K3
  rw [mix_sec] at K2
  have D0 := mix_dot t n (w8 x % 8).toNat
  generalize (w8 x % 8).toNat = k at *
  have K4 := fun wr => tload_ct t lo hi tint s true false wr
  have K5 := fun wr => tload_ct (mixT t n) (xlB lo n) (hi) tint s true false wr
  have A1 := load_alike t (mixT t n) lo hi (xlB lo n) (hi) tint (s || true || false) A0 (by intro h; first | rfl | simp at h) (by intro h; first | rfl | simp at h)
  obtain ⟨u, hu⟩ : ∃ u, loadT t lo hi tint (s || true || false) = u := ⟨_, rfl⟩
  obtain ⟨y, hy⟩ : ∃ y, loadT (mixT t n) (xlB lo n) (hi) tint (s || true || false) = y := ⟨_, rfl⟩
  rw [hu] at K4 A1
  rw [hy] at K5 A1
  have A2 := shift_alike u y A1
  have K6 := fun wr => talike_ct u y wr
  have K7 := fun wr => ralike14_ct u y wr
  have K8 := fun wr => talike_ct (shiftT u) (shiftT y) wr
  rw [A1] at K6 K7
  rw [A2] at K8
  have KA := fun wr => tshift_ct u wr
  have KB := fun wr => tshift_ct y wr
  generalize shiftT u = u2 at *
  generalize shiftT y = y2 at *
  rw [hz] at K1 K2 D0
  obtain ⟨d1, hd1⟩ : ∃ d, dotT t k = d := ⟨_, rfl⟩
  obtain ⟨d2, hd2⟩ : ∃ d, dotT (mixT t n) k = d := ⟨_, rfl⟩
  rw [hd1] at K1 D0
  rw [hd2] at K2 D0
  (first | (have D1 := D0 rfl; rw [D1] at K2; clear D1) | skip)
  clear D0
  obtain ⟨m, hm⟩ : ∃ m, mixT t n = m := ⟨_, rfl⟩
  rw [hm] at K2 K3 K5
  have nl := w16_lt n
  have n0 := nl.1
  have n1 := nl.2
  have Q1 := Lib.hid K1
  clear K1
  have Q2 := Lib.hid K2
  clear K2
  have Q3 := Lib.hid K3
  clear K3
  have Q4 := Lib.hid K4
  clear K4
  have Q5 := Lib.hid K5
  clear K5
  have Q6 := Lib.hid K6
  clear K6
  have Q7 := Lib.hid K7
  clear K7
  have Q8 := Lib.hid K8
  clear K8
  have QA := Lib.hid KA
  clear KA
  have QB := Lib.hid KB
  clear KB
  have QW := Lib.hid (fun wr => awake14_ct wr)
  have HM := Lib.hid (show (⟨mixB t.lo n t.s, mixB t.hi n t.s, mixB t.one n t.s, mixB t.two n t.s, t.s⟩ : Ti) = m from hm)
  clear A0 A1 A2 hu hy hz hd1 hd2 hm nl n0 n1
  have H := Mem.start w
  have ML : True := trivial
  have MH : True := trivial
  have M1 : True := trivial
  go_enter Try.func6, Try.ntmps6
  go_wp2_with (first | (clear M1; refine wpList_mboxA rfl _ _ rfl H _ rfl ?_; clear H; intro Rq w1 _ H) | fail)
  (try simp only [Act.put, List.setIfInBounds_toArray, List.set_cons_succ, List.set_cons_zero])
  (refine wp_region_mem 144 [⟨3, 5, 99, ptrTo, tiC ti0, tiC t, undef⟩, ⟨4, 6, 99, ptrTo, taC taZ, taC ⟨t, lo, true, hi, false, tint, s, x⟩, undef⟩] (by kernel_rfl) (by kernel_rfl) (by rfl) (by kernel_rfl) (fun _ => by kernel_rfl) (by simp) H fun β wy hwy => ?_); have H0 := H; replace H := H.next hwy; (simp only [swapL, swapO, List.find?_cons, List.find?_nil, Nat.reduceBEq, Nat.reduceAdd]); (repeat (first | (go_big_quiet_want; refine gate_qload _ _ rfl ?_; refine quiet_mload 24 _ rfl _ _ rfl 0 H _ (tiC _) rfl (by decide +kernel) (by kernel_rfl) (ta_tile _) ?_; simp only [Act.put, List.setIfInBounds_toArray, List.set_cons_succ, List.set_cons_zero]; go_big_quiet_on) | (go_big_quiet_want; refine gate_qload _ _ rfl ?_; refine quiet_mloadA 28 _ rfl _ rfl 0 H (taC _) rfl (by decide +kernel) (by kernel_rfl) ?_; simp only [Act.put, List.setIfInBounds_toArray, List.set_cons_succ, List.set_cons_zero]; go_big_quiet_on) | (go_big_quiet_want; refine gate_qload _ _ rfl ?_; (first | (refine quiet_mloadA _ _ rfl _ rfl 0 H _ rfl (by decide +kernel) (by kernel_rfl) ?_) | (refine quiet_mload1 _ _ rfl _ _ rfl 0 H _ (.int _ _) rfl rfl (by decide +kernel) ?_) | (refine quiet_mload1 _ _ rfl _ _ rfl 0 H _ (.bool _) rfl rfl (by decide +kernel) ?_) | (refine quiet_mload1 _ _ rfl _ _ rfl 0 H _ (.pointer _) rfl rfl (by decide +kernel) ?_) | (refine quiet_mload1 _ _ rfl _ _ rfl 0 H _ (.string _) rfl rfl (by decide +kernel) ?_) | (refine quiet_mload1 _ _ rfl _ _ rfl 0 H _ (.slice _ _ _) rfl rfl (by decide +kernel) ?_)); simp only [Act.put, List.setIfInBounds_toArray, List.set_cons_succ, List.set_cons_zero]; go_big_quiet_on) | go_big_quiet_step (fail))); (refine wpQuiet_nil ?_); (refine ⟨⟨⟨⟨_, alloc_til _ rfl _⟩, ⟨rfl, by kernel_rfl, rfl, by kernel_rfl, fun _ => rfl⟩, trivial⟩, ⟨⟨_, run_alloc_ta _ rfl _⟩, ⟨rfl, by kernel_rfl, rfl, by kernel_rfl, fun _ => rfl⟩, trivial⟩, trivial⟩, fun wx HM => ?_⟩); clear H; have H := HM; clear HM H0 hwy; (dsimp only [boxesL, List.cons_append, List.nil_append] at H); (try dsimp only [ptrTo]); (try generalize hq0 : β 3 = q0 at *); (try generalize hq1 : β 4 = q1 at *)
  go_wp2_with (first | (refine gate_load _ _ rfl ?_; refine wpList_mload1 rfl 22 _ rfl _ _ rfl 0 H _ (.int .u16 _) rfl rfl (by decide +kernel) ?_) | (refine gate_store _ _ _ rfl ?_; refine wpList_mstore rfl 22 _ _ rfl rfl _ _ rfl 0 H _ _ rfl (.int .u16 _) rfl (by kernel_rfl) (of_decide_eq_true (by kernel_rfl)) (by kernel_rfl) (ti_I (mix_raw _ _ _) rfl) ?_; clear H; intro w1 H; simp only [List.set_cons_zero, List.set_cons_succ] at H) | (refine gate_load _ _ rfl ?_; refine wpList_mload1 rfl 4 _ rfl _ _ rfl 2 H _ (.bool _) rfl rfl (by decide +kernel) ?_) | (refine gate_load _ _ rfl ?_; refine wpList_mload1 rfl 5 _ rfl _ _ rfl 1 H _ (.int .u8 _) rfl rfl (by decide +kernel) ?_) | (clear ML; (refine gate_store _ _ _ rfl ?_; refine wpList_mstore rfl 5 _ _ rfl rfl _ _ rfl 1 H _ _ rfl (.int .u8 _) rfl (by kernel_rfl) (of_decide_eq_true (by kernel_rfl)) (by kernel_rfl) (ta_setLo (lowB_raw _ _)) ?_; clear H; intro w1 H; simp only [List.set_cons_zero, List.set_cons_succ] at H)) | (refine gate_load _ _ rfl ?_; refine wpList_mload rfl 24 _ rfl _ _ rfl 2 H _ (tiC _) rfl (by decide +kernel) (by kernel_rfl) (ta_tile _) ?_) | (refine gate_load _ _ rfl ?_; refine wpList_mload1 rfl 5 _ rfl _ _ rfl 2 H _ (.int .u8 _) rfl rfl (by decide +kernel) ?_) | (refine gate_load _ _ rfl ?_; have hmm := HM.out; rw [hmm] at H; clear hmm HM; refine wpList_mloadA rfl 24 _ rfl _ rfl 0 H (tiC _) rfl (by decide +kernel) (by kernel_rfl) ?_) | (refine gate_load _ _ rfl ?_; refine wpList_mloadA rfl 24 _ rfl _ rfl 0 H (tiC _) rfl (by decide +kernel) (by kernel_rfl) ?_) | (go_at_call 8; (first | (with_reducible refine (Q1.out _).mono ?_) | (with_reducible refine (Q2.out _).mono ?_)); rintro e w2 ⟨rfl, hB⟩; replace H := H.next hB; clear hB) | (go_at_call 15; (first | (with_reducible refine (Q3.out _).mono ?_)); rintro e w2 ⟨rfl, hB⟩; replace H := H.next hB; clear hB) | fail)
  (try simp only [Act.put, List.setIfInBounds_toArray, List.set_cons_succ, List.set_cons_zero])
  (refine wp_region_mem 144 [⟨21, 23, 99, ptrTo, tiC ti0, tiC u, undef⟩, ⟨22, 24, 99, ptrTo, tiC ti0, tiC y, undef⟩] (by kernel_rfl) (by kernel_rfl) (by rfl) (by kernel_rfl) (fun _ => by kernel_rfl) (by simp) H fun β wy hwy => ?_); have H0 := H; replace H := H.next hwy; (simp only [swapL, swapO, List.find?_cons, List.find?_nil, Nat.reduceBEq, Nat.reduceAdd]); (repeat (first | (go_big_quiet_want; refine gate_qload _ _ rfl ?_; refine quiet_mloadA 24 _ rfl _ rfl 0 H (tiC _) rfl (by decide +kernel) (by kernel_rfl) ?_; simp only [Act.put, List.setIfInBounds_toArray, List.set_cons_succ, List.set_cons_zero]; go_big_quiet_on) | (go_big_quiet_want; refine gate_qload _ _ rfl ?_; refine quiet_mload 24 _ rfl _ _ rfl 2 H _ (tiC _) rfl (by decide +kernel) (by kernel_rfl) (ta_tile _) ?_; simp only [Act.put, List.setIfInBounds_toArray, List.set_cons_succ, List.set_cons_zero]; go_big_quiet_on) | (go_big_quiet_want; refine gate_qload _ _ rfl ?_; refine quiet_mload 26 _ rfl _ _ rfl 1 H _ #[.int .u8 _, .bool _] rfl (by decide +kernel) (by kernel_rfl) (ta_lo _) ?_; simp only [Act.put, List.setIfInBounds_toArray, List.set_cons_succ, List.set_cons_zero]; go_big_quiet_on) | (go_big_quiet_want; refine gate_qload _ _ rfl ?_; refine quiet_mload 26 _ rfl _ _ rfl 1 H _ #[.int .u8 _, .bool _] rfl (by decide +kernel) (by kernel_rfl) (ta_hi _) ?_; simp only [Act.put, List.setIfInBounds_toArray, List.set_cons_succ, List.set_cons_zero]; go_big_quiet_on) | (go_big_quiet_want; refine gate_qload _ _ rfl ?_; refine quiet_mload 26 _ rfl _ _ rfl 2 H _ #[.int .u8 _, .bool _] rfl (by decide +kernel) (by kernel_rfl) (ta_lo _) ?_; simp only [Act.put, List.setIfInBounds_toArray, List.set_cons_succ, List.set_cons_zero]; go_big_quiet_on) | (go_big_quiet_want; refine gate_qload _ _ rfl ?_; refine quiet_mload 26 _ rfl _ _ rfl 2 H _ #[.int .u8 _, .bool _] rfl (by decide +kernel) (by kernel_rfl) (ta_hi _) ?_; simp only [Act.put, List.setIfInBounds_toArray, List.set_cons_succ, List.set_cons_zero]; go_big_quiet_on) | (go_big_quiet_want; refine gate_qload _ _ rfl ?_; refine quiet_mload1 5 _ rfl _ _ rfl 2 H _ (.int .u8 _) rfl rfl (by decide +kernel) ?_; simp only [Act.put, List.setIfInBounds_toArray, List.set_cons_succ, List.set_cons_zero]; go_big_quiet_on) | (go_big_quiet_want; refine gate_qload _ _ rfl ?_; refine quiet_mload1 4 _ rfl _ _ rfl 2 H _ (.bool _) rfl rfl (by decide +kernel) ?_; simp only [Act.put, List.setIfInBounds_toArray, List.set_cons_succ, List.set_cons_zero]; go_big_quiet_on) | (go_big_quiet_want; refine gate_qload _ _ rfl ?_; (first | (refine quiet_mloadA _ _ rfl _ rfl 0 H _ rfl (by decide +kernel) (by kernel_rfl) ?_) | (refine quiet_mloadA _ _ rfl _ rfl 1 H _ rfl (by decide +kernel) (by kernel_rfl) ?_) | (refine quiet_mloadA _ _ rfl _ rfl 2 H _ rfl (by decide +kernel) (by kernel_rfl) ?_) | (refine quiet_mload1 _ _ rfl _ _ rfl 0 H _ (.int _ _) rfl rfl (by decide +kernel) ?_) | (refine quiet_mload1 _ _ rfl _ _ rfl 1 H _ (.int _ _) rfl rfl (by decide +kernel) ?_) | (refine quiet_mload1 _ _ rfl _ _ rfl 2 H _ (.int _ _) rfl rfl (by decide +kernel) ?_) | (refine quiet_mload1 _ _ rfl _ _ rfl 0 H _ (.bool _) rfl rfl (by decide +kernel) ?_) | (refine quiet_mload1 _ _ rfl _ _ rfl 1 H _ (.bool _) rfl rfl (by decide +kernel) ?_) | (refine quiet_mload1 _ _ rfl _ _ rfl 2 H _ (.bool _) rfl rfl (by decide +kernel) ?_) | (refine quiet_mload1 _ _ rfl _ _ rfl 0 H _ (.pointer _) rfl rfl (by decide +kernel) ?_) | (refine quiet_mload1 _ _ rfl _ _ rfl 1 H _ (.pointer _) rfl rfl (by decide +kernel) ?_) | (refine quiet_mload1 _ _ rfl _ _ rfl 2 H _ (.pointer _) rfl rfl (by decide +kernel) ?_) | (refine quiet_mload1 _ _ rfl _ _ rfl 0 H _ (.string _) rfl rfl (by decide +kernel) ?_) | (refine quiet_mload1 _ _ rfl _ _ rfl 1 H _ (.string _) rfl rfl (by decide +kernel) ?_) | (refine quiet_mload1 _ _ rfl _ _ rfl 2 H _ (.string _) rfl rfl (by decide +kernel) ?_) | (refine quiet_mload1 _ _ rfl _ _ rfl 0 H _ (.slice _ _ _) rfl rfl (by decide +kernel) ?_) | (refine quiet_mload1 _ _ rfl _ _ rfl 1 H _ (.slice _ _ _) rfl rfl (by decide +kernel) ?_) | (refine quiet_mload1 _ _ rfl _ _ rfl 2 H _ (.slice _ _ _) rfl rfl (by decide +kernel) ?_)); simp only [Act.put, List.setIfInBounds_toArray, List.set_cons_succ, List.set_cons_zero]; go_big_quiet_on) | go_big_quiet_step ((first | (go_at_call 10; (first | (with_reducible exact Calls.regrown_of (Q4.out _)) | (with_reducible exact Calls.regrown_of (Q5.out _)))) | fail)))); (refine wpQuiet_nil ?_); (refine ⟨⟨⟨⟨_, alloc_til _ rfl _⟩, ⟨rfl, by kernel_rfl, rfl, by kernel_rfl, fun _ => rfl⟩, trivial⟩, ⟨⟨_, alloc_til _ rfl _⟩, ⟨rfl, by kernel_rfl, rfl, by kernel_rfl, fun _ => rfl⟩, trivial⟩, trivial⟩, fun wx HM => ?_⟩); clear H; have H := HM; clear HM H0 hwy; (dsimp only [boxesL, List.cons_append, List.nil_append] at H); (try dsimp only [ptrTo]); (try generalize hq0 : β 21 = q0 at *); (try generalize hq1 : β 22 = q1 at *)
  go_wp2_with fail
  (try simp only [Act.put, List.setIfInBounds_toArray, List.set_cons_succ, List.set_cons_zero])
  (refine wp_region_quiet_below (by kernel_rfl) (by kernel_rfl) ?_); (repeat (first | (go_big_quiet_want; refine gate_qload _ _ rfl ?_; refine quiet_mloadA 24 _ rfl _ rfl 0 H (tiC _) rfl (by decide +kernel) (by kernel_rfl) ?_; simp only [Act.put, List.setIfInBounds_toArray, List.set_cons_succ, List.set_cons_zero]; go_big_quiet_on) | (go_big_quiet_want; refine gate_qload _ _ rfl ?_; refine quiet_mloadA 24 _ rfl _ rfl 1 H (tiC _) rfl (by decide +kernel) (by kernel_rfl) ?_; simp only [Act.put, List.setIfInBounds_toArray, List.set_cons_succ, List.set_cons_zero]; go_big_quiet_on) | go_big_quiet_step ((first | (go_at_call 15; (first | (with_reducible exact Calls.regrown_of (Q6.out _)) | (with_reducible exact Calls.regrown_of (Q8.out _)))) | (go_at_call 16; (first | (with_reducible exact Calls.regrown_of (Q7.out _)))) | (go_at_call 12; (first | (with_reducible exact Calls.regrown_of (QA.out _)) | (with_reducible exact Calls.regrown_of (QB.out _)))) | (go_at_call 17; (with_reducible exact Calls.regrown_of (QW.out _))) | fail)))); (refine wpQuiet_nil ?_); intro _ hw'; obtain ⟨⟨dq, osq⟩, hw''⟩ := hw'; (subst hw''); replace H := H.next (below_regrown _ dq osq); generalize Go.Sort.grow (redrawn _ dq) osq = wq at *
  go_wp2
  go_ret
  exact ⟨rfl, H.toBelow⟩
set_option maxHeartbeats 8000000 in
theorem tal_tff (t : Ti) (lo hi tint x : BitVec 8) (s : Bool) (n : BitVec 16) (hz : secT t (w8 x % 8).toNat = false) (w : World) : Calls Try.prog 6 #[.agg (taC ⟨t, lo, true, hi, false, tint, s, x⟩), .int .u16 (w16 n)] w fun e w' => e = .returned (.bool true) ∧ Below w.heap.size w w' := by
  have K1 := fun wr => tdot_ct t x wr
  have K2 := fun wr => tdot_ct (mixT t n) x wr
  have A0 := mix_alike t n
  have K3 := fun wr => talike_ct t (mixT t n) wr
  rw [A0] at K3
  rw [mix_sec] at K2
  have D0 := mix_dot t n (w8 x % 8).toNat
  generalize (w8 x % 8).toNat = k at *
  have K4 := fun wr => tload_ct t lo hi tint s true false wr
  have K5 := fun wr => tload_ct (mixT t n) (xlB lo n) (hi) tint s true false wr
  have A1 := load_alike t (mixT t n) lo hi (xlB lo n) (hi) tint (s || true || false) A0 (by intro h; first | rfl | simp at h) (by intro h; first | rfl | simp at h)
  obtain ⟨u, hu⟩ : ∃ u, loadT t lo hi tint (s || true || false) = u := ⟨_, rfl⟩
  obtain ⟨y, hy⟩ : ∃ y, loadT (mixT t n) (xlB lo n) (hi) tint (s || true || false) = y := ⟨_, rfl⟩
  rw [hu] at K4 A1
  rw [hy] at K5 A1
  have A2 := shift_alike u y A1
  have K6 := fun wr => talike_ct u y wr
  have K7 := fun wr => ralike14_ct u y wr
  have K8 := fun wr => talike_ct (shiftT u) (shiftT y) wr
  rw [A1] at K6 K7
  rw [A2] at K8
  have KA := fun wr => tshift_ct u wr
  have KB := fun wr => tshift_ct y wr
  generalize shiftT u = u2 at *
  generalize shiftT y = y2 at *
  rw [hz] at K1 K2 D0
  obtain ⟨d1, hd1⟩ : ∃ d, dotT t k = d := ⟨_, rfl⟩
  obtain ⟨d2, hd2⟩ : ∃ d, dotT (mixT t n) k = d := ⟨_, rfl⟩
  rw [hd1] at K1 D0
  rw [hd2] at K2 D0
  (first | (have D1 := D0 rfl; rw [D1] at K2; clear D1) | skip)
  clear D0
  obtain ⟨m, hm⟩ : ∃ m, mixT t n = m := ⟨_, rfl⟩
  rw [hm] at K2 K3 K5
  have nl := w16_lt n
  have n0 := nl.1
  have n1 := nl.2
  have Q1 := Lib.hid K1
  clear K1
  have Q2 := Lib.hid K2
  clear K2
  have Q3 := Lib.hid K3
  clear K3
  have Q4 := Lib.hid K4
  clear K4
  have Q5 := Lib.hid K5
  clear K5
  have Q6 := Lib.hid K6
  clear K6
  have Q7 := Lib.hid K7
  clear K7
  have Q8 := Lib.hid K8
  clear K8
  have QA := Lib.hid KA
  clear KA
  have QB := Lib.hid KB
  clear KB
  have QW := Lib.hid (fun wr => awake14_ct wr)
  have HM := Lib.hid (show (⟨mixB t.lo n t.s, mixB t.hi n t.s, mixB t.one n t.s, mixB t.two n t.s, t.s⟩ : Ti) = m from hm)
  clear A0 A1 A2 hu hy hz hd1 hd2 hm nl n0 n1
  have H := Mem.start w
  have ML : True := trivial
  have MH : True := trivial
  have M1 : True := trivial
  go_enter Try.func6, Try.ntmps6
  go_wp2_with (first | (clear M1; refine wpList_mboxA rfl _ _ rfl H _ rfl ?_; clear H; intro Rq w1 _ H) | fail)
  (try simp only [Act.put, List.setIfInBounds_toArray, List.set_cons_succ, List.set_cons_zero])
  (refine wp_region_mem 144 [⟨3, 5, 99, ptrTo, tiC ti0, tiC t, undef⟩, ⟨4, 6, 99, ptrTo, taC taZ, taC ⟨t, lo, true, hi, false, tint, s, x⟩, undef⟩] (by kernel_rfl) (by kernel_rfl) (by rfl) (by kernel_rfl) (fun _ => by kernel_rfl) (by simp) H fun β wy hwy => ?_); have H0 := H; replace H := H.next hwy; (simp only [swapL, swapO, List.find?_cons, List.find?_nil, Nat.reduceBEq, Nat.reduceAdd]); (repeat (first | (go_big_quiet_want; refine gate_qload _ _ rfl ?_; refine quiet_mload 24 _ rfl _ _ rfl 0 H _ (tiC _) rfl (by decide +kernel) (by kernel_rfl) (ta_tile _) ?_; simp only [Act.put, List.setIfInBounds_toArray, List.set_cons_succ, List.set_cons_zero]; go_big_quiet_on) | (go_big_quiet_want; refine gate_qload _ _ rfl ?_; refine quiet_mloadA 28 _ rfl _ rfl 0 H (taC _) rfl (by decide +kernel) (by kernel_rfl) ?_; simp only [Act.put, List.setIfInBounds_toArray, List.set_cons_succ, List.set_cons_zero]; go_big_quiet_on) | (go_big_quiet_want; refine gate_qload _ _ rfl ?_; (first | (refine quiet_mloadA _ _ rfl _ rfl 0 H _ rfl (by decide +kernel) (by kernel_rfl) ?_) | (refine quiet_mload1 _ _ rfl _ _ rfl 0 H _ (.int _ _) rfl rfl (by decide +kernel) ?_) | (refine quiet_mload1 _ _ rfl _ _ rfl 0 H _ (.bool _) rfl rfl (by decide +kernel) ?_) | (refine quiet_mload1 _ _ rfl _ _ rfl 0 H _ (.pointer _) rfl rfl (by decide +kernel) ?_) | (refine quiet_mload1 _ _ rfl _ _ rfl 0 H _ (.string _) rfl rfl (by decide +kernel) ?_) | (refine quiet_mload1 _ _ rfl _ _ rfl 0 H _ (.slice _ _ _) rfl rfl (by decide +kernel) ?_)); simp only [Act.put, List.setIfInBounds_toArray, List.set_cons_succ, List.set_cons_zero]; go_big_quiet_on) | go_big_quiet_step (fail))); (refine wpQuiet_nil ?_); (refine ⟨⟨⟨⟨_, alloc_til _ rfl _⟩, ⟨rfl, by kernel_rfl, rfl, by kernel_rfl, fun _ => rfl⟩, trivial⟩, ⟨⟨_, run_alloc_ta _ rfl _⟩, ⟨rfl, by kernel_rfl, rfl, by kernel_rfl, fun _ => rfl⟩, trivial⟩, trivial⟩, fun wx HM => ?_⟩); clear H; have H := HM; clear HM H0 hwy; (dsimp only [boxesL, List.cons_append, List.nil_append] at H); (try dsimp only [ptrTo]); (try generalize hq0 : β 3 = q0 at *); (try generalize hq1 : β 4 = q1 at *)
  go_wp2_with (first | (refine gate_load _ _ rfl ?_; refine wpList_mload1 rfl 22 _ rfl _ _ rfl 0 H _ (.int .u16 _) rfl rfl (by decide +kernel) ?_) | (refine gate_store _ _ _ rfl ?_; refine wpList_mstore rfl 22 _ _ rfl rfl _ _ rfl 0 H _ _ rfl (.int .u16 _) rfl (by kernel_rfl) (of_decide_eq_true (by kernel_rfl)) (by kernel_rfl) (ti_I (mix_raw _ _ _) rfl) ?_; clear H; intro w1 H; simp only [List.set_cons_zero, List.set_cons_succ] at H) | (refine gate_load _ _ rfl ?_; refine wpList_mload1 rfl 4 _ rfl _ _ rfl 2 H _ (.bool _) rfl rfl (by decide +kernel) ?_) | (refine gate_load _ _ rfl ?_; refine wpList_mload1 rfl 5 _ rfl _ _ rfl 1 H _ (.int .u8 _) rfl rfl (by decide +kernel) ?_) | (clear ML; (refine gate_store _ _ _ rfl ?_; refine wpList_mstore rfl 5 _ _ rfl rfl _ _ rfl 1 H _ _ rfl (.int .u8 _) rfl (by kernel_rfl) (of_decide_eq_true (by kernel_rfl)) (by kernel_rfl) (ta_setLo (lowB_raw _ _)) ?_; clear H; intro w1 H; simp only [List.set_cons_zero, List.set_cons_succ] at H)) | (refine gate_load _ _ rfl ?_; refine wpList_mload rfl 24 _ rfl _ _ rfl 2 H _ (tiC _) rfl (by decide +kernel) (by kernel_rfl) (ta_tile _) ?_) | (refine gate_load _ _ rfl ?_; refine wpList_mload1 rfl 5 _ rfl _ _ rfl 2 H _ (.int .u8 _) rfl rfl (by decide +kernel) ?_) | (refine gate_load _ _ rfl ?_; have hmm := HM.out; rw [hmm] at H; clear hmm HM; refine wpList_mloadA rfl 24 _ rfl _ rfl 0 H (tiC _) rfl (by decide +kernel) (by kernel_rfl) ?_) | (refine gate_load _ _ rfl ?_; refine wpList_mloadA rfl 24 _ rfl _ rfl 0 H (tiC _) rfl (by decide +kernel) (by kernel_rfl) ?_) | (go_at_call 8; (first | (with_reducible refine (Q1.out _).mono ?_) | (with_reducible refine (Q2.out _).mono ?_)); rintro e w2 ⟨rfl, hB⟩; replace H := H.next hB; clear hB) | (go_at_call 15; (first | (with_reducible refine (Q3.out _).mono ?_)); rintro e w2 ⟨rfl, hB⟩; replace H := H.next hB; clear hB) | fail)
  (try simp only [Act.put, List.setIfInBounds_toArray, List.set_cons_succ, List.set_cons_zero])
  (refine wp_region_mem 144 [⟨21, 23, 99, ptrTo, tiC ti0, tiC u, undef⟩, ⟨22, 24, 99, ptrTo, tiC ti0, tiC y, undef⟩] (by kernel_rfl) (by kernel_rfl) (by rfl) (by kernel_rfl) (fun _ => by kernel_rfl) (by simp) H fun β wy hwy => ?_); have H0 := H; replace H := H.next hwy; (simp only [swapL, swapO, List.find?_cons, List.find?_nil, Nat.reduceBEq, Nat.reduceAdd]); (repeat (first | (go_big_quiet_want; refine gate_qload _ _ rfl ?_; refine quiet_mloadA 24 _ rfl _ rfl 0 H (tiC _) rfl (by decide +kernel) (by kernel_rfl) ?_; simp only [Act.put, List.setIfInBounds_toArray, List.set_cons_succ, List.set_cons_zero]; go_big_quiet_on) | (go_big_quiet_want; refine gate_qload _ _ rfl ?_; refine quiet_mload 24 _ rfl _ _ rfl 2 H _ (tiC _) rfl (by decide +kernel) (by kernel_rfl) (ta_tile _) ?_; simp only [Act.put, List.setIfInBounds_toArray, List.set_cons_succ, List.set_cons_zero]; go_big_quiet_on) | (go_big_quiet_want; refine gate_qload _ _ rfl ?_; refine quiet_mload 26 _ rfl _ _ rfl 1 H _ #[.int .u8 _, .bool _] rfl (by decide +kernel) (by kernel_rfl) (ta_lo _) ?_; simp only [Act.put, List.setIfInBounds_toArray, List.set_cons_succ, List.set_cons_zero]; go_big_quiet_on) | (go_big_quiet_want; refine gate_qload _ _ rfl ?_; refine quiet_mload 26 _ rfl _ _ rfl 1 H _ #[.int .u8 _, .bool _] rfl (by decide +kernel) (by kernel_rfl) (ta_hi _) ?_; simp only [Act.put, List.setIfInBounds_toArray, List.set_cons_succ, List.set_cons_zero]; go_big_quiet_on) | (go_big_quiet_want; refine gate_qload _ _ rfl ?_; refine quiet_mload 26 _ rfl _ _ rfl 2 H _ #[.int .u8 _, .bool _] rfl (by decide +kernel) (by kernel_rfl) (ta_lo _) ?_; simp only [Act.put, List.setIfInBounds_toArray, List.set_cons_succ, List.set_cons_zero]; go_big_quiet_on) | (go_big_quiet_want; refine gate_qload _ _ rfl ?_; refine quiet_mload 26 _ rfl _ _ rfl 2 H _ #[.int .u8 _, .bool _] rfl (by decide +kernel) (by kernel_rfl) (ta_hi _) ?_; simp only [Act.put, List.setIfInBounds_toArray, List.set_cons_succ, List.set_cons_zero]; go_big_quiet_on) | (go_big_quiet_want; refine gate_qload _ _ rfl ?_; refine quiet_mload1 5 _ rfl _ _ rfl 2 H _ (.int .u8 _) rfl rfl (by decide +kernel) ?_; simp only [Act.put, List.setIfInBounds_toArray, List.set_cons_succ, List.set_cons_zero]; go_big_quiet_on) | (go_big_quiet_want; refine gate_qload _ _ rfl ?_; refine quiet_mload1 4 _ rfl _ _ rfl 2 H _ (.bool _) rfl rfl (by decide +kernel) ?_; simp only [Act.put, List.setIfInBounds_toArray, List.set_cons_succ, List.set_cons_zero]; go_big_quiet_on) | (go_big_quiet_want; refine gate_qload _ _ rfl ?_; (first | (refine quiet_mloadA _ _ rfl _ rfl 0 H _ rfl (by decide +kernel) (by kernel_rfl) ?_) | (refine quiet_mloadA _ _ rfl _ rfl 1 H _ rfl (by decide +kernel) (by kernel_rfl) ?_) | (refine quiet_mloadA _ _ rfl _ rfl 2 H _ rfl (by decide +kernel) (by kernel_rfl) ?_) | (refine quiet_mload1 _ _ rfl _ _ rfl 0 H _ (.int _ _) rfl rfl (by decide +kernel) ?_) | (refine quiet_mload1 _ _ rfl _ _ rfl 1 H _ (.int _ _) rfl rfl (by decide +kernel) ?_) | (refine quiet_mload1 _ _ rfl _ _ rfl 2 H _ (.int _ _) rfl rfl (by decide +kernel) ?_) | (refine quiet_mload1 _ _ rfl _ _ rfl 0 H _ (.bool _) rfl rfl (by decide +kernel) ?_) | (refine quiet_mload1 _ _ rfl _ _ rfl 1 H _ (.bool _) rfl rfl (by decide +kernel) ?_) | (refine quiet_mload1 _ _ rfl _ _ rfl 2 H _ (.bool _) rfl rfl (by decide +kernel) ?_) | (refine quiet_mload1 _ _ rfl _ _ rfl 0 H _ (.pointer _) rfl rfl (by decide +kernel) ?_) | (refine quiet_mload1 _ _ rfl _ _ rfl 1 H _ (.pointer _) rfl rfl (by decide +kernel) ?_) | (refine quiet_mload1 _ _ rfl _ _ rfl 2 H _ (.pointer _) rfl rfl (by decide +kernel) ?_) | (refine quiet_mload1 _ _ rfl _ _ rfl 0 H _ (.string _) rfl rfl (by decide +kernel) ?_) | (refine quiet_mload1 _ _ rfl _ _ rfl 1 H _ (.string _) rfl rfl (by decide +kernel) ?_) | (refine quiet_mload1 _ _ rfl _ _ rfl 2 H _ (.string _) rfl rfl (by decide +kernel) ?_) | (refine quiet_mload1 _ _ rfl _ _ rfl 0 H _ (.slice _ _ _) rfl rfl (by decide +kernel) ?_) | (refine quiet_mload1 _ _ rfl _ _ rfl 1 H _ (.slice _ _ _) rfl rfl (by decide +kernel) ?_) | (refine quiet_mload1 _ _ rfl _ _ rfl 2 H _ (.slice _ _ _) rfl rfl (by decide +kernel) ?_)); simp only [Act.put, List.setIfInBounds_toArray, List.set_cons_succ, List.set_cons_zero]; go_big_quiet_on) | go_big_quiet_step ((first | (go_at_call 10; (first | (with_reducible exact Calls.regrown_of (Q4.out _)) | (with_reducible exact Calls.regrown_of (Q5.out _)))) | fail)))); (refine wpQuiet_nil ?_); (refine ⟨⟨⟨⟨_, alloc_til _ rfl _⟩, ⟨rfl, by kernel_rfl, rfl, by kernel_rfl, fun _ => rfl⟩, trivial⟩, ⟨⟨_, alloc_til _ rfl _⟩, ⟨rfl, by kernel_rfl, rfl, by kernel_rfl, fun _ => rfl⟩, trivial⟩, trivial⟩, fun wx HM => ?_⟩); clear H; have H := HM; clear HM H0 hwy; (dsimp only [boxesL, List.cons_append, List.nil_append] at H); (try dsimp only [ptrTo]); (try generalize hq0 : β 21 = q0 at *); (try generalize hq1 : β 22 = q1 at *)
  go_wp2_with fail
  (try simp only [Act.put, List.setIfInBounds_toArray, List.set_cons_succ, List.set_cons_zero])
  (refine wp_region_quiet_below (by kernel_rfl) (by kernel_rfl) ?_); (repeat (first | (go_big_quiet_want; refine gate_qload _ _ rfl ?_; refine quiet_mloadA 24 _ rfl _ rfl 0 H (tiC _) rfl (by decide +kernel) (by kernel_rfl) ?_; simp only [Act.put, List.setIfInBounds_toArray, List.set_cons_succ, List.set_cons_zero]; go_big_quiet_on) | (go_big_quiet_want; refine gate_qload _ _ rfl ?_; refine quiet_mloadA 24 _ rfl _ rfl 1 H (tiC _) rfl (by decide +kernel) (by kernel_rfl) ?_; simp only [Act.put, List.setIfInBounds_toArray, List.set_cons_succ, List.set_cons_zero]; go_big_quiet_on) | go_big_quiet_step ((first | (go_at_call 15; (first | (with_reducible exact Calls.regrown_of (Q6.out _)) | (with_reducible exact Calls.regrown_of (Q8.out _)))) | (go_at_call 16; (first | (with_reducible exact Calls.regrown_of (Q7.out _)))) | (go_at_call 12; (first | (with_reducible exact Calls.regrown_of (QA.out _)) | (with_reducible exact Calls.regrown_of (QB.out _)))) | (go_at_call 17; (with_reducible exact Calls.regrown_of (QW.out _))) | fail)))); (refine wpQuiet_nil ?_); intro _ hw'; obtain ⟨⟨dq, osq⟩, hw''⟩ := hw'; (subst hw''); replace H := H.next (below_regrown _ dq osq); generalize Go.Sort.grow (redrawn _ dq) osq = wq at *
  go_wp2
  go_ret
  exact ⟨rfl, H.toBelow⟩
end Go.Proofs.Ytbgclhhhfldphaa
