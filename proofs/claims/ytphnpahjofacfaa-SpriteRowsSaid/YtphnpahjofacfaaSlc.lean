/-
  The walk of SpriteTells. Over this seat's translation; no condition. (Written by gen_sp.py.)
-/
import Derived.Test.YtphnpahjofacfaaSlb
import Derived.Test.YtphnpahjofacfaaSpt
import Derived.ChangeKeysEq
namespace Go.Proofs.Ytphnpahjofacfaa
open Go.RowKit Go.Sort
set_option linter.unusedSimpArgs false
set_option linter.unusedVariables false
set_option maxRecDepth 20000

theorem sunit_ct (b off cap i : Nat) (k x lo hi : BitVec 8) (ls hs : Bool) (l : List (Int × Bool)) (w : World) (hL : Ls w b off l) (hl : l.length = 256) (hi64 : i < 64) (hc : 256 ≤ cap) (hm : cap ≤ maxLen) (hk : (nth l (4 * i + 2)).1 = w8 k) (hx : (nth l (4 * i + 3)).1 = w8 x) :
    Calls Try.prog 11 #[.slice (some ⟨b, off, none⟩) 256 cap, .int .i64 (i : Int), .agg #[.int .u8 (w8 lo), .bool ls], .agg #[.int .u8 (w8 hi), .bool hs]] w fun e w' => e = .returned (.tuple #[.agg (unC (unitS x k ((nth l (4 * i)).2 || ((nth l (4 * i + 1)).2 || ((nth l (4 * i + 2)).2 || ((nth l (4 * i + 3)).2 || (ls || hs))))) (decide (i = 0)) lo hi)), .int .i64 0]) ∧ Below w.heap.size w w' := by
  have h := hL.sb i (by omega)
  rw [hk, hx] at h
  exact sunit_in b off cap i _ _ k x lo hi _ _ _ _ ls hs w h hi64 hc hm
theorem un_eqi (u : Un) (w : World) : (Op.equalIn 10000 36 (.agg (unC u)) (.agg (unC u))).run Try.prog w = .ok true w := by
  have u3 := Try.underlying5
  have a3 := Try.isAgg5
  have z3 := Try.sizeOf5
  have u4 := Try.underlying4
  rw [show (10000 : Nat) = 9999 + 1 from rfl, run_equalIn_struct w 9999 36 _ _ (by kernel_rfl) (by kernel_rfl)]
  simp only [Program.fieldsOf, Try.underlying36]
  unfold unC unL
  simp only [Op.eqFields]
  go_simp
theorem un_eql (u : Un) (w : World) : (binOp .eql 36 (.agg (unC u)) (.agg (unC u))).run Try.prog w = .ok (.bool true) w := by
  rw [run_eql_struct, un_eqi]; rfl
theorem un_eqlG (u : Un) (x y : Operand) (w : World) : (do eqGuard .eql 36 x y (.agg (unC u)) (.agg (unC u)); binOp .eql 36 (.agg (unC u)) (.agg (unC u)) : Sem Value).run Try.prog w = .ok (.bool true) w := by
  have e := run_eqGuard_agg (P := Try.prog) (w := w) .eql 36 x y (unC u) (unC u) (by kernel_rfl)
  simp only [Sem.run_bind, e, Result.andThen_ok, un_eql]
theorem sa_lo (q : Sa) : ∀ j v, (#[.int .u8 (w8 q.lo), .bool q.ls] : Array Value)[j]? = some v → (saC q)[4 + j]? = some v := by
  intro j v h
  match j with
  | 0 | 1 => exact h
  | n + 2 => simp at h
theorem sa_hi (q : Sa) : ∀ j v, (#[.int .u8 (w8 q.hi), .bool q.hs] : Array Value)[j]? = some v → (saC q)[6 + j]? = some v := by
  intro j v h
  match j with
  | 0 | 1 => exact h
  | n + 2 => simp at h
attribute [local irreducible] wpList
set_option maxHeartbeats 8000000 in
theorem tells_1 (sv : Value) (l : List (Int × Bool)) (qi ql : Int) (qt qb : Bool) (lo : BitVec 8) (ls : Bool) (hi : BitVec 8) (hs : Bool) (qx : Int) (w : World) (hr : Rd w sv l) (hb : bytS l) (hn : (l.take 257).length ≠ 256) : Calls Try.prog 3 #[sv, .agg (saC ⟨qi, ql, qt, qb, lo, ls, hi, hs, qx⟩)] w fun e w' => e = .returned (.bool true) ∧ Below w.heap.size w w' := by
  have QW := Lib.hid (fun wr => awake15_ct wr)
  have QF := fun wr h => few15_cut sv l wr h
  have HR := Lib.hid hr
  have hr2 := hr.cut15
  have hb2 := bytS_take hb 257
  generalize l.take 257 = l2 at *
  generalize cutV sv = v2 at *
  have H := Mem.start w
  have M1 : True := trivial
  obtain ⟨a, cap, rfl⟩ := hr2.sh
  have QF := Lib.hid QF
  have HZ := Lib.hid alloc_unit
  have HB0 := Lib.hid build_unit0
  have M2 : True := trivial
  have Q1 := Lib.hid (fun wr => sfind_no1 a l2.length cap ql qt hn wr)
  have Q2 := Lib.hid (fun wr => saddr_no1 a l2.length cap qi ql qt qb hn wr)
  have Q3 := Lib.hid (fun wr => sunit_no1 a l2.length cap qi (w8 lo) (w8 hi) ls hs hn wr)
  have Q4 := Lib.hid (fun wr => rmay15_no a l2.length cap 0 ql (by unfold mayS; rw [decide_eq_false hn]; rfl) wr)
  have Q5 := Lib.hid (fun wr => rmay15_no a l2.length cap qi ql (by unfold mayS; rw [decide_eq_false hn]; rfl) wr)
  have Q6 := Lib.hid (fun wr => rmay15_no a l2.length cap qi 0 (by unfold mayS; rw [decide_eq_false hn]; rfl) wr)
  go_enter Try.func3, Try.ntmps3
  go_wp2_with (first | (clear M1; refine wpList_mboxA rfl _ _ rfl H (saC ⟨qi, ql, qt, qb, lo, ls, hi, hs, qx⟩) rfl ?_; clear H; intro Rq w1 _ H) | (go_at_call 8; (with_reducible refine (QF.out _ (HR.out.below H.toBelow)).mono ?_); rintro e w2 ⟨rfl, hB⟩; replace H := H.next hB; clear hB) | (go_at_call 9; (with_reducible refine (Q1.out _).mono ?_); rintro e w2 ⟨rfl, hB⟩; replace H := H.next hB; clear hB) | (go_at_call 10; (with_reducible refine (Q2.out _).mono ?_); rintro e w2 ⟨rfl, hB⟩; replace H := H.next hB; clear hB) | (go_at_call 11; (with_reducible refine (Q3.out _).mono ?_); rintro e w2 ⟨rfl, hB⟩; replace H := H.next hB; clear hB) | (go_at_call 12; (first | (with_reducible refine (Q4.out _).mono ?_) | (with_reducible refine (Q5.out _).mono ?_) | (with_reducible refine (Q6.out _).mono ?_)); rintro e w2 ⟨rfl, hB⟩; replace H := H.next hB; clear hB) | (clear M2; refine wpList_mnew rfl _ rfl H _ HZ.out ?_; clear H; intro Ru w1 _ H) | (refine gate_store _ _ _ rfl ?_; refine wpList_mstoreA rfl 36 _ _ rfl rfl _ rfl 0 H (unC _) _ rfl rfl (by kernel_rfl) (by kernel_rfl) (by kernel_rfl) ?_; clear H; intro w1 H; simp only [List.set_cons_zero, List.set_cons_succ] at H) | (refine gate_load _ _ rfl ?_; refine wpList_mloadA rfl 36 _ rfl _ rfl 0 H (unC _) rfl (by decide +kernel) (by kernel_rfl) ?_) | (refine wpList_tbd rfl _ _ rfl #[] rfl _ HB0.out ?_) | (refine gate_tbin .eql 36 _ _ _ rfl ?_; refine wpList_tbin rfl .eql 36 _ _ _ rfl (.agg (unC _)) (.agg (unC _)) _ rfl rfl (fun w => un_eqlG _ _ _ w) ?_) | (go_at_call 16; (with_reducible refine (QW.out _).mono ?_); rintro e w2 ⟨rfl, hB⟩; replace H := H.next hB; clear hB) | (refine gate_load _ _ rfl ?_; refine wpList_mload1 rfl 3 _ rfl _ _ rfl 0 H _ (.int .i64 _) rfl rfl (by decide +kernel) ?_) | (refine gate_load _ _ rfl ?_; refine wpList_mload1 rfl 3 _ rfl _ _ rfl 1 H _ (.int .i64 _) rfl rfl (by decide +kernel) ?_) | (refine gate_load _ _ rfl ?_; refine wpList_mload1 rfl 4 _ rfl _ _ rfl 0 H _ (.bool _) rfl rfl (by decide +kernel) ?_) | (refine gate_load _ _ rfl ?_; refine wpList_mload1 rfl 4 _ rfl _ _ rfl 1 H _ (.bool _) rfl rfl (by decide +kernel) ?_) | (refine gate_load _ _ rfl ?_; refine wpList_mload rfl 24 _ rfl _ _ rfl 0 H _ #[.int .u8 _, .bool _] rfl (by decide +kernel) (by kernel_rfl) (sa_lo ⟨_, _, _, _, _, _, _, _, _⟩) ?_) | (refine gate_load _ _ rfl ?_; refine wpList_mload rfl 24 _ rfl _ _ rfl 0 H _ #[.int .u8 _, .bool _] rfl (by decide +kernel) (by kernel_rfl) (sa_hi ⟨_, _, _, _, _, _, _, _, _⟩) ?_) | (refine gate_load _ _ rfl ?_; refine wpList_mload rfl 24 _ rfl _ _ rfl 1 H _ #[.int .u8 _, .bool _] rfl (by decide +kernel) (by kernel_rfl) (sa_lo ⟨_, _, _, _, _, _, _, _, _⟩) ?_) | (refine gate_load _ _ rfl ?_; refine wpList_mload rfl 24 _ rfl _ _ rfl 1 H _ #[.int .u8 _, .bool _] rfl (by decide +kernel) (by kernel_rfl) (sa_hi ⟨_, _, _, _, _, _, _, _, _⟩) ?_) | fail)
  go_ret
  exact ⟨rfl, H.toBelow⟩
theorem on8 (l : List (Int × Bool)) (line : Int) (t : Bool) : ((onL l line t).take 8).length < 100000 := by
  have := List.length_take_le 8 (onL l line t)
  omega
set_option maxHeartbeats 8000000 in
theorem tells_2b (sv : Value) (l : List (Int × Bool)) (qi ql : Int) (qt qb : Bool) (lo : BitVec 8) (ls : Bool) (hi : BitVec 8) (hs : Bool) (qx : Int) (w : World) (hr : Rd w sv l) (hb : bytS l) (hn : (l.take 257).length = 256) (hl : lineB ql = false) (ho : oneS qi = false) : Calls Try.prog 3 #[sv, .agg (saC ⟨qi, ql, qt, qb, lo, ls, hi, hs, qx⟩)] w fun e w' => e = .returned (.bool true) ∧ Below w.heap.size w w' := by
  have QW := Lib.hid (fun wr => awake15_ct wr)
  have QF := fun wr h => few15_cut sv l wr h
  have HR := Lib.hid hr
  have hr2 := hr.cut15
  have hb2 := bytS_take hb 257
  generalize l.take 257 = l2 at *
  generalize cutV sv = v2 at *
  have H := Mem.start w
  have M1 : True := trivial
  obtain ⟨b, off, cap, rfl, hL, hc, hm⟩ := hr2.ls hn
  have QF := Lib.hid QF
  have HB := Lib.hid hb2
  have HL := Lib.hid hL
  have HLT : b < w.heap.size := hL.lt
  have HZ := Lib.hid alloc_unit
  have HB0 := Lib.hid build_unit0
  have M2 : True := trivial
  have Q1 := Lib.hid (fun wr => sfind_no2 (some ⟨b, off, none⟩) cap ql qt hl wr)
  have Q2 := Lib.hid (fun wr => saddr_no2 (some ⟨b, off, none⟩) cap qi ql qt qb hl wr)
  have Q3 := Lib.hid (fun wr => sunit_no2 (some ⟨b, off, none⟩) cap qi (w8 lo) (w8 hi) ls hs ho wr)
  have m4 : mayS 256 0 ql = false := by
    unfold mayS
    rw [show oneS 0 = true from rfl, hl]
    rfl
  have Q4 := Lib.hid (fun wr => rmay15_no (some ⟨b, off, none⟩) 256 cap 0 ql m4 wr)
  have m5 : mayS 256 qi ql = false := by
    unfold mayS
    rw [ho, hl]
    rfl
  have Q5 := Lib.hid (fun wr => rmay15_no (some ⟨b, off, none⟩) 256 cap qi ql m5 wr)
  have m6 : mayS 256 qi 0 = false := by
    unfold mayS
    rw [ho, show lineB 0 = true from rfl]
    rfl
  have Q6 := Lib.hid (fun wr => rmay15_no (some ⟨b, off, none⟩) 256 cap qi 0 m6 wr)
  clear hr hb hr2 hL hb2 hm m4 m5 m6
  go_enter Try.func3, Try.ntmps3
  go_wp2_with (first | (clear M1; refine wpList_mboxA rfl _ _ rfl H (saC ⟨qi, ql, qt, qb, lo, ls, hi, hs, qx⟩) rfl ?_; clear H; intro Rq w1 _ H) | (go_at_call 8; (with_reducible refine (QF.out _ (HR.out.below H.toBelow)).mono ?_); rintro e w2 ⟨rfl, hB⟩; replace H := H.next hB; clear hB) | (go_at_call 9; (with_reducible refine (Q1.out _).mono ?_); rintro e w2 ⟨rfl, hB⟩; replace H := H.next hB; clear hB) | (go_at_call 10; (with_reducible refine (Q2.out _).mono ?_); rintro e w2 ⟨rfl, hB⟩; replace H := H.next hB; clear hB) | (go_at_call 11; (with_reducible refine (Q3.out _).mono ?_); rintro e w2 ⟨rfl, hB⟩; replace H := H.next hB; clear hB) | (go_at_call 12; (first | (with_reducible refine (Q4.out _).mono ?_) | (with_reducible refine (Q5.out _).mono ?_) | (with_reducible refine (Q6.out _).mono ?_)); rintro e w2 ⟨rfl, hB⟩; replace H := H.next hB; clear hB) | (clear M2; refine wpList_mnew rfl _ rfl H _ HZ.out ?_; clear H; intro Ru w1 _ H) | (refine gate_store _ _ _ rfl ?_; refine wpList_mstoreA rfl 36 _ _ rfl rfl _ rfl 0 H (unC _) _ rfl rfl (by kernel_rfl) (by kernel_rfl) (by kernel_rfl) ?_; clear H; intro w1 H; simp only [List.set_cons_zero, List.set_cons_succ] at H) | (refine gate_load _ _ rfl ?_; refine wpList_mloadA rfl 36 _ rfl _ rfl 0 H (unC _) rfl (by decide +kernel) (by kernel_rfl) ?_) | (refine wpList_tbd rfl _ _ rfl #[] rfl _ HB0.out ?_) | (refine gate_tbin .eql 36 _ _ _ rfl ?_; refine wpList_tbin rfl .eql 36 _ _ _ rfl (.agg (unC _)) (.agg (unC _)) _ rfl rfl (fun w => un_eqlG _ _ _ w) ?_) | (go_at_call 16; (with_reducible refine (QW.out _).mono ?_); rintro e w2 ⟨rfl, hB⟩; replace H := H.next hB; clear hB) | (refine gate_load _ _ rfl ?_; refine wpList_mload1 rfl 3 _ rfl _ _ rfl 0 H _ (.int .i64 _) rfl rfl (by decide +kernel) ?_) | (refine gate_load _ _ rfl ?_; refine wpList_mload1 rfl 3 _ rfl _ _ rfl 1 H _ (.int .i64 _) rfl rfl (by decide +kernel) ?_) | (refine gate_load _ _ rfl ?_; refine wpList_mload1 rfl 4 _ rfl _ _ rfl 0 H _ (.bool _) rfl rfl (by decide +kernel) ?_) | (refine gate_load _ _ rfl ?_; refine wpList_mload1 rfl 4 _ rfl _ _ rfl 1 H _ (.bool _) rfl rfl (by decide +kernel) ?_) | (refine gate_load _ _ rfl ?_; refine wpList_mload rfl 24 _ rfl _ _ rfl 0 H _ #[.int .u8 _, .bool _] rfl (by decide +kernel) (by kernel_rfl) (sa_lo ⟨_, _, _, _, _, _, _, _, _⟩) ?_) | (refine gate_load _ _ rfl ?_; refine wpList_mload rfl 24 _ rfl _ _ rfl 0 H _ #[.int .u8 _, .bool _] rfl (by decide +kernel) (by kernel_rfl) (sa_hi ⟨_, _, _, _, _, _, _, _, _⟩) ?_) | (refine gate_load _ _ rfl ?_; refine wpList_mload rfl 24 _ rfl _ _ rfl 1 H _ #[.int .u8 _, .bool _] rfl (by decide +kernel) (by kernel_rfl) (sa_lo ⟨_, _, _, _, _, _, _, _, _⟩) ?_) | (refine gate_load _ _ rfl ?_; refine wpList_mload rfl 24 _ rfl _ _ rfl 1 H _ #[.int .u8 _, .bool _] rfl (by decide +kernel) (by kernel_rfl) (sa_hi ⟨_, _, _, _, _, _, _, _, _⟩) ?_) | fail)
  go_ret
  exact ⟨rfl, H.toBelow⟩
set_option maxHeartbeats 8000000 in
theorem tells_3b (sv : Value) (l : List (Int × Bool)) (qi ql : Int) (qt qb : Bool) (lo : BitVec 8) (ls : Bool) (hi : BitVec 8) (hs : Bool) (qx : Int) (w : World) (hr : Rd w sv l) (hb : bytS l) (hn : (l.take 257).length = 256) (hl : lineB ql = true) (ho : oneS qi = false) : Calls Try.prog 3 #[sv, .agg (saC ⟨qi, ql, qt, qb, lo, ls, hi, hs, qx⟩)] w fun e w' => e = .returned (.bool true) ∧ Below w.heap.size w w' := by
  have QW := Lib.hid (fun wr => awake15_ct wr)
  have QF := fun wr h => few15_cut sv l wr h
  have HR := Lib.hid hr
  have hr2 := hr.cut15
  have hb2 := bytS_take hb 257
  generalize l.take 257 = l2 at *
  generalize cutV sv = v2 at *
  have H := Mem.start w
  have M1 : True := trivial
  obtain ⟨b, off, cap, rfl, hL, hc, hm⟩ := hr2.ls hn
  have QF := Lib.hid QF
  have HB := Lib.hid hb2
  have HL := Lib.hid hL
  have HLT : b < w.heap.size := hL.lt
  have HZ := Lib.hid alloc_unit
  have HB0 := Lib.hid build_unit0
  have M2 : True := trivial
  have hl2 := hl
  simp only [lineB, Bool.and_eq_true, decide_eq_true_eq] at hl2
  obtain ⟨l0, l1⟩ := hl2
  have QA := Lib.hid (fun wr h => sfind_ct b off cap ql qt l2 wr h hn hb2 hc hm l0 l1)
  have QR := Lib.hid (fun wr h => rfind_ct b off cap ql qt l2 wr h hn hb2 hc hm l0 l1)
  obtain ⟨T, hT⟩ : ∃ T, (onL l2 ql qt).take 8 = T := ⟨_, rfl⟩
  have hT8 := on8 l2 ql qt
  rw [hT] at hT8
  have QI := Lib.hid (fun x y wr h1 h2 => ints_ct x y T hT8 wr h1 h2)
  have HT := Lib.hid hT
  clear hT
  have Q2 := Lib.hid (fun wr => saddr_no3 (some ⟨b, off, none⟩) cap qi ql qt qb hl ho wr)
  have Q3 := Lib.hid (fun wr => sunit_no2 (some ⟨b, off, none⟩) cap qi (w8 lo) (w8 hi) ls hs ho wr)
  have m4 : mayS 256 0 ql = true := by
    unfold mayS
    rw [show oneS 0 = true from rfl, hl]
    rfl
  have Q4 := Lib.hid (fun wr => rmay15_yes (some ⟨b, off, none⟩) 256 cap 0 ql m4 wr)
  have m5 : mayS 256 qi ql = false := by
    unfold mayS
    rw [ho, hl]
    rfl
  have Q5 := Lib.hid (fun wr => rmay15_no (some ⟨b, off, none⟩) 256 cap qi ql m5 wr)
  have m6 : mayS 256 qi 0 = false := by
    unfold mayS
    rw [ho, show lineB 0 = true from rfl]
    rfl
  have Q6 := Lib.hid (fun wr => rmay15_no (some ⟨b, off, none⟩) 256 cap qi 0 m6 wr)
  clear hr hb hr2 hL hb2 hm m4 m5 m6
  go_enter Try.func3, Try.ntmps3
  go_wp2_with (first | (clear M1; refine wpList_mboxA rfl _ _ rfl H (saC ⟨qi, ql, qt, qb, lo, ls, hi, hs, qx⟩) rfl ?_; clear H; intro Rq w1 _ H) | (go_at_call 8; (with_reducible refine (QF.out _ (HR.out.below H.toBelow)).mono ?_); rintro e w2 ⟨rfl, hB⟩; replace H := H.next hB; clear hB) | (go_at_call 9; (with_reducible refine (QA.out _ (HL.out.mem H HLT (by simp))).mono ?_); rintro e w2 ⟨va, blk, rfl, hA, hM⟩; rw [HT.out] at hA; obtain ⟨ba, bc, rfl, hbc⟩ := hA.shape; replace H := (H.join hM).perm List.perm_append_comm; simp only [List.cons_append, List.nil_append] at H; have HA := Lib.hid hA; clear hA hM) | (go_at_call 13; (with_reducible refine (QR.out _ (HL.out.mem H HLT (by simp))).mono ?_); rintro e w2 ⟨vb, blk2, rfl, hA, hM⟩; rw [HT.out] at hA; obtain ⟨bd, bf, rfl, hbe⟩ := hA.shape; replace H := (H.join hM).perm List.perm_append_comm; simp only [List.cons_append, List.nil_append] at H; have HA2 := Lib.hid hA; clear hA hM) | (go_at_call 14; (with_reducible refine (QI.out _ _ _ (rdI_row H HA.out (fun x hx => by simp [hx])) (rdI_row H HA2.out (fun x hx => by simp [hx]))).mono ?_); rintro e w2 ⟨rfl, hB⟩; replace H := H.next hB; clear hB) | (go_at_call 10; (with_reducible refine (Q2.out _).mono ?_); rintro e w2 ⟨rfl, hB⟩; replace H := H.next hB; clear hB) | (go_at_call 11; (with_reducible refine (Q3.out _).mono ?_); rintro e w2 ⟨rfl, hB⟩; replace H := H.next hB; clear hB) | (go_at_call 12; (first | (with_reducible refine (Q4.out _).mono ?_) | (with_reducible refine (Q5.out _).mono ?_) | (with_reducible refine (Q6.out _).mono ?_)); rintro e w2 ⟨rfl, hB⟩; replace H := H.next hB; clear hB) | (clear M2; refine wpList_mnew rfl _ rfl H _ HZ.out ?_; clear H; intro Ru w1 _ H) | (refine gate_store _ _ _ rfl ?_; refine wpList_mstoreA rfl 36 _ _ rfl rfl _ rfl 0 H (unC _) _ rfl rfl (by kernel_rfl) (by kernel_rfl) (by kernel_rfl) ?_; clear H; intro w1 H; simp only [List.set_cons_zero, List.set_cons_succ] at H) | (refine gate_load _ _ rfl ?_; refine wpList_mloadA rfl 36 _ rfl _ rfl 0 H (unC _) rfl (by decide +kernel) (by kernel_rfl) ?_) | (refine wpList_tbd rfl _ _ rfl #[] rfl _ HB0.out ?_) | (refine gate_tbin .eql 36 _ _ _ rfl ?_; refine wpList_tbin rfl .eql 36 _ _ _ rfl (.agg (unC _)) (.agg (unC _)) _ rfl rfl (fun w => un_eqlG _ _ _ w) ?_) | (go_at_call 16; (with_reducible refine (QW.out _).mono ?_); rintro e w2 ⟨rfl, hB⟩; replace H := H.next hB; clear hB) | (refine gate_load _ _ rfl ?_; refine wpList_mload1 rfl 3 _ rfl _ _ rfl 0 H _ (.int .i64 _) rfl rfl (by decide +kernel) ?_) | (refine gate_load _ _ rfl ?_; refine wpList_mload1 rfl 3 _ rfl _ _ rfl 1 H _ (.int .i64 _) rfl rfl (by decide +kernel) ?_) | (refine gate_load _ _ rfl ?_; refine wpList_mload1 rfl 4 _ rfl _ _ rfl 0 H _ (.bool _) rfl rfl (by decide +kernel) ?_) | (refine gate_load _ _ rfl ?_; refine wpList_mload1 rfl 4 _ rfl _ _ rfl 1 H _ (.bool _) rfl rfl (by decide +kernel) ?_) | (refine gate_load _ _ rfl ?_; refine wpList_mload rfl 24 _ rfl _ _ rfl 0 H _ #[.int .u8 _, .bool _] rfl (by decide +kernel) (by kernel_rfl) (sa_lo ⟨_, _, _, _, _, _, _, _, _⟩) ?_) | (refine gate_load _ _ rfl ?_; refine wpList_mload rfl 24 _ rfl _ _ rfl 0 H _ #[.int .u8 _, .bool _] rfl (by decide +kernel) (by kernel_rfl) (sa_hi ⟨_, _, _, _, _, _, _, _, _⟩) ?_) | (refine gate_load _ _ rfl ?_; refine wpList_mload rfl 24 _ rfl _ _ rfl 1 H _ #[.int .u8 _, .bool _] rfl (by decide +kernel) (by kernel_rfl) (sa_lo ⟨_, _, _, _, _, _, _, _, _⟩) ?_) | (refine gate_load _ _ rfl ?_; refine wpList_mload rfl 24 _ rfl _ _ rfl 1 H _ #[.int .u8 _, .bool _] rfl (by decide +kernel) (by kernel_rfl) (sa_hi ⟨_, _, _, _, _, _, _, _, _⟩) ?_) | fail)
  go_ret
  exact ⟨rfl, H.toBelow⟩
set_option maxHeartbeats 8000000 in
theorem tells_2a (sv : Value) (l : List (Int × Bool)) (qi ql : Int) (qt qb : Bool) (lo : BitVec 8) (ls : Bool) (hi : BitVec 8) (hs : Bool) (qx : Int) (w : World) (hr : Rd w sv l) (hb : bytS l) (hn : (l.take 257).length = 256) (hl : lineB ql = false) (i : Nat) (hi64 : i < 64) (hqi : qi = (i : Int)) : Calls Try.prog 3 #[sv, .agg (saC ⟨qi, ql, qt, qb, lo, ls, hi, hs, qx⟩)] w fun e w' => e = .returned (.bool true) ∧ Below w.heap.size w w' := by
  have QW := Lib.hid (fun wr => awake15_ct wr)
  have QF := fun wr h => few15_cut sv l wr h
  have HR := Lib.hid hr
  have hr2 := hr.cut15
  have hb2 := bytS_take hb 257
  generalize l.take 257 = l2 at *
  generalize cutV sv = v2 at *
  have H := Mem.start w
  have M1 : True := trivial
  obtain ⟨b, off, cap, rfl, hL, hc, hm⟩ := hr2.ls hn
  have QF := Lib.hid QF
  have HB := Lib.hid hb2
  have HL := Lib.hid hL
  have HLT : b < w.heap.size := hL.lt
  have HZ := Lib.hid alloc_unit
  have HB0 := Lib.hid build_unit0
  have M2 : True := trivial
  subst hqi
  have ho : oneS (i : Int) = true := by simp [oneS]; omega
  have Q1 := Lib.hid (fun wr => sfind_no2 (some ⟨b, off, none⟩) cap ql qt hl wr)
  have Q2 := Lib.hid (fun wr => saddr_no2 (some ⟨b, off, none⟩) cap (i : Int) ql qt qb hl wr)
  obtain ⟨k, hk⟩ := w8_ex (hb2 (4 * i + 2) (by omega)).1 (hb2 (4 * i + 2) (by omega)).2
  obtain ⟨x, hx⟩ := w8_ex (hb2 (4 * i + 3) (by omega)).1 (hb2 (4 * i + 3) (by omega)).2
  have Q3 := Lib.hid (fun wr h => sunit_ct b off cap i k x lo hi ls hs l2 wr h hn hi64 hc hm hk hx)
  have QU2 := Lib.hid (fun wr h => runit_ct b off cap i k x lo hi ls hs l2 wr h hn hi64 hc hm hk hx)
  have m4 : mayS 256 0 ql = false := by
    unfold mayS
    rw [show oneS 0 = true from rfl, hl]
    rfl
  have Q4 := Lib.hid (fun wr => rmay15_no (some ⟨b, off, none⟩) 256 cap 0 ql m4 wr)
  have m5 : mayS 256 (i : Int) ql = false := by
    unfold mayS
    rw [ho, hl]
    rfl
  have Q5 := Lib.hid (fun wr => rmay15_no (some ⟨b, off, none⟩) 256 cap (i : Int) ql m5 wr)
  have m6 : mayS 256 (i : Int) 0 = true := by
    unfold mayS
    rw [ho, show lineB 0 = true from rfl]
    rfl
  have Q6 := Lib.hid (fun wr => rmay15_yes (some ⟨b, off, none⟩) 256 cap (i : Int) 0 m6 wr)
  clear hr hb hr2 hL hb2 hm hk hx m4 m5 m6
  go_enter Try.func3, Try.ntmps3
  go_wp2_with (first | (clear M1; refine wpList_mboxA rfl _ _ rfl H (saC ⟨(i : Int), ql, qt, qb, lo, ls, hi, hs, qx⟩) rfl ?_; clear H; intro Rq w1 _ H) | (go_at_call 8; (with_reducible refine (QF.out _ (HR.out.below H.toBelow)).mono ?_); rintro e w2 ⟨rfl, hB⟩; replace H := H.next hB; clear hB) | (go_at_call 9; (with_reducible refine (Q1.out _).mono ?_); rintro e w2 ⟨rfl, hB⟩; replace H := H.next hB; clear hB) | (go_at_call 10; (with_reducible refine (Q2.out _).mono ?_); rintro e w2 ⟨rfl, hB⟩; replace H := H.next hB; clear hB) | (go_at_call 11; (with_reducible refine (Q3.out _ (HL.out.mem H HLT (by simp))).mono ?_); rintro e w2 ⟨rfl, hB⟩; replace H := H.next hB; clear hB) | (go_at_call 12; (first | (with_reducible refine (Q4.out _).mono ?_) | (with_reducible refine (Q5.out _).mono ?_) | (with_reducible refine (Q6.out _).mono ?_)); rintro e w2 ⟨rfl, hB⟩; replace H := H.next hB; clear hB) | (clear M2; refine wpList_mnew rfl _ rfl H _ HZ.out ?_; clear H; intro Ru w1 _ H) | (refine gate_store _ _ _ rfl ?_; refine wpList_mstoreA rfl 36 _ _ rfl rfl _ rfl 0 H (unC _) _ rfl rfl (by kernel_rfl) (by kernel_rfl) (by kernel_rfl) ?_; clear H; intro w1 H; simp only [List.set_cons_zero, List.set_cons_succ] at H) | (refine gate_load _ _ rfl ?_; refine wpList_mload1 rfl 3 _ rfl _ _ rfl 0 H _ (.int .i64 _) rfl rfl (by decide +kernel) ?_) | (refine gate_load _ _ rfl ?_; refine wpList_mload1 rfl 3 _ rfl _ _ rfl 1 H _ (.int .i64 _) rfl rfl (by decide +kernel) ?_) | (refine gate_load _ _ rfl ?_; refine wpList_mload1 rfl 4 _ rfl _ _ rfl 0 H _ (.bool _) rfl rfl (by decide +kernel) ?_) | (refine gate_load _ _ rfl ?_; refine wpList_mload1 rfl 4 _ rfl _ _ rfl 1 H _ (.bool _) rfl rfl (by decide +kernel) ?_) | (refine gate_load _ _ rfl ?_; refine wpList_mload rfl 24 _ rfl _ _ rfl 0 H _ #[.int .u8 _, .bool _] rfl (by decide +kernel) (by kernel_rfl) (sa_lo ⟨_, _, _, _, _, _, _, _, _⟩) ?_) | (refine gate_load _ _ rfl ?_; refine wpList_mload rfl 24 _ rfl _ _ rfl 0 H _ #[.int .u8 _, .bool _] rfl (by decide +kernel) (by kernel_rfl) (sa_hi ⟨_, _, _, _, _, _, _, _, _⟩) ?_) | (refine gate_load _ _ rfl ?_; refine wpList_mload rfl 24 _ rfl _ _ rfl 1 H _ #[.int .u8 _, .bool _] rfl (by decide +kernel) (by kernel_rfl) (sa_lo ⟨_, _, _, _, _, _, _, _, _⟩) ?_) | (refine gate_load _ _ rfl ?_; refine wpList_mload rfl 24 _ rfl _ _ rfl 1 H _ #[.int .u8 _, .bool _] rfl (by decide +kernel) (by kernel_rfl) (sa_hi ⟨_, _, _, _, _, _, _, _, _⟩) ?_) | fail)
  (try simp only [Act.put, List.setIfInBounds_toArray, List.set_cons_succ, List.set_cons_zero])
  (try simp only [Act.put, List.setIfInBounds_toArray, List.set_cons_succ, List.set_cons_zero])
  (refine wp_region_quiet_below (by kernel_rfl) (by kernel_rfl) ?_); (repeat (first | (go_big_quiet_want; refine gate_qload _ _ rfl ?_; refine quiet_mloadA 36 _ rfl _ rfl 0 H (unC _) rfl (by decide +kernel) (by kernel_rfl) ?_; simp only [Act.put, List.setIfInBounds_toArray, List.set_cons_succ, List.set_cons_zero]; go_big_quiet_on) | (go_big_quiet_want; refine gate_qload _ _ rfl ?_; refine quiet_mload 24 _ rfl _ _ rfl 1 H _ #[.int .u8 _, .bool _] rfl (by decide +kernel) (by kernel_rfl) (sa_lo ⟨_, _, _, _, _, _, _, _, _⟩) ?_; simp only [Act.put, List.setIfInBounds_toArray, List.set_cons_succ, List.set_cons_zero]; go_big_quiet_on) | (go_big_quiet_want; refine gate_qload _ _ rfl ?_; refine quiet_mload 24 _ rfl _ _ rfl 1 H _ #[.int .u8 _, .bool _] rfl (by decide +kernel) (by kernel_rfl) (sa_hi ⟨_, _, _, _, _, _, _, _, _⟩) ?_; simp only [Act.put, List.setIfInBounds_toArray, List.set_cons_succ, List.set_cons_zero]; go_big_quiet_on) | (go_big_quiet_want; refine gate_qload _ _ rfl ?_; refine quiet_mload1 3 _ rfl _ _ rfl 1 H _ (.int .i64 _) rfl rfl (by decide +kernel) ?_; simp only [Act.put, List.setIfInBounds_toArray, List.set_cons_succ, List.set_cons_zero]; go_big_quiet_on) | (go_big_quiet_want; refine gate_qtb .eql 36 _ _ _ rfl ?_; refine quiet_tbin .eql 36 _ _ _ rfl (.agg (unC _)) (.agg (unC _)) _ rfl rfl (fun w => un_eqlG _ _ _ w) ?_; simp only [Act.put, List.setIfInBounds_toArray, List.set_cons_succ, List.set_cons_zero]; go_big_quiet_on) | go_big_quiet_step ((first | (go_at_call 17; (with_reducible exact Calls.regrown_of (QU2.out _ ((HL.out.mem H HLT (by simp)).below (below_regrown _ _ _))))) | (go_at_call 16; (with_reducible exact Calls.regrown_of (QW.out _))) | fail)))); (refine wpQuiet_nil ?_); intro _ hw'; obtain ⟨⟨dq, osq⟩, hw''⟩ := hw'; (subst hw''); replace H := H.next (below_regrown _ dq osq); generalize Go.Sort.grow (redrawn _ dq) osq = wq at *
  go_wp2
  go_ret
  exact ⟨rfl, H.toBelow⟩
set_option maxHeartbeats 8000000 in
theorem tells_3a (sv : Value) (l : List (Int × Bool)) (qi ql : Int) (qt qb : Bool) (lo : BitVec 8) (ls : Bool) (hi : BitVec 8) (hs : Bool) (qx : Int) (w : World) (hr : Rd w sv l) (hb : bytS l) (hn : (l.take 257).length = 256) (hl : lineB ql = true) (i : Nat) (hi64 : i < 64) (hqi : qi = (i : Int)) : Calls Try.prog 3 #[sv, .agg (saC ⟨qi, ql, qt, qb, lo, ls, hi, hs, qx⟩)] w fun e w' => e = .returned (.bool true) ∧ Below w.heap.size w w' := by
  have QW := Lib.hid (fun wr => awake15_ct wr)
  have QF := fun wr h => few15_cut sv l wr h
  have HR := Lib.hid hr
  have hr2 := hr.cut15
  have hb2 := bytS_take hb 257
  generalize l.take 257 = l2 at *
  generalize cutV sv = v2 at *
  have H := Mem.start w
  have M1 : True := trivial
  obtain ⟨b, off, cap, rfl, hL, hc, hm⟩ := hr2.ls hn
  have QF := Lib.hid QF
  have HB := Lib.hid hb2
  have HL := Lib.hid hL
  have HLT : b < w.heap.size := hL.lt
  have HZ := Lib.hid alloc_unit
  have HB0 := Lib.hid build_unit0
  have M2 : True := trivial
  subst hqi
  have ho : oneS (i : Int) = true := by simp [oneS]; omega
  have hl2 := hl
  simp only [lineB, Bool.and_eq_true, decide_eq_true_eq] at hl2
  obtain ⟨l0, l1⟩ := hl2
  have QA := Lib.hid (fun wr h => sfind_ct b off cap ql qt l2 wr h hn hb2 hc hm l0 l1)
  have QR := Lib.hid (fun wr h => rfind_ct b off cap ql qt l2 wr h hn hb2 hc hm l0 l1)
  obtain ⟨T, hT⟩ : ∃ T, (onL l2 ql qt).take 8 = T := ⟨_, rfl⟩
  have hT8 := on8 l2 ql qt
  rw [hT] at hT8
  have QI := Lib.hid (fun x y wr h1 h2 => ints_ct x y T hT8 wr h1 h2)
  have HT := Lib.hid hT
  clear hT
  have Q2 := Lib.hid (fun wr h => saddr_ct b off cap i ql qt qb l2 wr h hn hb2 hi64 hc hm l0 l1)
  have QS := Lib.hid (fun wr h => raddr_ct b off cap i ql qt qb l2 wr h hn hb2 hi64 hc hm l0 l1)
  obtain ⟨k, hk⟩ := w8_ex (hb2 (4 * i + 2) (by omega)).1 (hb2 (4 * i + 2) (by omega)).2
  obtain ⟨x, hx⟩ := w8_ex (hb2 (4 * i + 3) (by omega)).1 (hb2 (4 * i + 3) (by omega)).2
  have Q3 := Lib.hid (fun wr h => sunit_ct b off cap i k x lo hi ls hs l2 wr h hn hi64 hc hm hk hx)
  have QU2 := Lib.hid (fun wr h => runit_ct b off cap i k x lo hi ls hs l2 wr h hn hi64 hc hm hk hx)
  have m4 : mayS 256 0 ql = true := by
    unfold mayS
    rw [show oneS 0 = true from rfl, hl]
    rfl
  have Q4 := Lib.hid (fun wr => rmay15_yes (some ⟨b, off, none⟩) 256 cap 0 ql m4 wr)
  have m5 : mayS 256 (i : Int) ql = true := by
    unfold mayS
    rw [ho, hl]
    rfl
  have Q5 := Lib.hid (fun wr => rmay15_yes (some ⟨b, off, none⟩) 256 cap (i : Int) ql m5 wr)
  have m6 : mayS 256 (i : Int) 0 = true := by
    unfold mayS
    rw [ho, show lineB 0 = true from rfl]
    rfl
  have Q6 := Lib.hid (fun wr => rmay15_yes (some ⟨b, off, none⟩) 256 cap (i : Int) 0 m6 wr)
  clear hr hb hr2 hL hb2 hm hk hx m4 m5 m6
  go_enter Try.func3, Try.ntmps3
  go_wp2_with (first | (clear M1; refine wpList_mboxA rfl _ _ rfl H (saC ⟨(i : Int), ql, qt, qb, lo, ls, hi, hs, qx⟩) rfl ?_; clear H; intro Rq w1 _ H) | (go_at_call 8; (with_reducible refine (QF.out _ (HR.out.below H.toBelow)).mono ?_); rintro e w2 ⟨rfl, hB⟩; replace H := H.next hB; clear hB) | (go_at_call 9; (with_reducible refine (QA.out _ (HL.out.mem H HLT (by simp))).mono ?_); rintro e w2 ⟨va, blk, rfl, hA, hM⟩; rw [HT.out] at hA; obtain ⟨ba, bc, rfl, hbc⟩ := hA.shape; replace H := (H.join hM).perm List.perm_append_comm; simp only [List.cons_append, List.nil_append] at H; have HA := Lib.hid hA; clear hA hM) | (go_at_call 13; (with_reducible refine (QR.out _ (HL.out.mem H HLT (by simp))).mono ?_); rintro e w2 ⟨vb, blk2, rfl, hA, hM⟩; rw [HT.out] at hA; obtain ⟨bd, bf, rfl, hbe⟩ := hA.shape; replace H := (H.join hM).perm List.perm_append_comm; simp only [List.cons_append, List.nil_append] at H; have HA2 := Lib.hid hA; clear hA hM) | (go_at_call 14; (with_reducible refine (QI.out _ _ _ (rdI_row H HA.out (fun x hx => by simp [hx])) (rdI_row H HA2.out (fun x hx => by simp [hx]))).mono ?_); rintro e w2 ⟨rfl, hB⟩; replace H := H.next hB; clear hB) | (go_at_call 10; (with_reducible refine (Q2.out _ (HL.out.mem H HLT (by simp))).mono ?_); rintro e w2 ⟨rfl, hB⟩; replace H := H.next hB; clear hB) | (go_at_call 15; (with_reducible refine (QS.out _ (HL.out.mem H HLT (by simp))).mono ?_); rintro e w2 ⟨rfl, hB⟩; replace H := H.next hB; clear hB) | (go_at_call 11; (with_reducible refine (Q3.out _ (HL.out.mem H HLT (by simp))).mono ?_); rintro e w2 ⟨rfl, hB⟩; replace H := H.next hB; clear hB) | (go_at_call 12; (first | (with_reducible refine (Q4.out _).mono ?_) | (with_reducible refine (Q5.out _).mono ?_) | (with_reducible refine (Q6.out _).mono ?_)); rintro e w2 ⟨rfl, hB⟩; replace H := H.next hB; clear hB) | (clear M2; refine wpList_mnew rfl _ rfl H _ HZ.out ?_; clear H; intro Ru w1 _ H) | (refine gate_store _ _ _ rfl ?_; refine wpList_mstoreA rfl 36 _ _ rfl rfl _ rfl 0 H (unC _) _ rfl rfl (by kernel_rfl) (by kernel_rfl) (by kernel_rfl) ?_; clear H; intro w1 H; simp only [List.set_cons_zero, List.set_cons_succ] at H) | (refine gate_load _ _ rfl ?_; refine wpList_mload1 rfl 3 _ rfl _ _ rfl 0 H _ (.int .i64 _) rfl rfl (by decide +kernel) ?_) | (refine gate_load _ _ rfl ?_; refine wpList_mload1 rfl 3 _ rfl _ _ rfl 1 H _ (.int .i64 _) rfl rfl (by decide +kernel) ?_) | (refine gate_load _ _ rfl ?_; refine wpList_mload1 rfl 4 _ rfl _ _ rfl 0 H _ (.bool _) rfl rfl (by decide +kernel) ?_) | (refine gate_load _ _ rfl ?_; refine wpList_mload1 rfl 4 _ rfl _ _ rfl 1 H _ (.bool _) rfl rfl (by decide +kernel) ?_) | (refine gate_load _ _ rfl ?_; refine wpList_mload rfl 24 _ rfl _ _ rfl 0 H _ #[.int .u8 _, .bool _] rfl (by decide +kernel) (by kernel_rfl) (sa_lo ⟨_, _, _, _, _, _, _, _, _⟩) ?_) | (refine gate_load _ _ rfl ?_; refine wpList_mload rfl 24 _ rfl _ _ rfl 0 H _ #[.int .u8 _, .bool _] rfl (by decide +kernel) (by kernel_rfl) (sa_hi ⟨_, _, _, _, _, _, _, _, _⟩) ?_) | (refine gate_load _ _ rfl ?_; refine wpList_mload rfl 24 _ rfl _ _ rfl 1 H _ #[.int .u8 _, .bool _] rfl (by decide +kernel) (by kernel_rfl) (sa_lo ⟨_, _, _, _, _, _, _, _, _⟩) ?_) | (refine gate_load _ _ rfl ?_; refine wpList_mload rfl 24 _ rfl _ _ rfl 1 H _ #[.int .u8 _, .bool _] rfl (by decide +kernel) (by kernel_rfl) (sa_hi ⟨_, _, _, _, _, _, _, _, _⟩) ?_) | fail)
  (try simp only [Act.put, List.setIfInBounds_toArray, List.set_cons_succ, List.set_cons_zero])
  (try simp only [Act.put, List.setIfInBounds_toArray, List.set_cons_succ, List.set_cons_zero])
  (refine wp_region_quiet_below (by kernel_rfl) (by kernel_rfl) ?_); (repeat (first | (go_big_quiet_want; refine gate_qload _ _ rfl ?_; refine quiet_mloadA 36 _ rfl _ rfl 0 H (unC _) rfl (by decide +kernel) (by kernel_rfl) ?_; simp only [Act.put, List.setIfInBounds_toArray, List.set_cons_succ, List.set_cons_zero]; go_big_quiet_on) | (go_big_quiet_want; refine gate_qload _ _ rfl ?_; refine quiet_mload 24 _ rfl _ _ rfl 1 H _ #[.int .u8 _, .bool _] rfl (by decide +kernel) (by kernel_rfl) (sa_lo ⟨_, _, _, _, _, _, _, _, _⟩) ?_; simp only [Act.put, List.setIfInBounds_toArray, List.set_cons_succ, List.set_cons_zero]; go_big_quiet_on) | (go_big_quiet_want; refine gate_qload _ _ rfl ?_; refine quiet_mload 24 _ rfl _ _ rfl 1 H _ #[.int .u8 _, .bool _] rfl (by decide +kernel) (by kernel_rfl) (sa_hi ⟨_, _, _, _, _, _, _, _, _⟩) ?_; simp only [Act.put, List.setIfInBounds_toArray, List.set_cons_succ, List.set_cons_zero]; go_big_quiet_on) | (go_big_quiet_want; refine gate_qload _ _ rfl ?_; refine quiet_mload1 3 _ rfl _ _ rfl 1 H _ (.int .i64 _) rfl rfl (by decide +kernel) ?_; simp only [Act.put, List.setIfInBounds_toArray, List.set_cons_succ, List.set_cons_zero]; go_big_quiet_on) | (go_big_quiet_want; refine gate_qtb .eql 36 _ _ _ rfl ?_; refine quiet_tbin .eql 36 _ _ _ rfl (.agg (unC _)) (.agg (unC _)) _ rfl rfl (fun w => un_eqlG _ _ _ w) ?_; simp only [Act.put, List.setIfInBounds_toArray, List.set_cons_succ, List.set_cons_zero]; go_big_quiet_on) | go_big_quiet_step ((first | (go_at_call 17; (with_reducible exact Calls.regrown_of (QU2.out _ ((HL.out.mem H HLT (by simp)).below (below_regrown _ _ _))))) | (go_at_call 16; (with_reducible exact Calls.regrown_of (QW.out _))) | fail)))); (refine wpQuiet_nil ?_); intro _ hw'; obtain ⟨⟨dq, osq⟩, hw''⟩ := hw'; (subst hw''); replace H := H.next (below_regrown _ dq osq); generalize Go.Sort.grow (redrawn _ dq) osq = wq at *
  go_wp2
  go_ret
  exact ⟨rfl, H.toBelow⟩
theorem spriteTells_walk (sv : Value) (l : List (Int × Bool)) (q : Sa) (w : World) (hr : Rd w sv l) (hb : bytS l) : Calls Try.prog 3 #[sv, .agg (saC q)] w fun e w' => e = .returned (.bool true) ∧ Below w.heap.size w w' := by
  obtain ⟨qi, ql, qt, qb, lo, ls, hi, hs, qx⟩ := q
  by_cases hn : (l.take 257).length = 256
  · cases ho : oneS qi
    · cases hl : lineB ql
      · exact tells_2b sv l qi ql qt qb lo ls hi hs qx w hr hb hn hl ho
      · exact tells_3b sv l qi ql qt qb lo ls hi hs qx w hr hb hn hl ho
    · simp only [oneS, Bool.and_eq_true, decide_eq_true_eq] at ho
      obtain ⟨i, rfl⟩ := Int.eq_ofNat_of_zero_le ho.1
      cases hl : lineB ql
      · exact tells_2a sv l _ ql qt qb lo ls hi hs qx w hr hb hn hl i (by omega) rfl
      · exact tells_3a sv l _ ql qt qb lo ls hi hs qx w hr hb hn hl i (by omega) rfl
  · exact tells_1 sv l qi ql qt qb lo ls hi hs qx w hr hb hn
end Go.Proofs.Ytphnpahjofacfaa
