/-
  What the laws of layer 14 share: parts of what is asked, shifted, a dot of any number, awake. Over this seat's translation; no condition. (Written by gen_ti.py.)
-/
import Derived.Test.YtbgclhhhfldphaaTil
import Derived.Test.YtbgclhhhfldphaaTid0
import Derived.Test.YtbgclhhhfldphaaTiz
import Derived.Test.YtbgclhhhfldphaaTio
import Derived.Great.Walk
import Derived.Deep.CutBlock
namespace Go.Proofs.Ytbgclhhhfldphaa
open Go.RowKit Go.Sort
set_option linter.unusedSimpArgs false
set_option linter.unusedVariables false
set_option maxRecDepth 20000

theorem ta_tile (q : Ta) : ∀ j v, (tiC q.t)[j]? = some v → (taC q)[0 + j]? = some v := by
  intro j v h
  match j with
  | 0 | 1 | 2 | 3 | 4 => exact h
  | n + 5 => simp [tiC] at h
theorem ta_lo (q : Ta) : ∀ j v, (#[.int .u8 (w8 q.lo), .bool q.ls] : Array Value)[j]? = some v → (taC q)[5 + j]? = some v := by
  intro j v h
  match j with
  | 0 | 1 => exact h
  | n + 2 => simp at h
theorem ta_hi (q : Ta) : ∀ j v, (#[.int .u8 (w8 q.hi), .bool q.hs] : Array Value)[j]? = some v → (taC q)[7 + j]? = some v := by
  intro j v h
  match j with
  | 0 | 1 => exact h
  | n + 2 => simp at h
theorem ti_eqlG (a : Ti) (x y : Operand) (w : World) : (do eqGuard .eql 24 x y (.agg (tiC a)) (.agg (tiC a)); binOp .eql 24 (.agg (tiC a)) (.agg (tiC a)) : Sem Value).run Try.prog w = .ok (.bool true) w := by
  rw [ti_eqdG, decide_eq_true rfl]
theorem alloc_til (o : Oper) (h : o.op = .alloc 24) (ρ : Operand → Value) (w : World) : (execOp ρ o).run Try.prog w = .ok (.value (ptrTo w.heap.size)) (w.alloc (.cells (tiC ti0) 24)) := by
  unfold execOp
  rw [h]
  kernel_rfl
theorem build_t0 (w : World) : (Instr.build 24 #[]).run Try.prog w = .ok (.agg (tiC ti0)) w := by kernel_rfl
theorem tdoti_ct (t : Ti) (X : Int) (h0 : 0 ≤ X) (h1 : X < 256) (w : World) : Calls Try.prog 8 #[.agg (tiC t), .int .u8 X] w fun e w' => e = .returned (.tuple #[.int .u8 (dotT t (X % 8).toNat), .bool (secT t (X % 8).toNat)]) ∧ Below w.heap.size w w' := by
  obtain ⟨x, rfl⟩ := w8_ex h0 h1
  exact tdot_ct t x w
attribute [local irreducible] wpList
set_option maxHeartbeats 2000000 in
theorem tshifted_ct (t : Ti) (N : Int) (h0 : 0 ≤ N) (h1 : N ≤ 16) (w : World) : Calls Try.prog 18 #[.agg (tiC t), .int .i64 N] w fun e w' => e = .returned (.agg (tiC (shlT t N.toNat))) ∧ Below w.heap.size w w' := by
  obtain ⟨n, rfl⟩ := Int.eq_ofNat_of_zero_le h0
  rw [Int.toNat_natCast]
  have HZ := Lib.hid alloc_ti
  have QS := Lib.hid (fun t wr => tshift_ct t wr)
  have H := Mem.start w
  have M1 : True := trivial
  have M2 : True := trivial
  go_enter Try.func18, Try.ntmps18
  go_wp2_with (first | (clear M1; refine wpList_mboxA rfl _ _ rfl H _ rfl ?_; clear H; intro Rc w1 _ H) | (clear M2; refine wpList_mnew rfl _ rfl H _ HZ.out ?_; clear H; intro Rr w1 _ H) | fail)
  go_loopw [5] (fun i wr => ∃ k : Nat, k ≤ n ∧ i = .int .i64 k ∧ Mem w.heap.size [] w wr [(Rr, tiC ti0), (Rc, tiC (shlT t k))]) (fun i _ => n - (intOf i).toNat)
  case atStart => exact ⟨0, Nat.zero_le _, rfl, by rw [shlT_zero]; exact H⟩
  case round =>
    clear H
    obtain ⟨k, hk, rfl, H⟩ := hrel
    have hn := shlT_next t k
    by_cases hlt : k < n
    · generalize shlT t k = u at *
      go_wp2_with (first | (refine gate_load _ _ rfl ?_; refine wpList_mloadA rfl 24 _ rfl _ rfl 1 H (tiC _) rfl (by decide +kernel) (by kernel_rfl) ?_) | (go_at_call 12; (with_reducible refine (QS.out _ _).mono ?_); rintro e w2 ⟨rfl, hB⟩; replace H := H.next hB; clear hB) | (refine gate_store _ _ _ rfl ?_; refine wpList_mstoreA rfl 24 _ _ rfl rfl _ rfl 1 H (tiC _) _ rfl rfl (by kernel_rfl) (by kernel_rfl) (by kernel_rfl) ?_; clear H; intro w1 H; simp only [List.set_cons_zero, List.set_cons_succ] at H) | fail)
      go_roundw
      case rel => exact ⟨k + 1, by omega, by go_num, by first | exact H | (rw [← hn]; exact H)⟩
      case measure => simp [intOf]; omega
    · obtain rfl : k = n := by omega
      go_wp2_with (first | (refine gate_load _ _ rfl ?_; refine wpList_mloadA rfl 24 _ rfl _ rfl 1 H (tiC _) rfl (by decide +kernel) (by kernel_rfl) ?_) | (refine gate_store _ _ _ rfl ?_; refine wpList_mstoreA rfl 24 _ _ rfl rfl _ rfl 0 H (tiC _) _ rfl rfl (by kernel_rfl) (by kernel_rfl) (by kernel_rfl) ?_; clear H; intro w1 H; simp only [List.set_cons_zero, List.set_cons_succ] at H) | fail)
      refine ret_mem1 rfl _ rfl 0 H _ rfl (by kernel_rfl) (by kernel_rfl) rfl ?_
      exact ⟨rfl, H.toBelow⟩
theorem aw14_1 : dotT (shlT (loadT ti0 128#8 0#8 2#8 false) 8) 0 = 9 ∧ secT (shlT (loadT ti0 128#8 0#8 2#8 false) 8) 0 = false ∧ dotT (shlT (loadT ti0 128#8 0#8 2#8 false) 8) 7 = 8 ∧ secT (shlT (loadT ti0 0#8 0#8 0#8 true) 8) 3 = true := by decide +kernel
set_option maxHeartbeats 4000000 in
theorem awake14_ct  (w : World) : Calls Try.prog 17 #[] w fun e w' => e = .returned (.bool true) ∧ Below w.heap.size w w' := by
  have HZ := Lib.hid alloc_ti
  have QA := Lib.hid (show ∀ wr : World, Calls Try.prog 10 #[.agg #[.int .u16 0, .int .u16 0, .int .u16 0, .int .u16 0, .int .u16 0], .agg #[.int .u8 128, .bool false], .agg #[.int .u8 0, .bool false], .int .u8 2, .bool false] wr fun e w' => e = .returned (.agg (tiC (loadT ti0 128#8 0#8 2#8 false))) ∧ Below wr.heap.size wr w' from fun wr => tload_ct ti0 128#8 0#8 2#8 false false false wr)
  have QB := Lib.hid (show ∀ wr : World, Calls Try.prog 10 #[.agg #[.int .u16 0, .int .u16 0, .int .u16 0, .int .u16 0, .int .u16 0], .agg #[.int .u8 0, .bool true], .agg #[.int .u8 0, .bool false], .int .u8 0, .bool false] wr fun e w' => e = .returned (.agg (tiC (loadT ti0 0#8 0#8 0#8 true))) ∧ Below wr.heap.size wr w' from fun wr => tload_ct ti0 0#8 0#8 0#8 false true false wr)
  obtain ⟨e1, e2, e3, e4⟩ := aw14_1
  generalize loadT ti0 128#8 0#8 2#8 false = u1 at *
  generalize loadT ti0 0#8 0#8 0#8 true = u2 at *
  have QC := Lib.hid (show ∀ wr : World, Calls Try.prog 18 #[.agg (tiC u1), .int .i64 8] wr fun e w' => e = .returned (.agg (tiC (shlT u1 8))) ∧ Below wr.heap.size wr w' from fun wr => tshifted_ct u1 8 (by decide) (by decide) wr)
  have QE := Lib.hid (show ∀ wr : World, Calls Try.prog 18 #[.agg (tiC u2), .int .i64 8] wr fun e w' => e = .returned (.agg (tiC (shlT u2 8))) ∧ Below wr.heap.size wr w' from fun wr => tshifted_ct u2 8 (by decide) (by decide) wr)
  generalize shlT u1 8 = v1 at *
  generalize shlT u2 8 = v2 at *
  have Q10 : ∀ wr : World, Calls Try.prog 8 #[.agg (tiC v1), .int .u8 0] wr fun e w' => e = .returned (.tuple #[.int .u8 (dotT v1 0), .bool (secT v1 0)]) ∧ Below wr.heap.size wr w' := fun wr => tdoti_ct v1 0 (by decide) (by decide) wr
  rw [e1, e2] at Q10
  have Q1 := Lib.hid Q10
  clear Q10
  have Q20 : ∀ wr : World, Calls Try.prog 8 #[.agg (tiC v1), .int .u8 7] wr fun e w' => e = .returned (.tuple #[.int .u8 (dotT v1 7), .bool (secT v1 7)]) ∧ Below wr.heap.size wr w' := fun wr => tdoti_ct v1 7 (by decide) (by decide) wr
  rw [e3] at Q20
  have Q2 := Lib.hid Q20
  clear Q20
  have Q30 : ∀ wr : World, Calls Try.prog 8 #[.agg (tiC v2), .int .u8 3] wr fun e w' => e = .returned (.tuple #[.int .u8 (dotT v2 3), .bool (secT v2 3)]) ∧ Below wr.heap.size wr w' := fun wr => tdoti_ct v2 3 (by decide) (by decide) wr
  rw [e4] at Q30
  have Q3 := Lib.hid Q30
  clear Q30
  clear e1 e2 e3 e4
  have H := Mem.start w
  have M1 : True := trivial
  go_enter Try.func17, Try.ntmps17
  go_wp2_with (first | (go_at_call 10; (first | (with_reducible refine (QA.out _).mono ?_) | (with_reducible refine (QB.out _).mono ?_)); rintro e w2 ⟨rfl, hB⟩; replace H := H.next hB; clear hB) | (go_at_call 18; (first | (with_reducible refine (QC.out _).mono ?_) | (with_reducible refine (QE.out _).mono ?_)); rintro e w2 ⟨rfl, hB⟩; replace H := H.next hB; clear hB) | (clear M1; refine wpList_mnew rfl _ rfl H _ HZ.out ?_; clear H; intro Rr w1 _ H) | (refine gate_store _ _ _ rfl ?_; refine wpList_mstoreA rfl 24 _ _ rfl rfl _ rfl 0 H (tiC _) _ rfl rfl (by kernel_rfl) (by kernel_rfl) (by kernel_rfl) ?_; clear H; intro w1 H; simp only [List.set_cons_zero, List.set_cons_succ] at H) | (refine gate_load _ _ rfl ?_; refine wpList_mloadA rfl 24 _ rfl _ rfl 0 H (tiC _) rfl (by decide +kernel) (by kernel_rfl) ?_) | (go_at_call 8; (first | (with_reducible refine (Q1.out _).mono ?_) | (with_reducible refine (Q2.out _).mono ?_) | (with_reducible refine (Q3.out _).mono ?_)); rintro e w2 ⟨rfl, hB⟩; replace H := H.next hB; clear hB) | fail)
  go_ret
  exact ⟨rfl, H.toBelow⟩
end Go.Proofs.Ytbgclhhhfldphaa
