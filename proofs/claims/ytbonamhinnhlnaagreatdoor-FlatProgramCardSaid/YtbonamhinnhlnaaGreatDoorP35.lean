/-
  Several texts in one: what is read and written by the functions on the way to the statements. Conditions stand in each theorem.
-/
import Derived.Test.YtbonamhinnhlnaaGreatDoorP34
namespace Go.Proofs.YtbonamhinnhlnaaGreatDoor
open Go.RowKit
set_option linter.unusedSimpArgs false
set_option linter.unusedVariables false
set_option maxRecDepth 100000

theorem wpList_mmk {P : Program} {ops : Array Oper} {rest : List Oper} {o : Oper} {a : Act} {w : World} {Q : Exit → Act → World → Prop} {n : Nat} {X : List Nat} {w0 : World} {l : List (Nat × Array Value)} (hgd : Region.wanted o (yielded ops a.tmps) = true) (t : TypeId) (x y : Operand) (ho : o.op = .makeSlice t x y) (H : Mem n X w0 w l) (v u : Value) (hx : a.eval x = v) (hy : a.eval y = u) {cs : Array Value} {T : TypeId} {N : Nat}
    (hr : ∀ w : World, (Instr.makeSlice t v u).run P w = .ok (.slice (some ⟨w.heap.size, 0, none⟩) N N) (w.alloc (.cells cs T)))
    (h : ∀ R w1, w.heap.size ≤ R → Mem n X w0 w1 ((R, cs) :: l) → wpList P ops Q rest (a.put o.dst (.slice (some ⟨R, 0, none⟩) N N)) w1) : wpList P ops Q (o :: rest) a w :=
  wpList_want' hgd fun _ hK => by
    unfold Oper.wp execOp
    simp only [ho, hx, hy, Sem.run_bind, hr, Result.andThen_ok, Sem.run_pure]
    exact hK _ _ (h _ _ (Nat.le_refl _) (H.new _ _))
theorem awk_run (sv : Value) (w : World) (G : GlobO w) (hr : Rd w sv memA) : Calls Tryz.prog 8 #[.agg #[.int .u8 0, .bool false, .int .u8 0, .bool false, .int .u8 0, .bool false, .int .u8 0, .bool false, .int .u8 0, .int .u8 0, .int .u16 0, .bool false, .int .u8 0, .int .i64 0, .int .u16 0, .bool false, .int .u8 0, .bool false, .bool false, .int .i64 0, .bool false, .bool false, .int .i64 0, .bool false, .bool false], sv, .int .i64 2] w fun e w' =>
    ∃ c2 g cap q cp, c2.av = 5 ∧ e = .returned (.tuple #[.agg (cpC c2), .slice (some ⟨g, 0, none⟩) 256 cap, .slice (some ⟨q, 0, none⟩) 2 cp, .int .i64 0]) ∧ Below w.heap.size w w' := by
  refine (run_yes cp0 sv memA 2 cp0_fit cp0_ok memA_ok memA_may (by omega) w G hr).mono ?_
  rintro e w' ⟨k, g, cap, cs, v, hE, rfl, _, hM, hO, _⟩
  have hk : k = 2 := by
    obtain ⟨h1, h2, h3⟩ := hE
    rcases h3 with h3 | ⟨h3, h4⟩
    · exact h3
    · have : k ≠ 1 := fun e => by
        rw [e, awk_maths.1] at h4
        cases h4
      omega
  subst hk
  obtain ⟨q, cp, rfl⟩ := ownsRow_succ hO
  exact ⟨_, g, cap, q, cp, awk_maths.2.2.2, by rw [memA_len], hM.toBelow⟩
theorem awk_until (sv : Value) (w : World) (G : GlobO w) (hr : Rd w sv memA) : Calls Tryz.prog 9 #[.agg #[.int .u8 0, .bool false, .int .u8 0, .bool false, .int .u8 0, .bool false, .int .u8 0, .bool false, .int .u8 0, .int .u8 0, .int .u16 0, .bool false, .int .u8 0, .int .i64 0, .int .u16 0, .bool false, .int .u8 0, .bool false, .bool false, .int .i64 0, .bool false, .bool false, .int .i64 0, .bool false, .bool false], sv, .int .i64 9] w fun e w' =>
    ∃ c2 g cap, e = .returned (.tuple #[.agg (cpC c2), .slice (some ⟨g, 0, none⟩) 256 cap, .int .i64 2, .int .i64 0]) ∧ Below w.heap.size w w' := by
  refine (until_yes cp0 sv memA 9 cp0_fit cp0_ok memA_ok memA_may (by omega) w G hr).mono ?_
  rintro e w' ⟨k, g, cap, cs, hU, rfl, _, hM⟩
  have hk : k = 2 := by
    obtain ⟨h1, h2, h3⟩ := hU
    have a1 : k ≠ 1 := fun e => by
      subst e
      rcases h3 with h3 | ⟨_, h3 | h3⟩
      · cases h3
      · rw [awk_maths.1] at h3
        cases h3
      · exact awk_maths.2.1 h3
    have a2 : ¬ 2 < k := fun e => (h2 2 (by omega) e).2 awk_maths.2.2.1
    have a3 : k ≠ 0 := fun e => by
      subst e
      rcases h3 with h3 | ⟨h3, _⟩
      · cases h3
      · omega
    omega
  subst hk
  exact ⟨_, g, cap, by rw [memA_len]; rfl, hM.toBelow⟩
attribute [local irreducible] wpList
set_option maxHeartbeats 8000000 in
theorem awake11_ct (w : World) (G : GlobO w) : Calls Tryz.prog 14 #[] w fun e w' => e = .returned (.bool true) ∧ Below w.heap.size w w' := by
  have QR := Lib.hid (fun sv wr g h => awk_run sv wr g h)
  have QU := Lib.hid (fun sv wr g h => awk_until sv wr g h)
  have QC := Lib.hid (fun R wr => (show Calls Tryz.prog 10 #[.slice (some ⟨R, 0, none⟩) 300 300] wr fun e w' => e = .returned (.int .i64 1) ∧ Below wr.heap.size wr w' by
    have h := fcheck_ct (.slice (some ⟨R, 0, none⟩) 300 300) 300 wr ⟨_, _, rfl⟩ (by omega)
    rw [show (if memB 300 = true then (0 : Int) else 1) = 1 by decide +kernel] at h
    exact h))
  have GG := Lib.hid G
  have HZC := Lib.hid alloc_cpu
  have HM1 := Lib.hid make_by
  have HM2 := Lib.hid make_bz
  have H := Mem.start w
  clear G
  go_enter Tryz.func14, Tryz.ntmps14
  go_wp2_with (first | (refine wpList_mmk rfl _ _ _ rfl H _ _ rfl rfl HM1.out ?_; clear H; intro Rm w1 _ H) | (refine gate_store _ _ _ rfl ?_; refine wpList_mstore rfl 5 _ _ rfl rfl _ _ rfl 0 H _ _ rfl (.int _ _) rfl (by kernel_rfl) (of_decide_eq_true (by kernel_rfl)) (by kernel_rfl) rfl ?_; clear H; intro w1 H; simp only [List.set_cons_zero] at H) | fail)
  rw [show (splice (splice (zcA 256).toList 0 (Value.int IntKind.u8 169).cells.toList) 2 (Value.int IntKind.u8 5).cells.toList).toArray = mcA by kernel_rfl] at H
  have RW := Lib.hid mcA_row
  go_wp2_with (first | (go_at_call 8; (with_reducible refine (QR.out _ _ (GG.out.mem H) (rd_row (i := 0) H rfl RW.out memA_len)).mono ?_); rintro e w2 ⟨c2, g2, cap2, q2, cp2, h5, rfl, hB⟩; replace H := H.next hB; clear hB) | (go_at_call 9; (with_reducible refine (QU.out _ _ (GG.out.mem H) (rd_row (i := 1) H rfl RW.out memA_len)).mono ?_); rintro e w2 ⟨c3, g3, cap3, rfl, hB⟩; replace H := H.next hB; clear hB) | (go_at_call 10; (with_reducible refine (QC.out _ _).mono ?_); rintro e w2 ⟨rfl, hB⟩; replace H := H.next hB; clear hB) | (refine wpList_mnew rfl _ rfl H _ HZC.out ?_; clear H; intro _ w1 _ H) | (refine gate_store _ _ _ rfl ?_; refine wpList_mstoreA rfl 28 _ _ rfl rfl _ rfl 0 H (cpC _) _ rfl rfl (by kernel_rfl) (by kernel_rfl) (by kernel_rfl) ?_; clear H; intro w1 H; simp only [List.set_cons_zero, List.set_cons_succ] at H) | (refine gate_load _ _ rfl ?_; refine wpList_mload1 rfl 5 _ rfl _ _ rfl 1 H _ (.int _ _) rfl rfl (by decide +kernel) ?_) | (refine wpList_mmk rfl _ _ _ rfl H _ _ rfl rfl HM2.out ?_; clear H; intro Rn w1 _ H) | fail)
  go_ret
  exact ⟨rfl, H.toBelow⟩
end Go.Proofs.YtbonamhinnhlnaaGreatDoor
