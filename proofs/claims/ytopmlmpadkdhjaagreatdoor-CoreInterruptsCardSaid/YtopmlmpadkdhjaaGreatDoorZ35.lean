/-
  Several texts in one: what is read and written by the functions on the way to the statements. Conditions stand in each theorem.
-/
import Derived.Test.YtopmlmpadkdhjaaGreatDoorZ34
namespace Go.Proofs.YtopmlmpadkdhjaaGreatDoor
open Go.RowKit
set_option linter.unusedSimpArgs false
set_option linter.unusedVariables false
set_option maxRecDepth 20000

theorem ret_tt {P : Program} {w : World} {a : Act} {fn : Func} {Rr : Ending → World → Prop} {q r : Tmp} (hf : fn.results = #[.tmp q, .tmp r]) (hd : a.defers = []) (v u : Value) (hq : a.tmps.getD q undef = v) (hr : a.tmps.getD r undef = u) (h : Rr (.returned (.tuple #[v, u])) w) : bodyPost P fn Rr .ret a w := by
  refine bodyPost_ret ?_ hd h
  have hq' : a.tmps[q]?.getD undef = v := by simpa using hq
  have hr' : a.tmps[r]?.getD undef = u := by simpa using hr
  simp [results, hf, hq', hr']
theorem build_s4 (w : World) : (Instr.buildSlice 55 4 #[(0, .int .u8 128), (1, .int .u8 64), (2, .int .u8 1), (3, .int .u8 2)]).run Tryz.prog w = .ok (.slice (some ⟨w.heap.size, 0, none⟩) 4 4) (w.alloc (.cells #[.int .u8 128, .int .u8 64, .int .u8 1, .int .u8 2] 5)) := by kernel_rfl
def flagB (op : Int) : Int := if op / 64 = 0 then 128 else if op / 64 = 1 then 64 else if op / 64 = 2 then 1 else 2
set_option maxHeartbeats 4000000 in
theorem kflag_ct (c : Cp) (op : Int) (O : Oct c) (o0 : 0 ≤ op) (o1 : op < 256) (w : World) : Calls Tryz.prog 17 #[.agg (cpC c), .int .u8 op] w fun e w' => e = .returned (.tuple #[.bool (decide (0 < bits .and .u8 c.p (flagB op))), .bool (op / 32 % 2 == 1)]) ∧ Below w.heap.size w w' := by
  have H := Mem.start w
  have hq : op / 64 = 0 ∨ op / 64 = 1 ∨ op / 64 = 2 ∨ op / 64 = 3 := by omega
  have hf : flagB op = if op / 64 = 0 then 128 else if op / 64 = 1 then 64 else if op / 64 = 2 then 1 else 2 := rfl
  rcases hq with hq | hq | hq | hq
  all_goals
    rw [hf, hq]
    clear hf
    have M1 : True := trivial
    have M2 : True := trivial
    go_enter Tryz.func17, Tryz.ntmps17
    go_wp2_with (first | (clear M1; refine wpList_mboxA rfl _ _ rfl H _ rfl ?_; clear H; intro Rc w1 _ H) | (refine wpList_mrow rfl _ _ _ rfl H #[(0, .int .u8 128), (1, .int .u8 64), (2, .int .u8 1), (3, .int .u8 2)] rfl _ _ build_s4 ?_; clear H; intro R1 w1 H) | (refine gate_load _ _ rfl ?_; refine wpList_mload1 rfl _ _ rfl _ _ rfl 1 (H.new _ _) _ (.int _ _) rfl rfl (by decide +kernel) ?_) | fail)
    refine ret_tt rfl rfl _ _ rfl rfl ?_
    exact ⟨rfl, (H.new _ _).toBelow⟩
end Go.Proofs.YtopmlmpadkdhjaaGreatDoor
