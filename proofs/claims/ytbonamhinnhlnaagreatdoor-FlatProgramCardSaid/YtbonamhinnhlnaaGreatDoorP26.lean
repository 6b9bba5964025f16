/-
  Several texts in one: what is read and written by the functions on the way to the statements. Conditions stand in each theorem.
-/
import Derived.Test.YtbonamhinnhlnaaGreatDoorP07
import Derived.Test.YtbonamhinnhlnaaGreatDoorP10
import Derived.Test.YtbonamhinnhlnaaGreatDoorP25
namespace Go.Proofs.YtbonamhinnhlnaaGreatDoor
open Go.RowKit
set_option linter.unusedSimpArgs false
set_option linter.unusedVariables false
set_option maxRecDepth 20000

def askF : AskI → FuncId
  | .pc => 82
  | .addr => 105
  | .stack => 123
  | .vec => 133
  | .vec1 => 134
  | .fin => 109
  | .high => 125
  | .low => 127
  | .flags => 132
  | .one => 136
  | .data => 149
  | .stored => 147
  | .changed => 150
def doF : DoI → FuncId
  | .begin => 83
  | .alone => 97
  | .accA => 98
  | .doOn => 99
  | .branch => 100
  | .aim => 101
  | .leave => 102
  | .keepOn => 103
  | .addrOn => 104
  | .keepInPage => 106
  | .jump => 107
  | .jam => 110
  | .rest => 124
  | .pushed => 126
  | .pulled => 128
  | .pullData => 129
  | .on => 118
  | .pullFlags => 130
  | .breakOn => 131
  | .keep => 121
  | .interrupt => 135
  | .pullOne => 137
  | .zeroOn => 138
  | .addX => 139
  | .addY => 140
  | .reachX => 141
  | .reachY => 143
  | .cross => 142
  | .keepInZero => 144
  | .point => 145
  | .pointY => 146
  | .stored => 148
  | .changed => 151
  | .does => 117
def stc (e : AskI × DoI) : List Value := [.func (.func (askF e.1)) #[] #[], .func (.func (doF e.2)) #[] #[]]
def stC (l : List (AskI × DoI)) : Array Value := (l.flatMap stc).toArray
theorem stc_len (e : AskI × DoI) : (stc e).length = 2 := rfl
theorem stc_one (e : AskI × DoI) : ∀ u ∈ stc e, u.oneCell' = true := by
  intro u hu
  simp only [stc, List.mem_cons, List.not_mem_nil, or_false] at hu
  rcases hu with rfl | rfl <;> rfl
def RB (l : List (AskI × DoI)) (w : World) (e : Ending) (w' : World) : Prop := ∃ R, e = .returned (.slice (some ⟨R, 0, none⟩) l.length l.length) ∧ Mem w.heap.size [] w w' [(R, stC l)]
theorem rbOf {l l' : List (AskI × DoI)} {R : Nat} {w w' : World} (H : Mem w.heap.size [] w w' [(R, stC l')]) (e : l = l') : RB l w (.returned (.slice (some ⟨R, 0, none⟩) l'.length l'.length)) w' := ⟨R, by rw [e], by rw [e]; exact H⟩
def StepP (l : List (AskI × DoI)) (w : World) (e : Ending) (w' : World) : Prop := ∃ v blk, e = .returned v ∧ RowAt stc 2 v l blk ∧ Mem w.heap.size [] w w' blk
theorem rowg_lit (l : List (AskI × DoI)) (h : l.length ≤ 20) : RowG stc 2 (stC l) l.length l :=
  ⟨by unfold stC; rw [List.size_toArray, flatG_len stc_len], Nat.le_refl _, by unfold maxLen; omega, fun j u hu => by unfold stC; simpa using hu⟩
theorem rowat_lit (l : List (AskI × DoI)) (R : Nat) (h : l.length ≤ 20) : RowAt stc 2 (.slice (some ⟨R, 0, none⟩) l.length l.length) l [(R, stC l)] := .inr ⟨R, _, _, rfl, rfl, rowg_lit l h⟩
theorem spOf {l l' : List (AskI × DoI)} {R : Nat} {w w' : World} (H : Mem w.heap.size [] w w' [(R, stC l')]) (e : l = l') (h : l'.length ≤ 20) : StepP l w (.returned (.slice (some ⟨R, 0, none⟩) l'.length l'.length)) w' := ⟨_, _, rfl, by rw [e]; exact rowat_lit l' R h, H⟩
theorem info_st : (Tryz.prog.info? 108).map (fun i => (i.zero, i.size, i.bytes)) = some (some (.agg #[.nilFunc, .nilFunc]), 2, 16) := by kernel_rfl
theorem kStep : ElemK Tryz.prog 133 108 2 where
  sl := by kernel_rfl
  inf := by
    obtain ⟨i, hi, he⟩ := Option.map_eq_some_iff.1 info_st
    simp only [Prod.mk.injEq] at he
    exact ⟨i, _, hi, he.1, he.2.1, rfl, by rw [he.2.2]; decide⟩
theorem bs_works3 (w : World) : (Instr.buildSlice 133 1 #[(0, .agg #[.func (.func 147) #[] #[], .func (.func 148) #[] #[]])]).run Tryz.prog w = .ok (.slice (some ⟨w.heap.size, 0, none⟩) 1 1) (w.alloc (.cells (stC [(.stored, .stored)]) 108)) := by kernel_rfl
theorem bs_works5 (w : World) : (Instr.buildSlice 133 3 #[(0, .agg #[.func (.func 105) #[] #[], .func (.func 121) #[] #[]]), (1, .agg #[.func (.func 149) #[] #[], .func (.func 124) #[] #[]]), (2, .agg #[.func (.func 150) #[] #[], .func (.func 151) #[] #[]])]).run Tryz.prog w = .ok (.slice (some ⟨w.heap.size, 0, none⟩) 3 3) (w.alloc (.cells (stC [(.addr, .keep), (.data, .rest), (.changed, .changed)]) 108)) := by kernel_rfl
theorem bs_works6 (w : World) : (Instr.buildSlice 133 1 #[(0, .agg #[.func (.func 105) #[] #[], .func (.func 117) #[] #[]])]).run Tryz.prog w = .ok (.slice (some ⟨w.heap.size, 0, none⟩) 1 1) (w.alloc (.cells (stC [(.addr, .does)]) 108)) := by kernel_rfl
theorem bs_ahead3 (w : World) : (Instr.buildSlice 133 2 #[(0, .agg #[.func (.func 82) #[] #[], .func (.func 138) #[] #[]]), (1, .agg #[.func (.func 105) #[] #[], .func (.func 139) #[] #[]])]).run Tryz.prog w = .ok (.slice (some ⟨w.heap.size, 0, none⟩) 2 2) (w.alloc (.cells (stC [(.pc, .zeroOn), (.addr, .addX)]) 108)) := by kernel_rfl
theorem bs_ahead5 (w : World) : (Instr.buildSlice 133 2 #[(0, .agg #[.func (.func 82) #[] #[], .func (.func 138) #[] #[]]), (1, .agg #[.func (.func 105) #[] #[], .func (.func 140) #[] #[]])]).run Tryz.prog w = .ok (.slice (some ⟨w.heap.size, 0, none⟩) 2 2) (w.alloc (.cells (stC [(.pc, .zeroOn), (.addr, .addY)]) 108)) := by kernel_rfl
theorem bs_ahead7 (w : World) : (Instr.buildSlice 133 2 #[(0, .agg #[.func (.func 82) #[] #[], .func (.func 103) #[] #[]]), (1, .agg #[.func (.func 82) #[] #[], .func (.func 104) #[] #[]])]).run Tryz.prog w = .ok (.slice (some ⟨w.heap.size, 0, none⟩) 2 2) (w.alloc (.cells (stC [(.pc, .keepOn), (.pc, .addrOn)]) 108)) := by kernel_rfl
theorem bs_ahead9 (w : World) : (Instr.buildSlice 133 3 #[(0, .agg #[.func (.func 82) #[] #[], .func (.func 103) #[] #[]]), (1, .agg #[.func (.func 82) #[] #[], .func (.func 141) #[] #[]]), (2, .agg #[.func (.func 105) #[] #[], .func (.func 142) #[] #[]])]).run Tryz.prog w = .ok (.slice (some ⟨w.heap.size, 0, none⟩) 3 3) (w.alloc (.cells (stC [(.pc, .keepOn), (.pc, .reachX), (.addr, .cross)]) 108)) := by kernel_rfl
theorem bs_ahead11 (w : World) : (Instr.buildSlice 133 3 #[(0, .agg #[.func (.func 82) #[] #[], .func (.func 103) #[] #[]]), (1, .agg #[.func (.func 82) #[] #[], .func (.func 143) #[] #[]]), (2, .agg #[.func (.func 105) #[] #[], .func (.func 142) #[] #[]])]).run Tryz.prog w = .ok (.slice (some ⟨w.heap.size, 0, none⟩) 3 3) (w.alloc (.cells (stC [(.pc, .keepOn), (.pc, .reachY), (.addr, .cross)]) 108)) := by kernel_rfl
theorem bs_ahead13 (w : World) : (Instr.buildSlice 133 4 #[(0, .agg #[.func (.func 82) #[] #[], .func (.func 138) #[] #[]]), (1, .agg #[.func (.func 105) #[] #[], .func (.func 139) #[] #[]]), (2, .agg #[.func (.func 105) #[] #[], .func (.func 144) #[] #[]]), (3, .agg #[.func (.func 105) #[] #[], .func (.func 145) #[] #[]])]).run Tryz.prog w = .ok (.slice (some ⟨w.heap.size, 0, none⟩) 4 4) (w.alloc (.cells (stC [(.pc, .zeroOn), (.addr, .addX), (.addr, .keepInZero), (.addr, .point)]) 108)) := by kernel_rfl
theorem bs_ahead15 (w : World) : (Instr.buildSlice 133 4 #[(0, .agg #[.func (.func 82) #[] #[], .func (.func 138) #[] #[]]), (1, .agg #[.func (.func 105) #[] #[], .func (.func 144) #[] #[]]), (2, .agg #[.func (.func 105) #[] #[], .func (.func 146) #[] #[]]), (3, .agg #[.func (.func 105) #[] #[], .func (.func 142) #[] #[]])]).run Tryz.prog w = .ok (.slice (some ⟨w.heap.size, 0, none⟩) 4 4) (w.alloc (.cells (stC [(.pc, .zeroOn), (.addr, .keepInZero), (.addr, .pointY), (.addr, .cross)]) 108)) := by kernel_rfl
theorem bs_ahead16 (w : World) : (Instr.buildSlice 133 1 #[(0, .agg #[.func (.func 82) #[] #[], .func (.func 138) #[] #[]])]).run Tryz.prog w = .ok (.slice (some ⟨w.heap.size, 0, none⟩) 1 1) (w.alloc (.cells (stC [(.pc, .zeroOn)]) 108)) := by kernel_rfl
theorem bs_ofStack3 (w : World) : (Instr.buildSlice 133 5 #[(0, .agg #[.func (.func 82) #[] #[], .func (.func 103) #[] #[]]), (1, .agg #[.func (.func 123) #[] #[], .func (.func 124) #[] #[]]), (2, .agg #[.func (.func 125) #[] #[], .func (.func 126) #[] #[]]), (3, .agg #[.func (.func 127) #[] #[], .func (.func 126) #[] #[]]), (4, .agg #[.func (.func 82) #[] #[], .func (.func 107) #[] #[]])]).run Tryz.prog w = .ok (.slice (some ⟨w.heap.size, 0, none⟩) 5 5) (w.alloc (.cells (stC [(.pc, .keepOn), (.stack, .rest), (.high, .pushed), (.low, .pushed), (.pc, .jump)]) 108)) := by kernel_rfl
theorem bs_ofStack5 (w : World) : (Instr.buildSlice 133 5 #[(0, .agg #[.func (.func 82) #[] #[], .func (.func 124) #[] #[]]), (1, .agg #[.func (.func 123) #[] #[], .func (.func 128) #[] #[]]), (2, .agg #[.func (.func 123) #[] #[], .func (.func 129) #[] #[]]), (3, .agg #[.func (.func 123) #[] #[], .func (.func 107) #[] #[]]), (4, .agg #[.func (.func 82) #[] #[], .func (.func 118) #[] #[]])]).run Tryz.prog w = .ok (.slice (some ⟨w.heap.size, 0, none⟩) 5 5) (w.alloc (.cells (stC [(.pc, .rest), (.stack, .pulled), (.stack, .pullData), (.stack, .jump), (.pc, .on)]) 108)) := by kernel_rfl
theorem bs_ofStack7 (w : World) : (Instr.buildSlice 133 5 #[(0, .agg #[.func (.func 82) #[] #[], .func (.func 124) #[] #[]]), (1, .agg #[.func (.func 123) #[] #[], .func (.func 128) #[] #[]]), (2, .agg #[.func (.func 123) #[] #[], .func (.func 130) #[] #[]]), (3, .agg #[.func (.func 123) #[] #[], .func (.func 129) #[] #[]]), (4, .agg #[.func (.func 123) #[] #[], .func (.func 107) #[] #[]])]).run Tryz.prog w = .ok (.slice (some ⟨w.heap.size, 0, none⟩) 5 5) (w.alloc (.cells (stC [(.pc, .rest), (.stack, .pulled), (.stack, .pullFlags), (.stack, .pullData), (.stack, .jump)]) 108)) := by kernel_rfl
theorem bs_ofStack9 (w : World) : (Instr.buildSlice 133 6 #[(0, .agg #[.func (.func 82) #[] #[], .func (.func 131) #[] #[]]), (1, .agg #[.func (.func 125) #[] #[], .func (.func 126) #[] #[]]), (2, .agg #[.func (.func 127) #[] #[], .func (.func 126) #[] #[]]), (3, .agg #[.func (.func 132) #[] #[], .func (.func 126) #[] #[]]), (4, .agg #[.func (.func 133) #[] #[], .func (.func 121) #[] #[]]), (5, .agg #[.func (.func 134) #[] #[], .func (.func 135) #[] #[]])]).run Tryz.prog w = .ok (.slice (some ⟨w.heap.size, 0, none⟩) 6 6) (w.alloc (.cells (stC [(.pc, .breakOn), (.high, .pushed), (.low, .pushed), (.flags, .pushed), (.vec, .keep), (.vec1, .interrupt)]) 108)) := by kernel_rfl
theorem bs_ofStack11 (w : World) : (Instr.buildSlice 133 2 #[(0, .agg #[.func (.func 82) #[] #[], .func (.func 124) #[] #[]]), (1, .agg #[.func (.func 136) #[] #[], .func (.func 126) #[] #[]])]).run Tryz.prog w = .ok (.slice (some ⟨w.heap.size, 0, none⟩) 2 2) (w.alloc (.cells (stC [(.pc, .rest), (.one, .pushed)]) 108)) := by kernel_rfl
theorem bs_ofStack12 (w : World) : (Instr.buildSlice 133 3 #[(0, .agg #[.func (.func 82) #[] #[], .func (.func 124) #[] #[]]), (1, .agg #[.func (.func 123) #[] #[], .func (.func 128) #[] #[]]), (2, .agg #[.func (.func 123) #[] #[], .func (.func 137) #[] #[]])]).run Tryz.prog w = .ok (.slice (some ⟨w.heap.size, 0, none⟩) 3 3) (w.alloc (.cells (stC [(.pc, .rest), (.stack, .pulled), (.stack, .pullOne)]) 108)) := by kernel_rfl
theorem bs_steps3 (w : World) : (Instr.buildSlice 133 1 #[(0, .agg #[.func (.func 82) #[] #[], .func (.func 97) #[] #[]])]).run Tryz.prog w = .ok (.slice (some ⟨w.heap.size, 0, none⟩) 1 1) (w.alloc (.cells (stC [(.pc, .alone)]) 108)) := by kernel_rfl
theorem bs_steps5 (w : World) : (Instr.buildSlice 133 1 #[(0, .agg #[.func (.func 82) #[] #[], .func (.func 98) #[] #[]])]).run Tryz.prog w = .ok (.slice (some ⟨w.heap.size, 0, none⟩) 1 1) (w.alloc (.cells (stC [(.pc, .accA)]) 108)) := by kernel_rfl
theorem bs_steps7 (w : World) : (Instr.buildSlice 133 1 #[(0, .agg #[.func (.func 82) #[] #[], .func (.func 99) #[] #[]])]).run Tryz.prog w = .ok (.slice (some ⟨w.heap.size, 0, none⟩) 1 1) (w.alloc (.cells (stC [(.pc, .doOn)]) 108)) := by kernel_rfl
theorem bs_steps9 (w : World) : (Instr.buildSlice 133 3 #[(0, .agg #[.func (.func 82) #[] #[], .func (.func 100) #[] #[]]), (1, .agg #[.func (.func 82) #[] #[], .func (.func 101) #[] #[]]), (2, .agg #[.func (.func 82) #[] #[], .func (.func 102) #[] #[]])]).run Tryz.prog w = .ok (.slice (some ⟨w.heap.size, 0, none⟩) 3 3) (w.alloc (.cells (stC [(.pc, .branch), (.pc, .aim), (.pc, .leave)]) 108)) := by kernel_rfl
theorem bs_steps11 (w : World) : (Instr.buildSlice 133 4 #[(0, .agg #[.func (.func 82) #[] #[], .func (.func 103) #[] #[]]), (1, .agg #[.func (.func 82) #[] #[], .func (.func 104) #[] #[]]), (2, .agg #[.func (.func 105) #[] #[], .func (.func 106) #[] #[]]), (3, .agg #[.func (.func 105) #[] #[], .func (.func 107) #[] #[]])]).run Tryz.prog w = .ok (.slice (some ⟨w.heap.size, 0, none⟩) 4 4) (w.alloc (.cells (stC [(.pc, .keepOn), (.pc, .addrOn), (.addr, .keepInPage), (.addr, .jump)]) 108)) := by kernel_rfl
theorem bs_steps13 (w : World) : (Instr.buildSlice 133 2 #[(0, .agg #[.func (.func 82) #[] #[], .func (.func 103) #[] #[]]), (1, .agg #[.func (.func 82) #[] #[], .func (.func 107) #[] #[]])]).run Tryz.prog w = .ok (.slice (some ⟨w.heap.size, 0, none⟩) 2 2) (w.alloc (.cells (stC [(.pc, .keepOn), (.pc, .jump)]) 108)) := by kernel_rfl
theorem bs_steps22 (w : World) : (Instr.buildSlice 133 1 #[(0, .agg #[.func (.func 109) #[] #[], .func (.func 110) #[] #[]])]).run Tryz.prog w = .ok (.slice (some ⟨w.heap.size, 0, none⟩) 1 1) (w.alloc (.cells (stC [(.fin, .jam)]) 108)) := by kernel_rfl
set_option maxHeartbeats 4000000 in
theorem works_ct (k : Int) (w : World) : Calls Tryz.prog 112 #[.int .i64 k] w (RB (worksL k) w) := by
  have H := Mem.start w
  go_enter Tryz.func112, Tryz.ntmps112
  go_wp2_with (first | (refine wpList_mrow rfl _ _ _ rfl H _ (by simp only [List.map_toArray, List.map_cons, List.map_nil, Act.eval]; rfl) _ _ bs_works3 ?_; clear H; intro _ w1 H) | (refine wpList_mrow rfl _ _ _ rfl H _ (by simp only [List.map_toArray, List.map_cons, List.map_nil, Act.eval]; rfl) _ _ bs_works5 ?_; clear H; intro _ w1 H) | (refine wpList_mrow rfl _ _ _ rfl H _ (by simp only [List.map_toArray, List.map_cons, List.map_nil, Act.eval]; rfl) _ _ bs_works6 ?_; clear H; intro _ w1 H) | fail)
  all_goals (go_ret; refine rbOf H ?_; simp_all [worksL])
set_option maxHeartbeats 4000000 in
theorem ahead_ct (k : Int) (w : World) : Calls Tryz.prog 111 #[.int .i64 k] w (RB (aheadL k) w) := by
  have H := Mem.start w
  go_enter Tryz.func111, Tryz.ntmps111
  go_wp2_with (first | (refine wpList_mrow rfl _ _ _ rfl H _ (by simp only [List.map_toArray, List.map_cons, List.map_nil, Act.eval]; rfl) _ _ bs_ahead3 ?_; clear H; intro _ w1 H) | (refine wpList_mrow rfl _ _ _ rfl H _ (by simp only [List.map_toArray, List.map_cons, List.map_nil, Act.eval]; rfl) _ _ bs_ahead5 ?_; clear H; intro _ w1 H) | (refine wpList_mrow rfl _ _ _ rfl H _ (by simp only [List.map_toArray, List.map_cons, List.map_nil, Act.eval]; rfl) _ _ bs_ahead7 ?_; clear H; intro _ w1 H) | (refine wpList_mrow rfl _ _ _ rfl H _ (by simp only [List.map_toArray, List.map_cons, List.map_nil, Act.eval]; rfl) _ _ bs_ahead9 ?_; clear H; intro _ w1 H) | (refine wpList_mrow rfl _ _ _ rfl H _ (by simp only [List.map_toArray, List.map_cons, List.map_nil, Act.eval]; rfl) _ _ bs_ahead11 ?_; clear H; intro _ w1 H) | (refine wpList_mrow rfl _ _ _ rfl H _ (by simp only [List.map_toArray, List.map_cons, List.map_nil, Act.eval]; rfl) _ _ bs_ahead13 ?_; clear H; intro _ w1 H) | (refine wpList_mrow rfl _ _ _ rfl H _ (by simp only [List.map_toArray, List.map_cons, List.map_nil, Act.eval]; rfl) _ _ bs_ahead15 ?_; clear H; intro _ w1 H) | (refine wpList_mrow rfl _ _ _ rfl H _ (by simp only [List.map_toArray, List.map_cons, List.map_nil, Act.eval]; rfl) _ _ bs_ahead16 ?_; clear H; intro _ w1 H) | fail)
  all_goals (go_ret; refine rbOf H ?_; simp_all [aheadL])
set_option maxHeartbeats 4000000 in
theorem ofstack_ct (k : Int) (w : World) : Calls Tryz.prog 108 #[.int .i64 k] w (RB (stackL k) w) := by
  have H := Mem.start w
  go_enter Tryz.func108, Tryz.ntmps108
  go_wp2_with (first | (refine wpList_mrow rfl _ _ _ rfl H _ (by simp only [List.map_toArray, List.map_cons, List.map_nil, Act.eval]; rfl) _ _ bs_ofStack3 ?_; clear H; intro _ w1 H) | (refine wpList_mrow rfl _ _ _ rfl H _ (by simp only [List.map_toArray, List.map_cons, List.map_nil, Act.eval]; rfl) _ _ bs_ofStack5 ?_; clear H; intro _ w1 H) | (refine wpList_mrow rfl _ _ _ rfl H _ (by simp only [List.map_toArray, List.map_cons, List.map_nil, Act.eval]; rfl) _ _ bs_ofStack7 ?_; clear H; intro _ w1 H) | (refine wpList_mrow rfl _ _ _ rfl H _ (by simp only [List.map_toArray, List.map_cons, List.map_nil, Act.eval]; rfl) _ _ bs_ofStack9 ?_; clear H; intro _ w1 H) | (refine wpList_mrow rfl _ _ _ rfl H _ (by simp only [List.map_toArray, List.map_cons, List.map_nil, Act.eval]; rfl) _ _ bs_ofStack11 ?_; clear H; intro _ w1 H) | (refine wpList_mrow rfl _ _ _ rfl H _ (by simp only [List.map_toArray, List.map_cons, List.map_nil, Act.eval]; rfl) _ _ bs_ofStack12 ?_; clear H; intro _ w1 H) | fail)
  all_goals (go_ret; refine rbOf H ?_; simp_all [stackL])
theorem ahead_len (md : Int) : 1 ≤ (aheadL md).length ∧ (aheadL md).length ≤ 4 := by
  unfold aheadL
  split
  · decide
  split
  · decide
  split
  · decide
  split
  · decide
  split
  · decide
  split
  · decide
  split <;> decide
theorem stack_len (md : Int) : (stackL md).length ≤ 20 := by
  unfold stackL
  split
  · decide
  split
  · decide
  split
  · decide
  split
  · decide
  split <;> decide
theorem works_len (us : Int) : 1 ≤ (worksL us).length ∧ (worksL us).length ≤ 3 := by
  unfold worksL
  split
  · decide
  split <;> decide
abbrev G3 := Nat × Nat × Array Value
attribute [local irreducible] wpList
set_option maxHeartbeats 8000000 in
theorem steps_ct (nm : ByteArray) (md us cy : Int) (xr gd : Bool) (w : World) : Calls Tryz.prog 84 #[.agg (opC nm md us cy xr gd)] w (StepP (stepsL md us) w) := by
  have H := Mem.start w
  have MR1 : True := trivial
  go_enter Tryz.func84, Tryz.ntmps84
  go_wp2_with (first | (go_at_call 108; (with_reducible refine (ofstack_ct _ _).mono ?_); intro e w2 hB; obtain ⟨R2, rfl, hm⟩ := hB; replace H := H.join hm; clear hm) | (refine wpList_mrow rfl _ _ _ rfl H _ (by simp only [List.map_toArray, List.map_cons, List.map_nil, Act.eval]; rfl) _ _ bs_steps3 ?_; clear H; intro _ w1 H) | (refine wpList_mrow rfl _ _ _ rfl H _ (by simp only [List.map_toArray, List.map_cons, List.map_nil, Act.eval]; rfl) _ _ bs_steps5 ?_; clear H; intro _ w1 H) | (refine wpList_mrow rfl _ _ _ rfl H _ (by simp only [List.map_toArray, List.map_cons, List.map_nil, Act.eval]; rfl) _ _ bs_steps7 ?_; clear H; intro _ w1 H) | (refine wpList_mrow rfl _ _ _ rfl H _ (by simp only [List.map_toArray, List.map_cons, List.map_nil, Act.eval]; rfl) _ _ bs_steps9 ?_; clear H; intro _ w1 H) | (refine wpList_mrow rfl _ _ _ rfl H _ (by simp only [List.map_toArray, List.map_cons, List.map_nil, Act.eval]; rfl) _ _ bs_steps11 ?_; clear H; intro _ w1 H) | (refine wpList_mrow rfl _ _ _ rfl H _ (by simp only [List.map_toArray, List.map_cons, List.map_nil, Act.eval]; rfl) _ _ bs_steps13 ?_; clear H; intro _ w1 H) | (refine wpList_mrow rfl _ _ _ rfl H _ (by simp only [List.map_toArray, List.map_cons, List.map_nil, Act.eval]; rfl) _ _ bs_steps22 ?_; clear H; intro _ w1 H) | (refine wpList_mboxA rfl _ _ rfl H _ rfl ?_; clear H; (first | (clear MR1; intro R1 w1 _ H))) | go_skip | (refine gate_load _ _ rfl ?_; (refine wpList_mload1 rfl _ _ rfl _ _ rfl 0 H _ (.int _ _) rfl rfl (by decide +kernel) ?_)) | fail)
  all_goals (first | (go_ret; refine spOf (H.only (i := 0) rfl) ?_ (by decide); clear H; (first | ((have hh : (md == 0) = true := by assumption); obtain rfl := eq_of_beq hh; rfl) | ((have hh : (md == 1) = true := by assumption); obtain rfl := eq_of_beq hh; rfl) | ((have hh : (md == 2) = true := by assumption); obtain rfl := eq_of_beq hh; rfl) | ((have hh : (md == 11) = true := by assumption); obtain rfl := eq_of_beq hh; rfl) | ((have hh : (md == 12) = true := by assumption); obtain rfl := eq_of_beq hh; rfl) | ((have hh : (md == 13) = true := by assumption); obtain rfl := eq_of_beq hh; rfl) | ((have hh : (md == 20) = true := by assumption); obtain rfl := eq_of_beq hh; rfl)); done) | (go_ret; refine spOf (H.only (i := 0) rfl) ?_ (stack_len _); clear H; (first | ((have hh : (md == 14) = true := by assumption); obtain rfl := eq_of_beq hh; rfl) | ((have hh : (md == 15) = true := by assumption); obtain rfl := eq_of_beq hh; rfl) | ((have hh : (md == 16) = true := by assumption); obtain rfl := eq_of_beq hh; rfl) | ((have hh : (md == 17) = true := by assumption); obtain rfl := eq_of_beq hh; rfl) | ((have hh : (md == 18) = true := by assumption); obtain rfl := eq_of_beq hh; rfl) | ((have hh : (md == 19) = true := by assumption); obtain rfl := eq_of_beq hh; rfl)); done) | skip)
  (try simp only [Act.put, List.setIfInBounds_toArray, List.set_cons_succ, List.set_cons_zero])
  have la := ahead_len md
  have lw := works_len us
  refine wp_region_y ((0, 0, #[]) : G3) (by kernel_rfl) (by kernel_rfl) [(some 49, fun _ => .pointer (some ⟨R1, 1, none⟩)), (some 50, fun _ => .int .i64 md), (some 51, fun g : G3 => .slice (some ⟨g.1, 0, none⟩) (aheadL md).length (aheadL md).length), (some 52, fun _ => .pointer (some ⟨R1, 2, none⟩)), (some 53, fun _ => .int .i64 us), (some 54, fun g : G3 => .slice (some ⟨g.1, 0, none⟩) (worksL us).length (worksL us).length), (some 55, fun g : G3 => .slice (some ⟨g.1, 0, none⟩) (aheadL md ++ worksL us).length g.2.1), (some 2, fun g : G3 => .slice (some ⟨g.1, 0, none⟩) (aheadL md ++ worksL us).length g.2.1)] (fun D b w2 => (D 6 = false → Mem w.heap.size [] w w2 (cond (D 5) (((b 5).1, stC (worksL us)) :: cond (D 2) (((b 2).1, stC (aheadL md)) :: [(R1, opC nm md us cy xr gd)]) [(R1, opC nm md us cy xr gd)]) (cond (D 2) (((b 2).1, stC (aheadL md)) :: [(R1, opC nm md us cy xr gd)]) [(R1, opC nm md us cy xr gd)]))) ∧ (D 6 = true → RowAt stc 2 (.slice (some ⟨(b 6).1, 0, none⟩) (aheadL md ++ worksL us).length (b 6).2.1) (aheadL md ++ worksL us) [((b 6).1, (b 6).2.2)] ∧ Mem w.heap.size [] w w2 [((b 6).1, (b 6).2.2)] ∧ (D 7 = true → b 7 = b 6))) 56 (by rfl) (by rfl) (by rfl) ⟨fun _ => H.drew, fun h => by cases h⟩ ⟨⟨rfl, ?p0⟩, ⟨rfl, ?p1⟩, ⟨rfl, ?p2⟩, ⟨rfl, ?p3⟩, ⟨rfl, ?p4⟩, ⟨rfl, ?p5⟩, ⟨rfl, ?p6⟩, ⟨rfl, ?p7⟩, trivial⟩ ?_
  case p0 =>
    intro D b a' w' hk hc he hl hW
    have f1 : a'.tmps.getD 1 undef = .pointer (some ⟨R1, 0, none⟩) := (hl 1).trans ((vsy_no rfl).trans rfl)
    exact wp_val (.pointer (some ⟨R1, 1, none⟩)) (by simp only [execOp, Act.eval, List.map_toArray, List.map_cons, List.map_nil]; rw [f1]; kernel_rfl) ⟨(0, 0, #[]), rfl, hW⟩
  case p1 =>
    intro D b a' w' hk hc he hl hW
    have e0 : a'.tmps.getD 49 undef = .pointer (some ⟨R1, 1, none⟩) := (hl 49).trans (vsy_at (f := fun _ => .pointer (some ⟨R1, 1, none⟩)) rfl (he ⟨0, .data⟩ (by simp) rfl) rfl)
    have n2 : D 2 = false := hc.no .data hk rfl (by simp) rfl
    have n6 : D 6 = false := hc.no .data n2 rfl (by simp) rfl
    have hM := hW.1 n6
    exact wp_sload1 _ _ rfl _ _ e0 0 (Mem.condB (Mem.condB hM)) (opC nm md us cy xr gd) (.int .i64 md) rfl rfl (by decide +kernel) ⟨(0, 0, #[]), rfl, hW⟩
  case p2 =>
    intro D b a' w' hk hc he hl hW
    have e1 : a'.tmps.getD 50 undef = .int .i64 md := (hl 50).trans (vsy_at (f := fun _ => .int .i64 md) rfl (he ⟨1, .data⟩ (by simp) rfl) rfl)
    have n6 : D 6 = false := hc.no .data hk rfl (by simp) rfl
    have n5 : D 5 = false := hc.no .chain hk rfl (by simp) rfl
    have hM := hW.1 n6
    simp only [hk, n5, cond_false] at hM
    refine wp_callp (vals := #[.int .i64 md]) rfl rfl (by simp only [List.map_toArray, List.map_cons, List.map_nil, Act.eval, e1]) (by kernel_rfl) (ahead_ct md w') ?_
    rintro e w2 ⟨R, rfl, hm⟩
    refine ⟨_, rfl, (R, 0, #[]), rfl, fun _ => ?_, fun h => Bool.noConfusion (n6.symm.trans h)⟩
    have hj := Mem.join hM hm
    (try dsimp only)
    have z5 : doneB D 2 5 = false := n5
    simp only [z5, cond_false]
    exact hj
  case p3 =>
    intro D b a' w' hk hc he hl hW
    have f1 : a'.tmps.getD 1 undef = .pointer (some ⟨R1, 0, none⟩) := (hl 1).trans ((vsy_no rfl).trans rfl)
    exact wp_val (.pointer (some ⟨R1, 2, none⟩)) (by simp only [execOp, Act.eval, List.map_toArray, List.map_cons, List.map_nil]; rw [f1]; kernel_rfl) ⟨(0, 0, #[]), rfl, hW⟩
  case p4 =>
    intro D b a' w' hk hc he hl hW
    have e0 : a'.tmps.getD 52 undef = .pointer (some ⟨R1, 2, none⟩) := (hl 52).trans (vsy_at (f := fun _ => .pointer (some ⟨R1, 2, none⟩)) rfl (he ⟨3, .data⟩ (by simp) rfl) rfl)
    have n5 : D 5 = false := hc.no .data hk rfl (by simp) rfl
    have n6 : D 6 = false := hc.no .data n5 rfl (by simp) rfl
    have hM := hW.1 n6
    exact wp_sload1 _ _ rfl _ _ e0 0 (Mem.condB (Mem.condB hM)) (opC nm md us cy xr gd) (.int .i64 us) rfl rfl (by decide +kernel) ⟨(0, 0, #[]), rfl, hW⟩
  case p5 =>
    intro D b a' w' hk hc he hl hW
    have e4 : a'.tmps.getD 53 undef = .int .i64 us := (hl 53).trans (vsy_at (f := fun _ => .int .i64 us) rfl (he ⟨4, .data⟩ (by simp) rfl) rfl)
    have n6 : D 6 = false := hc.no .data hk rfl (by simp) rfl
    have y2 : D 2 = true := he ⟨2, .chain⟩ (by simp) rfl
    have hM := hW.1 n6
    simp only [hk, y2, cond_false, cond_true] at hM
    refine wp_callp (vals := #[.int .i64 us]) rfl rfl (by simp only [List.map_toArray, List.map_cons, List.map_nil, Act.eval, e4]) (by kernel_rfl) (works_ct us w') ?_
    rintro e w2 ⟨R, rfl, hm⟩
    refine ⟨_, rfl, (R, 0, #[]), rfl, fun _ => ?_, fun h => Bool.noConfusion (n6.symm.trans h)⟩
    have hj := Mem.join hM hm
    (try dsimp only)
    have z2 : doneB D 5 2 = true := y2
    simp only [z2, cond_true]
    exact hj
  case p6 =>
    intro D b a' w' hk hc he hl hW
    have y2 : D 2 = true := he ⟨2, .data⟩ (by simp) rfl
    have y5 : D 5 = true := he ⟨5, .data⟩ (by simp) rfl
    have n7 : D 7 = false := hc.no .data hk rfl (by simp) rfl
    have e2 : a'.tmps.getD 51 undef = .slice (some ⟨(b 2).1, 0, none⟩) (aheadL md).length (aheadL md).length := (hl 51).trans (vsy_at (f := fun g : G3 => .slice (some ⟨g.1, 0, none⟩) (aheadL md).length (aheadL md).length) rfl y2 rfl)
    have e5 : a'.tmps.getD 54 undef = .slice (some ⟨(b 5).1, 0, none⟩) (worksL us).length (worksL us).length := (hl 54).trans (vsy_at (f := fun g : G3 => .slice (some ⟨g.1, 0, none⟩) (worksL us).length (worksL us).length) rfl y5 rfl)
    have hM := hW.1 hk
    simp only [y2, y5, cond_true] at hM
    obtain ⟨v', blk', w2, hrun, hA, hM2⟩ := mem_appG (P := Tryz.prog) kStep stc_len stc_one 133 (rowat_lit (aheadL md) (b 2).1 (by omega)) (worksL us) (worksL us).length rfl (by omega) (by omega) (l := [(R1, opC nm md us cy xr gd)]) hM
    rcases hA with ⟨_, h0, _⟩ | ⟨R, cs, cap, rfl, rfl, hG⟩
    · have hz := congrArg List.length h0
      rw [List.length_append, List.length_nil] at hz
      omega
    · exact wp_apx _ _ _ _ rfl _ _ e2 e5 _ w2 hrun ⟨(R, cap, cs), rfl, fun h => (by cases h), fun _ => ⟨.inr ⟨R, cs, cap, rfl, rfl, hG⟩, hM2.only (i := 0) rfl, fun h => Bool.noConfusion (n7.symm.trans h)⟩⟩
  case p7 =>
    intro D b a' w' hk hc he hl hW
    have y6 : D 6 = true := he ⟨6, .data⟩ (by simp) rfl
    have e6 : a'.tmps.getD 55 undef = .slice (some ⟨(b 6).1, 0, none⟩) (aheadL md ++ worksL us).length (b 6).2.1 := (hl 55).trans (vsy_at (f := fun g : G3 => .slice (some ⟨g.1, 0, none⟩) (aheadL md ++ worksL us).length g.2.1) rfl y6 rfl)
    have hh := hW.2 y6
    exact wp_val (.slice (some ⟨(b 6).1, 0, none⟩) (aheadL md ++ worksL us).length (b 6).2.1) (by simp only [execOp, Act.eval, List.map_toArray, List.map_cons, List.map_nil]; rw [e6]; kernel_rfl) ⟨b 6, rfl, fun h => Bool.noConfusion (y6.symm.trans h), fun _ => ⟨hh.1, hh.2.1, fun _ => rfl⟩⟩
  intro D b w2 hD hW
  have hh := hW.2 (hD 6 (by decide))
  have e7 := hh.2.2 (hD 7 (by decide))
  clear H
  have H := hh.2.1
  have hA := hh.1
  clear hW hh hD
  simp only [putAll, vsYf, Nat.reduceAdd, List.foldl_cons, List.foldl_nil, Act.put, List.setIfInBounds_toArray, List.set_cons_succ, List.set_cons_zero]
  rw [e7]
  go_wp2
  go_ret
  have n0 : md ≠ 0 := by simpa using ‹(md == 0) = false›
  have n1 : md ≠ 1 := by simpa using ‹(md == 1) = false›
  have n2 : md ≠ 2 := by simpa using ‹(md == 2) = false›
  have n11 : md ≠ 11 := by simpa using ‹(md == 11) = false›
  have n12 : md ≠ 12 := by simpa using ‹(md == 12) = false›
  have n13 : md ≠ 13 := by simpa using ‹(md == 13) = false›
  have n14 : md ≠ 14 := by simpa using ‹(md == 14) = false›
  have n15 : md ≠ 15 := by simpa using ‹(md == 15) = false›
  have n16 : md ≠ 16 := by simpa using ‹(md == 16) = false›
  have n17 : md ≠ 17 := by simpa using ‹(md == 17) = false›
  have n18 : md ≠ 18 := by simpa using ‹(md == 18) = false›
  have n19 : md ≠ 19 := by simpa using ‹(md == 19) = false›
  have n20 : md ≠ 20 := by simpa using ‹(md == 20) = false›
  have el : stepsL md us = aheadL md ++ worksL us := by
    unfold stepsL
    rw [if_neg n0, if_neg n1, if_neg n2, if_neg n11, if_neg n12, if_neg n13, if_neg (by omega), if_neg n20]
  exact ⟨_, _, rfl, by rw [el]; exact hA, H⟩
end Go.Proofs.YtbonamhinnhlnaaGreatDoor
