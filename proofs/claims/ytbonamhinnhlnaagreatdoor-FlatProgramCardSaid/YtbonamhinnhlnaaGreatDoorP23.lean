/-
  Several texts in one: what is read and written by the functions on the way to the statements. Conditions stand in each theorem.
-/
import Derived.Test.YtbonamhinnhlnaaGreatDoorP21
import Derived.Test.YtbonamhinnhlnaaGreatDoorP22
import Derived.WideMake
import Derived.Test.YtbonamhinnhlnaaGreatDoorP18
namespace Go.Proofs.YtbonamhinnhlnaaGreatDoor
open Go.RowKit
set_option linter.unusedSimpArgs false
set_option linter.unusedVariables false
set_option maxRecDepth 20000

/-- A map that was made since w0. -/
def MapAt (w0 w : World) (R : Nat) (es : Array MapEntry) (c : Nat) : Prop := Below w0.heap.size w0 w ∧ w0.heap.size ≤ R ∧ w.heap[R]? = some (.map es c)
theorem MapAt.as {w0 w : World} {R : Nat} {es es' : Array MapEntry} {c c' : Nat} (M : MapAt w0 w R es c) (h : es = es') (hc : c = c') : MapAt w0 w R es' c' := by
  subst h
  subst hc
  exact M
section
variable {P : Program} {ops : Array Oper} {rest : List Oper} {o : Oper} {a : Act} {w w0 : World} {Q : Exit → Act → World → Prop}
theorem wpList_mmap (hgd : Region.wanted o (yielded ops a.tmps) = true) (T : TypeId) (ho : o.op = .makeMap T none) (h : ∀ R w1, MapAt w w1 R #[] 0 → wpList P ops Q rest (a.put o.dst (.map (some R))) w1) : wpList P ops Q (o :: rest) a w :=
  wpList_want' hgd fun _ hK => by
    unfold Oper.wp execOp
    have hr : (Instr.makeMap T none).run P w = .ok (.map (some w.heap.size)) (w.alloc (.map #[] 0)) := run_makeMap_plain w T
    simp only [ho, Option.map_none, Sem.run_bind, hr, Result.andThen_ok, Sem.run_pure]
    exact hK _ _ (h _ _ ⟨(Below.refl _ _).alloc (Nat.le_refl _) _, Nat.le_refl _, (MapKept.heap_alloc w _).1⟩)
theorem wpList_minsert (hgd : Region.wanted o (yielded ops a.tmps) = true) (T : TypeId) (m k x : Operand) (ho : o.op = .insert T m k x) (hdst : o.dst = none) (R : Nat) (hm : a.eval m = .map (some R)) (s : ByteArray) (hk : a.eval k = .string s) (v : Value) (hx : a.eval x = v) (kt et : TypeId)
    (hT : P.underlying T = some (.map kt et)) (hK : P.underlying kt = some .string) {es : Array MapEntry} {c : Nat} (M : MapAt w0 w R es c) (hn : Instr.findNow .string (.string s) es.toList 0 = some none)
    (h : ∀ w1, MapAt w0 w1 R (es.push ⟨.string s, v, c⟩) (c + 1) → wpList P ops Q rest a w1) : wpList P ops Q (o :: rest) a w :=
  wpList_want' hgd fun _ hK' => by
    unfold Oper.wp execOp
    have hc : (Instr.checkKey false 10000 kt (.string s)).run P w = .ok () w := MapKept.run_checkKey (k := .string s) hK (by simp [MapKept.IsKey]) false 9999
    have hr : (Instr.mapUpdate T (.map (some R)) (.string s) v).run P w = .ok () { w with heap := w.heap.setIfInBounds R (.map (es.push ⟨.string s, v, c⟩) (c + 1)) } := by
      simp [Instr.mapUpdate, run_underlying hT, MapKept.run_getObj_map M.2.2, hc, MapKept.run_findKey hK hn, MapKept.run_setObj_map _ M.2.2, Result.andThen]
    simp only [ho, hm, hk, hx, Sem.run_bind, hr, Result.andThen_ok, Sem.run_pure]
    refine hK' _ _ ?_
    rw [hdst]
    have hs := MapKept.heap_set (o' := .map (es.push ⟨.string s, v, c⟩) (c + 1)) M.2.2
    refine h _ ⟨⟨M.1.os, M.1.tape, M.1.output, ?_, fun j hj => ?_⟩, M.2.1, hs.1⟩
    · have := M.1.size
      simpa using this
    · exact (hs.2 j (by have := M.2.1; omega)).trans (M.1.block j hj)
theorem ex_lookup (T : TypeId) (x ix : Operand) (ho : o.op = .lookup T x ix false) (R : Nat) (hx : a.eval x = .map (some R)) (s : ByteArray) (hk : a.eval ix = .string s) (kt et : TypeId) (hT : P.underlying T = some (.map kt et)) (hK : P.underlying kt = some .string) {es : Array MapEntry} {c : Nat} (hb : w.heap[R]? = some (.map es c))
    {i : Nat} {v : Value} (hn : Instr.findNow .string (.string s) es.toList 0 = some (some (i, v))) : (execOp a.eval o).run P w = .ok (.value v) w := by
  have hc : (Instr.checkKey es.isEmpty 10000 kt (.string s)).run P w = .ok () w := MapKept.run_checkKey (k := .string s) hK (by simp [MapKept.IsKey]) _ 9999
  unfold execOp
  simp [ho, hx, hk, Instr.lookup, run_underlying hT, MapKept.run_getObj_map hb, hc, MapKept.run_findKey hK hn, Result.andThen]
end
theorem nmEq_eq {a b : ByteArray} (h : nmEq a b = true) : a = b := by
  unfold nmEq at h
  have := eq_of_beq h
  cases a
  cases b
  simpa using this
theorem MTalone : Tryz.prog.underlying 149 = some (.map 9 106) := by kernel_rfl
theorem KTalone : Tryz.prog.underlying 9 = some .string := by kernel_rfl
def aloneE : Array MapEntry := #[⟨.string ⟨#[84, 65, 88]⟩, .func (.func 152) #[] #[], 0⟩, ⟨.string ⟨#[84, 65, 89]⟩, .func (.func 153) #[] #[], 1⟩, ⟨.string ⟨#[84, 88, 65]⟩, .func (.func 154) #[] #[], 2⟩, ⟨.string ⟨#[84, 89, 65]⟩, .func (.func 155) #[] #[], 3⟩, ⟨.string ⟨#[84, 83, 88]⟩, .func (.func 156) #[] #[], 4⟩, ⟨.string ⟨#[84, 88, 83]⟩, .func (.func 157) #[] #[], 5⟩, ⟨.string ⟨#[73, 78, 88]⟩, .func (.func 158) #[] #[], 6⟩, ⟨.string ⟨#[73, 78, 89]⟩, .func (.func 159) #[] #[], 7⟩, ⟨.string ⟨#[68, 69, 88]⟩, .func (.func 160) #[] #[], 8⟩, ⟨.string ⟨#[68, 69, 89]⟩, .func (.func 161) #[] #[], 9⟩, ⟨.string ⟨#[67, 76, 67]⟩, .func (.func 162) #[] #[], 10⟩, ⟨.string ⟨#[67, 76, 68]⟩, .func (.func 163) #[] #[], 11⟩, ⟨.string ⟨#[67, 76, 73]⟩, .func (.func 164) #[] #[], 12⟩, ⟨.string ⟨#[67, 76, 86]⟩, .func (.func 165) #[] #[], 13⟩, ⟨.string ⟨#[83, 69, 67]⟩, .func (.func 166) #[] #[], 14⟩, ⟨.string ⟨#[83, 69, 68]⟩, .func (.func 167) #[] #[], 15⟩, ⟨.string ⟨#[83, 69, 73]⟩, .func (.func 168) #[] #[], 16⟩, ⟨.string ⟨#[78, 79, 80]⟩, .func (.func 124) #[] #[], 17⟩]
set_option maxHeartbeats 2000000 in
theorem alone_ct (w : World) : Calls Tryz.prog 115 #[] w fun e w' => ∃ R, e = .returned (.map (some R)) ∧ MapAt w w' R aloneE 18 := by
  go_enter Tryz.func115, Tryz.ntmps115
  go_wp2_with (first | (refine wpList_mmap rfl _ rfl ?_; intro R w1 M) | (refine wpList_minsert rfl _ _ _ _ rfl rfl _ rfl _ rfl _ rfl _ _ MTalone KTalone M (by kernel_rfl) ?_; clear M; intro w1 M) | fail)
  go_ret
  exact ⟨_, rfl, M.as (by kernel_rfl) (by kernel_rfl)⟩
theorem MTreads : Tryz.prog.underlying 160 = some (.map 9 159) := by kernel_rfl
theorem KTreads : Tryz.prog.underlying 9 = some .string := by kernel_rfl
def readsE : Array MapEntry := #[⟨.string ⟨#[76, 68, 65]⟩, .func (.func 196) #[] #[], 0⟩, ⟨.string ⟨#[76, 68, 88]⟩, .func (.func 197) #[] #[], 1⟩, ⟨.string ⟨#[76, 68, 89]⟩, .func (.func 198) #[] #[], 2⟩, ⟨.string ⟨#[76, 65, 88]⟩, .func (.func 199) #[] #[], 3⟩, ⟨.string ⟨#[76, 65, 83]⟩, .func (.func 200) #[] #[], 4⟩, ⟨.string ⟨#[79, 82, 65]⟩, .func (.func 201) #[] #[], 5⟩, ⟨.string ⟨#[65, 78, 68]⟩, .func (.func 202) #[] #[], 6⟩, ⟨.string ⟨#[69, 79, 82]⟩, .func (.func 203) #[] #[], 7⟩, ⟨.string ⟨#[65, 68, 67]⟩, .func (.func 204) #[] #[], 8⟩, ⟨.string ⟨#[83, 66, 67]⟩, .func (.func 205) #[] #[], 9⟩, ⟨.string ⟨#[67, 77, 80]⟩, .func (.func 206) #[] #[], 10⟩, ⟨.string ⟨#[67, 80, 88]⟩, .func (.func 207) #[] #[], 11⟩, ⟨.string ⟨#[67, 80, 89]⟩, .func (.func 208) #[] #[], 12⟩, ⟨.string ⟨#[66, 73, 84]⟩, .func (.func 209) #[] #[], 13⟩, ⟨.string ⟨#[65, 78, 67]⟩, .func (.func 210) #[] #[], 14⟩, ⟨.string ⟨#[65, 76, 82]⟩, .func (.func 211) #[] #[], 15⟩, ⟨.string ⟨#[65, 82, 82]⟩, .func (.func 212) #[] #[], 16⟩, ⟨.string ⟨#[83, 66, 88]⟩, .func (.func 213) #[] #[], 17⟩, ⟨.string ⟨#[65, 78, 69]⟩, .func (.func 214) #[] #[], 18⟩, ⟨.string ⟨#[76, 88, 65]⟩, .func (.func 215) #[] #[], 19⟩, ⟨.string ⟨#[78, 79, 80]⟩, .func (.func 216) #[] #[], 20⟩]
set_option maxHeartbeats 2000000 in
theorem reads_ct (w : World) : Calls Tryz.prog 170 #[] w fun e w' => ∃ R, e = .returned (.map (some R)) ∧ MapAt w w' R readsE 21 := by
  go_enter Tryz.func170, Tryz.ntmps170
  go_wp2_with (first | (refine wpList_mmap rfl _ rfl ?_; intro R w1 M) | (refine wpList_minsert rfl _ _ _ _ rfl rfl _ rfl _ rfl _ rfl _ _ MTreads KTreads M (by kernel_rfl) ?_; clear M; intro w1 M) | fail)
  go_ret
  exact ⟨_, rfl, M.as (by kernel_rfl) (by kernel_rfl)⟩
theorem MTchanges : Tryz.prog.underlying 157 = some (.map 9 156) := by kernel_rfl
theorem KTchanges : Tryz.prog.underlying 9 = some .string := by kernel_rfl
def changesE : Array MapEntry := #[⟨.string ⟨#[65, 83, 76]⟩, .func (.func 184) #[] #[], 0⟩, ⟨.string ⟨#[76, 83, 82]⟩, .func (.func 185) #[] #[], 1⟩, ⟨.string ⟨#[82, 79, 76]⟩, .func (.func 186) #[] #[], 2⟩, ⟨.string ⟨#[82, 79, 82]⟩, .func (.func 187) #[] #[], 3⟩, ⟨.string ⟨#[73, 78, 67]⟩, .func (.func 188) #[] #[], 4⟩, ⟨.string ⟨#[68, 69, 67]⟩, .func (.func 189) #[] #[], 5⟩, ⟨.string ⟨#[83, 76, 79]⟩, .func (.func 190) #[] #[], 6⟩, ⟨.string ⟨#[82, 76, 65]⟩, .func (.func 191) #[] #[], 7⟩, ⟨.string ⟨#[83, 82, 69]⟩, .func (.func 192) #[] #[], 8⟩, ⟨.string ⟨#[82, 82, 65]⟩, .func (.func 193) #[] #[], 9⟩, ⟨.string ⟨#[68, 67, 80]⟩, .func (.func 194) #[] #[], 10⟩, ⟨.string ⟨#[73, 83, 67]⟩, .func (.func 195) #[] #[], 11⟩]
set_option maxHeartbeats 2000000 in
theorem changes_ct (w : World) : Calls Tryz.prog 169 #[] w fun e w' => ∃ R, e = .returned (.map (some R)) ∧ MapAt w w' R changesE 12 := by
  go_enter Tryz.func169, Tryz.ntmps169
  go_wp2_with (first | (refine wpList_mmap rfl _ rfl ?_; intro R w1 M) | (refine wpList_minsert rfl _ _ _ _ rfl rfl _ rfl _ rfl _ rfl _ _ MTchanges KTchanges M (by kernel_rfl) ?_; clear M; intro w1 M) | fail)
  go_ret
  exact ⟨_, rfl, M.as (by kernel_rfl) (by kernel_rfl)⟩
theorem MTstores : Tryz.prog.underlying 176 = some (.map 9 175) := by kernel_rfl
theorem KTstores : Tryz.prog.underlying 9 = some .string := by kernel_rfl
def storesE : Array MapEntry := #[⟨.string ⟨#[83, 84, 65]⟩, .func (.func 239) #[] #[], 0⟩, ⟨.string ⟨#[83, 84, 88]⟩, .func (.func 240) #[] #[], 1⟩, ⟨.string ⟨#[83, 84, 89]⟩, .func (.func 241) #[] #[], 2⟩, ⟨.string ⟨#[83, 65, 88]⟩, .func (.func 242) #[] #[], 3⟩, ⟨.string ⟨#[83, 72, 65]⟩, .func (.func 243) #[] #[], 4⟩, ⟨.string ⟨#[83, 72, 88]⟩, .func (.func 244) #[] #[], 5⟩, ⟨.string ⟨#[83, 72, 89]⟩, .func (.func 245) #[] #[], 6⟩, ⟨.string ⟨#[84, 65, 83]⟩, .func (.func 246) #[] #[], 7⟩]
set_option maxHeartbeats 2000000 in
theorem stores_ct (w : World) : Calls Tryz.prog 221 #[] w fun e w' => ∃ R, e = .returned (.map (some R)) ∧ MapAt w w' R storesE 8 := by
  go_enter Tryz.func221, Tryz.ntmps221
  go_wp2_with (first | (refine wpList_mmap rfl _ rfl ?_; intro R w1 M) | (refine wpList_minsert rfl _ _ _ _ rfl rfl _ rfl _ rfl _ rfl _ _ MTstores KTstores M (by kernel_rfl) ?_; clear M; intro w1 M) | fail)
  go_ret
  exact ⟨_, rfl, M.as (by kernel_rfl) (by kernel_rfl)⟩
end Go.Proofs.YtbonamhinnhlnaaGreatDoor
namespace Go.Proofs.YtbonamhinnhlnaaGreatDoor
open Go.RowKit
set_option linter.unusedSimpArgs false
set_option linter.unusedVariables false
set_option maxRecDepth 20000

set_option maxHeartbeats 2000000 in
theorem k_tax (s : Wk) (F : Fiw s) : CM 152 s (loadX s s.av s.ab) := by
  intro R T w hR
  have FF := F
  obtain ⟨⟨a0, a1, x0, x1, y0, y1, s0, s1, p0, p1, q0, q1, cp, cq, pc0, pc1, op0, op1, ad0, ad1, d0, d1⟩, v0, v1⟩ := F
  have F := FF
  clear cp cq FF
  have HZB := Lib.hid alloc_by
  have HZU := Lib.hid alloc_bus
  have H := Mem.begin hR
  clear hR
  go_enter Tryz.func152, Tryz.ntmps152
  go_wp2_with fail
  (try simp only [Act.put, List.setIfInBounds_toArray, List.set_cons_succ, List.set_cons_zero])
  (refine wp_region_tails_below 10 (by kernel_rfl) (by kernel_rfl) ?_); (simp only [List.take_succ_cons, List.take_zero, List.drop_succ_cons, List.drop_zero]); (repeat (first | (go_big_quiet_want; refine gate_qload _ _ rfl ?_; (first | (refine quiet_mload 23 _ rfl _ _ rfl 0 H _ #[.int .u8 _, .bool _] rfl (by decide +kernel) (by kernel_rfl) (part2 rfl rfl) ?_)); simp only [Act.put, List.setIfInBounds_toArray, List.set_cons_succ, List.set_cons_zero]; go_big_quiet_on) | go_big_quiet_step ((first | (go_at_call 183; (with_reducible exact Calls.regrown_of (more_ct _ _ _ _))) | fail)))); (refine wpQuiet_nil ?_); intro _ hw'; obtain ⟨⟨dq, osq⟩, hw''⟩ := hw'; (subst hw''); replace H := H.next (below_regrown _ dq osq)
  have M8 := mod8_le
  go_wp2_with (first | (go_at_call 178; obtain ⟨T0, hT⟩ := H.get (i := 0) rfl; (with_reducible refine Calls.mono (loadX_ct _ _ _ F (by first | assumption | (with_unfolding_all exact a0) | (with_unfolding_all exact x0) | (with_unfolding_all exact y0) | (with_unfolding_all exact s0) | (with_unfolding_all exact (M8 _).1)) (by first | assumption | (with_unfolding_all exact a1) | (with_unfolding_all exact x1) | (with_unfolding_all exact y1) | (with_unfolding_all exact s1) | (with_unfolding_all exact (M8 _).2)) _ _ _ hT) ?_); rintro e w2 ⟨rfl, hm⟩; replace H := H.call (i := 0) rfl hm; clear hm hT; simp only [List.set_cons_zero, List.set_cons_succ] at H) | go_skip | fail)
  (try simp only [IntKind.wrap_u16, IntKind.wrap_u8] at H)
  all_goals (first | refine fall rfl rfl ?_ | refine fallr rfl rfl ?_)
  all_goals (refine ⟨rfl, ?_⟩; first | exact H.only (i := 0) rfl)

set_option maxHeartbeats 2000000 in
theorem k_tay (s : Wk) (F : Fiw s) : CM 153 s (loadY s s.av s.ab) := by
  intro R T w hR
  have FF := F
  obtain ⟨⟨a0, a1, x0, x1, y0, y1, s0, s1, p0, p1, q0, q1, cp, cq, pc0, pc1, op0, op1, ad0, ad1, d0, d1⟩, v0, v1⟩ := F
  have F := FF
  clear cp cq FF
  have HZB := Lib.hid alloc_by
  have HZU := Lib.hid alloc_bus
  have H := Mem.begin hR
  clear hR
  go_enter Tryz.func153, Tryz.ntmps153
  go_wp2_with fail
  (try simp only [Act.put, List.setIfInBounds_toArray, List.set_cons_succ, List.set_cons_zero])
  (refine wp_region_tails_below 10 (by kernel_rfl) (by kernel_rfl) ?_); (simp only [List.take_succ_cons, List.take_zero, List.drop_succ_cons, List.drop_zero]); (repeat (first | (go_big_quiet_want; refine gate_qload _ _ rfl ?_; (first | (refine quiet_mload 23 _ rfl _ _ rfl 0 H _ #[.int .u8 _, .bool _] rfl (by decide +kernel) (by kernel_rfl) (part2 rfl rfl) ?_)); simp only [Act.put, List.setIfInBounds_toArray, List.set_cons_succ, List.set_cons_zero]; go_big_quiet_on) | go_big_quiet_step ((first | (go_at_call 183; (with_reducible exact Calls.regrown_of (more_ct _ _ _ _))) | fail)))); (refine wpQuiet_nil ?_); intro _ hw'; obtain ⟨⟨dq, osq⟩, hw''⟩ := hw'; (subst hw''); replace H := H.next (below_regrown _ dq osq)
  have M8 := mod8_le
  go_wp2_with (first | (go_at_call 178; obtain ⟨T0, hT⟩ := H.get (i := 0) rfl; (with_reducible refine Calls.mono (loadY_ct _ _ _ F (by first | assumption | (with_unfolding_all exact a0) | (with_unfolding_all exact x0) | (with_unfolding_all exact y0) | (with_unfolding_all exact s0) | (with_unfolding_all exact (M8 _).1)) (by first | assumption | (with_unfolding_all exact a1) | (with_unfolding_all exact x1) | (with_unfolding_all exact y1) | (with_unfolding_all exact s1) | (with_unfolding_all exact (M8 _).2)) _ _ _ hT) ?_); rintro e w2 ⟨rfl, hm⟩; replace H := H.call (i := 0) rfl hm; clear hm hT; simp only [List.set_cons_zero, List.set_cons_succ] at H) | go_skip | fail)
  (try simp only [IntKind.wrap_u16, IntKind.wrap_u8] at H)
  all_goals (first | refine fall rfl rfl ?_ | refine fallr rfl rfl ?_)
  all_goals (refine ⟨rfl, ?_⟩; first | exact H.only (i := 0) rfl)

set_option maxHeartbeats 2000000 in
theorem k_txa (s : Wk) (F : Fiw s) : CM 154 s (loadA s s.xv s.xb) := by
  intro R T w hR
  have FF := F
  obtain ⟨⟨a0, a1, x0, x1, y0, y1, s0, s1, p0, p1, q0, q1, cp, cq, pc0, pc1, op0, op1, ad0, ad1, d0, d1⟩, v0, v1⟩ := F
  have F := FF
  clear cp cq FF
  have HZB := Lib.hid alloc_by
  have HZU := Lib.hid alloc_bus
  have H := Mem.begin hR
  clear hR
  go_enter Tryz.func154, Tryz.ntmps154
  go_wp2_with fail
  (try simp only [Act.put, List.setIfInBounds_toArray, List.set_cons_succ, List.set_cons_zero])
  (refine wp_region_tails_below 10 (by kernel_rfl) (by kernel_rfl) ?_); (simp only [List.take_succ_cons, List.take_zero, List.drop_succ_cons, List.drop_zero]); (repeat (first | (go_big_quiet_want; refine gate_qload _ _ rfl ?_; (first | (refine quiet_mload 23 _ rfl _ _ rfl 0 H _ #[.int .u8 _, .bool _] rfl (by decide +kernel) (by kernel_rfl) (part2 rfl rfl) ?_)); simp only [Act.put, List.setIfInBounds_toArray, List.set_cons_succ, List.set_cons_zero]; go_big_quiet_on) | go_big_quiet_step ((first | (go_at_call 183; (with_reducible exact Calls.regrown_of (more_ct _ _ _ _))) | fail)))); (refine wpQuiet_nil ?_); intro _ hw'; obtain ⟨⟨dq, osq⟩, hw''⟩ := hw'; (subst hw''); replace H := H.next (below_regrown _ dq osq)
  have M8 := mod8_le
  go_wp2_with (first | (go_at_call 178; obtain ⟨T0, hT⟩ := H.get (i := 0) rfl; (with_reducible refine Calls.mono (loadA_ct _ _ _ F (by first | assumption | (with_unfolding_all exact a0) | (with_unfolding_all exact x0) | (with_unfolding_all exact y0) | (with_unfolding_all exact s0) | (with_unfolding_all exact (M8 _).1)) (by first | assumption | (with_unfolding_all exact a1) | (with_unfolding_all exact x1) | (with_unfolding_all exact y1) | (with_unfolding_all exact s1) | (with_unfolding_all exact (M8 _).2)) _ _ _ hT) ?_); rintro e w2 ⟨rfl, hm⟩; replace H := H.call (i := 0) rfl hm; clear hm hT; simp only [List.set_cons_zero, List.set_cons_succ] at H) | go_skip | fail)
  (try simp only [IntKind.wrap_u16, IntKind.wrap_u8] at H)
  all_goals (first | refine fall rfl rfl ?_ | refine fallr rfl rfl ?_)
  all_goals (refine ⟨rfl, ?_⟩; first | exact H.only (i := 0) rfl)

set_option maxHeartbeats 2000000 in
theorem k_tya (s : Wk) (F : Fiw s) : CM 155 s (loadA s s.yv s.yb) := by
  intro R T w hR
  have FF := F
  obtain ⟨⟨a0, a1, x0, x1, y0, y1, s0, s1, p0, p1, q0, q1, cp, cq, pc0, pc1, op0, op1, ad0, ad1, d0, d1⟩, v0, v1⟩ := F
  have F := FF
  clear cp cq FF
  have HZB := Lib.hid alloc_by
  have HZU := Lib.hid alloc_bus
  have H := Mem.begin hR
  clear hR
  go_enter Tryz.func155, Tryz.ntmps155
  go_wp2_with fail
  (try simp only [Act.put, List.setIfInBounds_toArray, List.set_cons_succ, List.set_cons_zero])
  (refine wp_region_tails_below 10 (by kernel_rfl) (by kernel_rfl) ?_); (simp only [List.take_succ_cons, List.take_zero, List.drop_succ_cons, List.drop_zero]); (repeat (first | (go_big_quiet_want; refine gate_qload _ _ rfl ?_; (first | (refine quiet_mload 23 _ rfl _ _ rfl 0 H _ #[.int .u8 _, .bool _] rfl (by decide +kernel) (by kernel_rfl) (part2 rfl rfl) ?_)); simp only [Act.put, List.setIfInBounds_toArray, List.set_cons_succ, List.set_cons_zero]; go_big_quiet_on) | go_big_quiet_step ((first | (go_at_call 183; (with_reducible exact Calls.regrown_of (more_ct _ _ _ _))) | fail)))); (refine wpQuiet_nil ?_); intro _ hw'; obtain ⟨⟨dq, osq⟩, hw''⟩ := hw'; (subst hw''); replace H := H.next (below_regrown _ dq osq)
  have M8 := mod8_le
  go_wp2_with (first | (go_at_call 178; obtain ⟨T0, hT⟩ := H.get (i := 0) rfl; (with_reducible refine Calls.mono (loadA_ct _ _ _ F (by first | assumption | (with_unfolding_all exact a0) | (with_unfolding_all exact x0) | (with_unfolding_all exact y0) | (with_unfolding_all exact s0) | (with_unfolding_all exact (M8 _).1)) (by first | assumption | (with_unfolding_all exact a1) | (with_unfolding_all exact x1) | (with_unfolding_all exact y1) | (with_unfolding_all exact s1) | (with_unfolding_all exact (M8 _).2)) _ _ _ hT) ?_); rintro e w2 ⟨rfl, hm⟩; replace H := H.call (i := 0) rfl hm; clear hm hT; simp only [List.set_cons_zero, List.set_cons_succ] at H) | go_skip | fail)
  (try simp only [IntKind.wrap_u16, IntKind.wrap_u8] at H)
  all_goals (first | refine fall rfl rfl ?_ | refine fallr rfl rfl ?_)
  all_goals (refine ⟨rfl, ?_⟩; first | exact H.only (i := 0) rfl)

set_option maxHeartbeats 2000000 in
theorem k_tsx (s : Wk) (F : Fiw s) : CM 156 s (loadX s s.sv s.sb) := by
  intro R T w hR
  have FF := F
  obtain ⟨⟨a0, a1, x0, x1, y0, y1, s0, s1, p0, p1, q0, q1, cp, cq, pc0, pc1, op0, op1, ad0, ad1, d0, d1⟩, v0, v1⟩ := F
  have F := FF
  clear cp cq FF
  have HZB := Lib.hid alloc_by
  have HZU := Lib.hid alloc_bus
  have H := Mem.begin hR
  clear hR
  go_enter Tryz.func156, Tryz.ntmps156
  go_wp2_with fail
  (try simp only [Act.put, List.setIfInBounds_toArray, List.set_cons_succ, List.set_cons_zero])
  (refine wp_region_tails_below 10 (by kernel_rfl) (by kernel_rfl) ?_); (simp only [List.take_succ_cons, List.take_zero, List.drop_succ_cons, List.drop_zero]); (repeat (first | (go_big_quiet_want; refine gate_qload _ _ rfl ?_; (first | (refine quiet_mload 23 _ rfl _ _ rfl 0 H _ #[.int .u8 _, .bool _] rfl (by decide +kernel) (by kernel_rfl) (part2 rfl rfl) ?_)); simp only [Act.put, List.setIfInBounds_toArray, List.set_cons_succ, List.set_cons_zero]; go_big_quiet_on) | go_big_quiet_step ((first | (go_at_call 183; (with_reducible exact Calls.regrown_of (more_ct _ _ _ _))) | fail)))); (refine wpQuiet_nil ?_); intro _ hw'; obtain ⟨⟨dq, osq⟩, hw''⟩ := hw'; (subst hw''); replace H := H.next (below_regrown _ dq osq)
  have M8 := mod8_le
  go_wp2_with (first | (go_at_call 178; obtain ⟨T0, hT⟩ := H.get (i := 0) rfl; (with_reducible refine Calls.mono (loadX_ct _ _ _ F (by first | assumption | (with_unfolding_all exact a0) | (with_unfolding_all exact x0) | (with_unfolding_all exact y0) | (with_unfolding_all exact s0) | (with_unfolding_all exact (M8 _).1)) (by first | assumption | (with_unfolding_all exact a1) | (with_unfolding_all exact x1) | (with_unfolding_all exact y1) | (with_unfolding_all exact s1) | (with_unfolding_all exact (M8 _).2)) _ _ _ hT) ?_); rintro e w2 ⟨rfl, hm⟩; replace H := H.call (i := 0) rfl hm; clear hm hT; simp only [List.set_cons_zero, List.set_cons_succ] at H) | go_skip | fail)
  (try simp only [IntKind.wrap_u16, IntKind.wrap_u8] at H)
  all_goals (first | refine fall rfl rfl ?_ | refine fallr rfl rfl ?_)
  all_goals (refine ⟨rfl, ?_⟩; first | exact H.only (i := 0) rfl)

set_option maxHeartbeats 2000000 in
theorem k_inx (s : Wk) (F : Fiw s) : CM 158 s (loadX s ((s.xv + 1) % 256) s.xb) := by
  intro R T w hR
  have FF := F
  obtain ⟨⟨a0, a1, x0, x1, y0, y1, s0, s1, p0, p1, q0, q1, cp, cq, pc0, pc1, op0, op1, ad0, ad1, d0, d1⟩, v0, v1⟩ := F
  have F := FF
  clear cp cq FF
  have HZB := Lib.hid alloc_by
  have HZU := Lib.hid alloc_bus
  have H := Mem.begin hR
  clear hR
  go_enter Tryz.func158, Tryz.ntmps158
  go_wp2_with fail
  (try simp only [Act.put, List.setIfInBounds_toArray, List.set_cons_succ, List.set_cons_zero])
  (refine wp_region_tails_below 11 (by kernel_rfl) (by kernel_rfl) ?_); (simp only [List.take_succ_cons, List.take_zero, List.drop_succ_cons, List.drop_zero]); (repeat (first | (go_big_quiet_want; refine gate_qload _ _ rfl ?_; (first | (refine quiet_mload 23 _ rfl _ _ rfl 0 H _ #[.int .u8 _, .bool _] rfl (by decide +kernel) (by kernel_rfl) (part2 rfl rfl) ?_)); simp only [Act.put, List.setIfInBounds_toArray, List.set_cons_succ, List.set_cons_zero]; go_big_quiet_on) | go_big_quiet_step ((first | (go_at_call 183; (with_reducible exact Calls.regrown_of (more_ct _ _ _ _))) | fail)))); (refine wpQuiet_nil ?_); intro _ hw'; obtain ⟨⟨dq, osq⟩, hw''⟩ := hw'; (subst hw''); replace H := H.next (below_regrown _ dq osq)
  have M8 := mod8_le
  go_wp2_with (first | (go_at_call 178; obtain ⟨T0, hT⟩ := H.get (i := 0) rfl; (with_reducible refine Calls.mono (loadX_ct _ _ _ F (by first | assumption | (with_unfolding_all exact a0) | (with_unfolding_all exact x0) | (with_unfolding_all exact y0) | (with_unfolding_all exact s0) | (with_unfolding_all exact (M8 _).1)) (by first | assumption | (with_unfolding_all exact a1) | (with_unfolding_all exact x1) | (with_unfolding_all exact y1) | (with_unfolding_all exact s1) | (with_unfolding_all exact (M8 _).2)) _ _ _ hT) ?_); rintro e w2 ⟨rfl, hm⟩; replace H := H.call (i := 0) rfl hm; clear hm hT; simp only [List.set_cons_zero, List.set_cons_succ] at H) | go_skip | fail)
  (try simp only [IntKind.wrap_u16, IntKind.wrap_u8] at H)
  all_goals (first | refine fall rfl rfl ?_ | refine fallr rfl rfl ?_)
  all_goals (refine ⟨rfl, ?_⟩; first | exact H.only (i := 0) rfl)

set_option maxHeartbeats 2000000 in
theorem k_iny (s : Wk) (F : Fiw s) : CM 159 s (loadY s ((s.yv + 1) % 256) s.yb) := by
  intro R T w hR
  have FF := F
  obtain ⟨⟨a0, a1, x0, x1, y0, y1, s0, s1, p0, p1, q0, q1, cp, cq, pc0, pc1, op0, op1, ad0, ad1, d0, d1⟩, v0, v1⟩ := F
  have F := FF
  clear cp cq FF
  have HZB := Lib.hid alloc_by
  have HZU := Lib.hid alloc_bus
  have H := Mem.begin hR
  clear hR
  go_enter Tryz.func159, Tryz.ntmps159
  go_wp2_with fail
  (try simp only [Act.put, List.setIfInBounds_toArray, List.set_cons_succ, List.set_cons_zero])
  (refine wp_region_tails_below 11 (by kernel_rfl) (by kernel_rfl) ?_); (simp only [List.take_succ_cons, List.take_zero, List.drop_succ_cons, List.drop_zero]); (repeat (first | (go_big_quiet_want; refine gate_qload _ _ rfl ?_; (first | (refine quiet_mload 23 _ rfl _ _ rfl 0 H _ #[.int .u8 _, .bool _] rfl (by decide +kernel) (by kernel_rfl) (part2 rfl rfl) ?_)); simp only [Act.put, List.setIfInBounds_toArray, List.set_cons_succ, List.set_cons_zero]; go_big_quiet_on) | go_big_quiet_step ((first | (go_at_call 183; (with_reducible exact Calls.regrown_of (more_ct _ _ _ _))) | fail)))); (refine wpQuiet_nil ?_); intro _ hw'; obtain ⟨⟨dq, osq⟩, hw''⟩ := hw'; (subst hw''); replace H := H.next (below_regrown _ dq osq)
  have M8 := mod8_le
  go_wp2_with (first | (go_at_call 178; obtain ⟨T0, hT⟩ := H.get (i := 0) rfl; (with_reducible refine Calls.mono (loadY_ct _ _ _ F (by first | assumption | (with_unfolding_all exact a0) | (with_unfolding_all exact x0) | (with_unfolding_all exact y0) | (with_unfolding_all exact s0) | (with_unfolding_all exact (M8 _).1)) (by first | assumption | (with_unfolding_all exact a1) | (with_unfolding_all exact x1) | (with_unfolding_all exact y1) | (with_unfolding_all exact s1) | (with_unfolding_all exact (M8 _).2)) _ _ _ hT) ?_); rintro e w2 ⟨rfl, hm⟩; replace H := H.call (i := 0) rfl hm; clear hm hT; simp only [List.set_cons_zero, List.set_cons_succ] at H) | go_skip | fail)
  (try simp only [IntKind.wrap_u16, IntKind.wrap_u8] at H)
  all_goals (first | refine fall rfl rfl ?_ | refine fallr rfl rfl ?_)
  all_goals (refine ⟨rfl, ?_⟩; first | exact H.only (i := 0) rfl)

set_option maxHeartbeats 2000000 in
theorem k_dex (s : Wk) (F : Fiw s) : CM 160 s (loadX s ((s.xv + 255) % 256) s.xb) := by
  intro R T w hR
  have FF := F
  obtain ⟨⟨a0, a1, x0, x1, y0, y1, s0, s1, p0, p1, q0, q1, cp, cq, pc0, pc1, op0, op1, ad0, ad1, d0, d1⟩, v0, v1⟩ := F
  have F := FF
  clear cp cq FF
  have HZB := Lib.hid alloc_by
  have HZU := Lib.hid alloc_bus
  have H := Mem.begin hR
  clear hR
  go_enter Tryz.func160, Tryz.ntmps160
  go_wp2_with fail
  (try simp only [Act.put, List.setIfInBounds_toArray, List.set_cons_succ, List.set_cons_zero])
  (refine wp_region_tails_below 11 (by kernel_rfl) (by kernel_rfl) ?_); (simp only [List.take_succ_cons, List.take_zero, List.drop_succ_cons, List.drop_zero]); (repeat (first | (go_big_quiet_want; refine gate_qload _ _ rfl ?_; (first | (refine quiet_mload 23 _ rfl _ _ rfl 0 H _ #[.int .u8 _, .bool _] rfl (by decide +kernel) (by kernel_rfl) (part2 rfl rfl) ?_)); simp only [Act.put, List.setIfInBounds_toArray, List.set_cons_succ, List.set_cons_zero]; go_big_quiet_on) | go_big_quiet_step ((first | (go_at_call 183; (with_reducible exact Calls.regrown_of (more_ct _ _ _ _))) | fail)))); (refine wpQuiet_nil ?_); intro _ hw'; obtain ⟨⟨dq, osq⟩, hw''⟩ := hw'; (subst hw''); replace H := H.next (below_regrown _ dq osq)
  have M8 := mod8_le
  go_wp2_with (first | (go_at_call 178; obtain ⟨T0, hT⟩ := H.get (i := 0) rfl; (with_reducible refine Calls.mono (loadX_ct _ _ _ F (by first | assumption | (with_unfolding_all exact a0) | (with_unfolding_all exact x0) | (with_unfolding_all exact y0) | (with_unfolding_all exact s0) | (with_unfolding_all exact (M8 _).1)) (by first | assumption | (with_unfolding_all exact a1) | (with_unfolding_all exact x1) | (with_unfolding_all exact y1) | (with_unfolding_all exact s1) | (with_unfolding_all exact (M8 _).2)) _ _ _ hT) ?_); rintro e w2 ⟨rfl, hm⟩; replace H := H.call (i := 0) rfl hm; clear hm hT; simp only [List.set_cons_zero, List.set_cons_succ] at H) | go_skip | fail)
  (try simp only [IntKind.wrap_u16, IntKind.wrap_u8] at H)
  all_goals (first | refine fall rfl rfl ?_ | refine fallr rfl rfl ?_)
  all_goals (refine ⟨rfl, ?_⟩; first | exact H.only (i := 0) rfl)

set_option maxHeartbeats 2000000 in
theorem k_dey (s : Wk) (F : Fiw s) : CM 161 s (loadY s ((s.yv + 255) % 256) s.yb) := by
  intro R T w hR
  have FF := F
  obtain ⟨⟨a0, a1, x0, x1, y0, y1, s0, s1, p0, p1, q0, q1, cp, cq, pc0, pc1, op0, op1, ad0, ad1, d0, d1⟩, v0, v1⟩ := F
  have F := FF
  clear cp cq FF
  have HZB := Lib.hid alloc_by
  have HZU := Lib.hid alloc_bus
  have H := Mem.begin hR
  clear hR
  go_enter Tryz.func161, Tryz.ntmps161
  go_wp2_with fail
  (try simp only [Act.put, List.setIfInBounds_toArray, List.set_cons_succ, List.set_cons_zero])
  (refine wp_region_tails_below 11 (by kernel_rfl) (by kernel_rfl) ?_); (simp only [List.take_succ_cons, List.take_zero, List.drop_succ_cons, List.drop_zero]); (repeat (first | (go_big_quiet_want; refine gate_qload _ _ rfl ?_; (first | (refine quiet_mload 23 _ rfl _ _ rfl 0 H _ #[.int .u8 _, .bool _] rfl (by decide +kernel) (by kernel_rfl) (part2 rfl rfl) ?_)); simp only [Act.put, List.setIfInBounds_toArray, List.set_cons_succ, List.set_cons_zero]; go_big_quiet_on) | go_big_quiet_step ((first | (go_at_call 183; (with_reducible exact Calls.regrown_of (more_ct _ _ _ _))) | fail)))); (refine wpQuiet_nil ?_); intro _ hw'; obtain ⟨⟨dq, osq⟩, hw''⟩ := hw'; (subst hw''); replace H := H.next (below_regrown _ dq osq)
  have M8 := mod8_le
  go_wp2_with (first | (go_at_call 178; obtain ⟨T0, hT⟩ := H.get (i := 0) rfl; (with_reducible refine Calls.mono (loadY_ct _ _ _ F (by first | assumption | (with_unfolding_all exact a0) | (with_unfolding_all exact x0) | (with_unfolding_all exact y0) | (with_unfolding_all exact s0) | (with_unfolding_all exact (M8 _).1)) (by first | assumption | (with_unfolding_all exact a1) | (with_unfolding_all exact x1) | (with_unfolding_all exact y1) | (with_unfolding_all exact s1) | (with_unfolding_all exact (M8 _).2)) _ _ _ hT) ?_); rintro e w2 ⟨rfl, hm⟩; replace H := H.call (i := 0) rfl hm; clear hm hT; simp only [List.set_cons_zero, List.set_cons_succ] at H) | go_skip | fail)
  (try simp only [IntKind.wrap_u16, IntKind.wrap_u8] at H)
  all_goals (first | refine fall rfl rfl ?_ | refine fallr rfl rfl ?_)
  all_goals (refine ⟨rfl, ?_⟩; first | exact H.only (i := 0) rfl)

set_option maxHeartbeats 2000000 in
theorem k_txs (s : Wk) (F : Fiw s) : CM 157 s ({ s with sv := s.xv, sb := s.xb }) := by
  intro R T w hR
  have FF := F
  obtain ⟨⟨a0, a1, x0, x1, y0, y1, s0, s1, p0, p1, q0, q1, cp, cq, pc0, pc1, op0, op1, ad0, ad1, d0, d1⟩, v0, v1⟩ := F
  have F := FF
  clear cp cq FF
  have HZB := Lib.hid alloc_by
  have HZU := Lib.hid alloc_bus
  have H := Mem.begin hR
  clear hR
  go_enter Tryz.func157, Tryz.ntmps157
  go_wp2_with (first | go_skip | (refine gate_load _ _ rfl ?_; first | (refine wpList_mload rfl 23 _ rfl _ _ rfl 0 H _ #[.int .u8 _, .bool _] rfl (by decide +kernel) (by kernel_rfl) (part2 rfl rfl) ?_)) | (refine gate_store _ _ _ rfl ?_; (first | (refine wpList_mstore rfl 23 _ _ rfl rfl _ _ rfl 0 H _ _ rfl (.agg #[.int .u8 _, .bool _]) rfl (by kernel_rfl) (of_decide_eq_true (by kernel_rfl)) (by kernel_rfl) (by first | with_reducible exact st_S _ _ _) ?_)); clear H; intro w1 H; simp only [List.set_cons_zero, List.set_cons_succ] at H) | fail)
  (try simp only [IntKind.wrap_u16, IntKind.wrap_u8] at H)
  all_goals (first | refine fall rfl rfl ?_ | refine fallr rfl rfl ?_)
  all_goals (refine ⟨rfl, ?_⟩; first | exact H.only (i := 0) rfl)

set_option maxHeartbeats 2000000 in
theorem k_clc (s : Wk) (F : Fiw s) : CM 162 s (flagW s 1 0) := by
  intro R T w hR
  have FF := F
  obtain ⟨⟨a0, a1, x0, x1, y0, y1, s0, s1, p0, p1, q0, q1, cp, cq, pc0, pc1, op0, op1, ad0, ad1, d0, d1⟩, v0, v1⟩ := F
  have F := FF
  clear cp cq FF
  have HZB := Lib.hid alloc_by
  have HZU := Lib.hid alloc_bus
  have H := Mem.begin hR
  clear hR
  go_enter Tryz.func162, Tryz.ntmps162
  go_wp2_with (first | (go_at_call 177; obtain ⟨T0, hT⟩ := H.get (i := 0) rfl; (with_reducible refine Calls.mono (set_ct _ _ _ F (by decide) (by decide) _ _ _ hT) ?_); rintro e w2 ⟨rfl, hm⟩; replace H := H.call (i := 0) rfl hm; clear hm hT; simp only [List.set_cons_zero, List.set_cons_succ] at H) | go_skip | fail)
  (try simp only [IntKind.wrap_u16, IntKind.wrap_u8] at H)
  all_goals (first | refine fall rfl rfl ?_ | refine fallr rfl rfl ?_)
  all_goals (refine ⟨rfl, ?_⟩; first | exact H.only (i := 0) rfl)

set_option maxHeartbeats 2000000 in
theorem k_cld (s : Wk) (F : Fiw s) : CM 163 s (flagW s 8 0) := by
  intro R T w hR
  have FF := F
  obtain ⟨⟨a0, a1, x0, x1, y0, y1, s0, s1, p0, p1, q0, q1, cp, cq, pc0, pc1, op0, op1, ad0, ad1, d0, d1⟩, v0, v1⟩ := F
  have F := FF
  clear cp cq FF
  have HZB := Lib.hid alloc_by
  have HZU := Lib.hid alloc_bus
  have H := Mem.begin hR
  clear hR
  go_enter Tryz.func163, Tryz.ntmps163
  go_wp2_with (first | (go_at_call 177; obtain ⟨T0, hT⟩ := H.get (i := 0) rfl; (with_reducible refine Calls.mono (set_ct _ _ _ F (by decide) (by decide) _ _ _ hT) ?_); rintro e w2 ⟨rfl, hm⟩; replace H := H.call (i := 0) rfl hm; clear hm hT; simp only [List.set_cons_zero, List.set_cons_succ] at H) | go_skip | fail)
  (try simp only [IntKind.wrap_u16, IntKind.wrap_u8] at H)
  all_goals (first | refine fall rfl rfl ?_ | refine fallr rfl rfl ?_)
  all_goals (refine ⟨rfl, ?_⟩; first | exact H.only (i := 0) rfl)

set_option maxHeartbeats 2000000 in
theorem k_cli (s : Wk) (F : Fiw s) : CM 164 s (flagW s 4 0) := by
  intro R T w hR
  have FF := F
  obtain ⟨⟨a0, a1, x0, x1, y0, y1, s0, s1, p0, p1, q0, q1, cp, cq, pc0, pc1, op0, op1, ad0, ad1, d0, d1⟩, v0, v1⟩ := F
  have F := FF
  clear cp cq FF
  have HZB := Lib.hid alloc_by
  have HZU := Lib.hid alloc_bus
  have H := Mem.begin hR
  clear hR
  go_enter Tryz.func164, Tryz.ntmps164
  go_wp2_with (first | (go_at_call 177; obtain ⟨T0, hT⟩ := H.get (i := 0) rfl; (with_reducible refine Calls.mono (set_ct _ _ _ F (by decide) (by decide) _ _ _ hT) ?_); rintro e w2 ⟨rfl, hm⟩; replace H := H.call (i := 0) rfl hm; clear hm hT; simp only [List.set_cons_zero, List.set_cons_succ] at H) | go_skip | fail)
  (try simp only [IntKind.wrap_u16, IntKind.wrap_u8] at H)
  all_goals (first | refine fall rfl rfl ?_ | refine fallr rfl rfl ?_)
  all_goals (refine ⟨rfl, ?_⟩; first | exact H.only (i := 0) rfl)

set_option maxHeartbeats 2000000 in
theorem k_clv (s : Wk) (F : Fiw s) : CM 165 s (flagW s 64 0) := by
  intro R T w hR
  have FF := F
  obtain ⟨⟨a0, a1, x0, x1, y0, y1, s0, s1, p0, p1, q0, q1, cp, cq, pc0, pc1, op0, op1, ad0, ad1, d0, d1⟩, v0, v1⟩ := F
  have F := FF
  clear cp cq FF
  have HZB := Lib.hid alloc_by
  have HZU := Lib.hid alloc_bus
  have H := Mem.begin hR
  clear hR
  go_enter Tryz.func165, Tryz.ntmps165
  go_wp2_with (first | (go_at_call 177; obtain ⟨T0, hT⟩ := H.get (i := 0) rfl; (with_reducible refine Calls.mono (set_ct _ _ _ F (by decide) (by decide) _ _ _ hT) ?_); rintro e w2 ⟨rfl, hm⟩; replace H := H.call (i := 0) rfl hm; clear hm hT; simp only [List.set_cons_zero, List.set_cons_succ] at H) | go_skip | fail)
  (try simp only [IntKind.wrap_u16, IntKind.wrap_u8] at H)
  all_goals (first | refine fall rfl rfl ?_ | refine fallr rfl rfl ?_)
  all_goals (refine ⟨rfl, ?_⟩; first | exact H.only (i := 0) rfl)

set_option maxHeartbeats 2000000 in
theorem k_sec (s : Wk) (F : Fiw s) : CM 166 s (flagW s 1 1) := by
  intro R T w hR
  have FF := F
  obtain ⟨⟨a0, a1, x0, x1, y0, y1, s0, s1, p0, p1, q0, q1, cp, cq, pc0, pc1, op0, op1, ad0, ad1, d0, d1⟩, v0, v1⟩ := F
  have F := FF
  clear cp cq FF
  have HZB := Lib.hid alloc_by
  have HZU := Lib.hid alloc_bus
  have H := Mem.begin hR
  clear hR
  go_enter Tryz.func166, Tryz.ntmps166
  go_wp2_with (first | (go_at_call 177; obtain ⟨T0, hT⟩ := H.get (i := 0) rfl; (with_reducible refine Calls.mono (set_ct _ _ _ F (by decide) (by decide) _ _ _ hT) ?_); rintro e w2 ⟨rfl, hm⟩; replace H := H.call (i := 0) rfl hm; clear hm hT; simp only [List.set_cons_zero, List.set_cons_succ] at H) | go_skip | fail)
  (try simp only [IntKind.wrap_u16, IntKind.wrap_u8] at H)
  all_goals (first | refine fall rfl rfl ?_ | refine fallr rfl rfl ?_)
  all_goals (refine ⟨rfl, ?_⟩; first | exact H.only (i := 0) rfl)

set_option maxHeartbeats 2000000 in
theorem k_sed (s : Wk) (F : Fiw s) : CM 167 s (flagW s 8 1) := by
  intro R T w hR
  have FF := F
  obtain ⟨⟨a0, a1, x0, x1, y0, y1, s0, s1, p0, p1, q0, q1, cp, cq, pc0, pc1, op0, op1, ad0, ad1, d0, d1⟩, v0, v1⟩ := F
  have F := FF
  clear cp cq FF
  have HZB := Lib.hid alloc_by
  have HZU := Lib.hid alloc_bus
  have H := Mem.begin hR
  clear hR
  go_enter Tryz.func167, Tryz.ntmps167
  go_wp2_with (first | (go_at_call 177; obtain ⟨T0, hT⟩ := H.get (i := 0) rfl; (with_reducible refine Calls.mono (set_ct _ _ _ F (by decide) (by decide) _ _ _ hT) ?_); rintro e w2 ⟨rfl, hm⟩; replace H := H.call (i := 0) rfl hm; clear hm hT; simp only [List.set_cons_zero, List.set_cons_succ] at H) | go_skip | fail)
  (try simp only [IntKind.wrap_u16, IntKind.wrap_u8] at H)
  all_goals (first | refine fall rfl rfl ?_ | refine fallr rfl rfl ?_)
  all_goals (refine ⟨rfl, ?_⟩; first | exact H.only (i := 0) rfl)

set_option maxHeartbeats 2000000 in
theorem k_sei (s : Wk) (F : Fiw s) : CM 168 s (flagW s 4 1) := by
  intro R T w hR
  have FF := F
  obtain ⟨⟨a0, a1, x0, x1, y0, y1, s0, s1, p0, p1, q0, q1, cp, cq, pc0, pc1, op0, op1, ad0, ad1, d0, d1⟩, v0, v1⟩ := F
  have F := FF
  clear cp cq FF
  have HZB := Lib.hid alloc_by
  have HZU := Lib.hid alloc_bus
  have H := Mem.begin hR
  clear hR
  go_enter Tryz.func168, Tryz.ntmps168
  go_wp2_with (first | (go_at_call 177; obtain ⟨T0, hT⟩ := H.get (i := 0) rfl; (with_reducible refine Calls.mono (set_ct _ _ _ F (by decide) (by decide) _ _ _ hT) ?_); rintro e w2 ⟨rfl, hm⟩; replace H := H.call (i := 0) rfl hm; clear hm hT; simp only [List.set_cons_zero, List.set_cons_succ] at H) | go_skip | fail)
  (try simp only [IntKind.wrap_u16, IntKind.wrap_u8] at H)
  all_goals (first | refine fall rfl rfl ?_ | refine fallr rfl rfl ?_)
  all_goals (refine ⟨rfl, ?_⟩; first | exact H.only (i := 0) rfl)

end Go.Proofs.YtbonamhinnhlnaaGreatDoor
namespace Go.Proofs.YtbonamhinnhlnaaGreatDoor
open Go.RowKit
set_option linter.unusedSimpArgs false
set_option linter.unusedVariables false
set_option maxRecDepth 20000

set_option maxHeartbeats 2000000 in
theorem alone_gen (s r : Wk) (f : FuncId) (i : Nat) (hlk : Instr.findNow .string (.string s.nm) aloneE.toList 0 = some (some (i, .func (.func f) #[] #[]))) (hbf : ((Tryz.prog.funcs[f]?).map fun fn => fn.body.isNone || fn.name == "runtime.NumGoroutine") = some false) (hC : CM f s r) : CM 97 s r := by
  intro R T w hR
  have HZB := Lib.hid alloc_by
  have HZU := Lib.hid alloc_bus
  have H := Mem.begin hR
  clear hR
  go_enter Tryz.func97, Tryz.ntmps97
  go_wp2_with fail
  (try simp only [Act.put, List.setIfInBounds_toArray, List.set_cons_succ, List.set_cons_zero])
  refine wp_region_x (by kernel_rfl) (by kernel_rfl) [(some 2, fun R => .map (some (R))), (some 3, fun _ => .pointer (some ⟨R, 0, none⟩)), (some 4, fun _ => .pointer (some ⟨R, 0, none⟩)), (some 5, fun _ => .pointer (some ⟨R, 25, none⟩)), (some 6, fun _ => .pointer (some ⟨R, 25, none⟩)), (some 7, fun _ => .string ((s).nm)), (some 8, fun _ => .func (.func f) #[] #[]), (some 9, fun _ => .pointer (some ⟨R, 0, none⟩)), (some 10, fun _ => .tuple #[])] (fun D bq w => Mem _ _ _ w ([(R, cond (D 8) (wkC (r)) (wkC (s)))]) ∧ (D 0 = true → D 8 = false → w.heap[bq 0]? = some (.map aloneE 18))) 11 (by rfl) (by rfl) (by rfl) ⟨H.drew, fun h => by cases h⟩ ⟨⟨rfl, ?p0⟩, ⟨rfl, ?p1⟩, ⟨rfl, ?p2⟩, ⟨rfl, ?p3⟩, ⟨rfl, ?p4⟩, ⟨rfl, ?p5⟩, ⟨rfl, ?p6⟩, ⟨rfl, ?p7⟩, ⟨rfl, ?p8⟩, trivial⟩ ?_
  case p0 =>
    intro D bq a' w' hk hc he hl hW
    (try dsimp only at hW)
    refine wp_callp (vals := #[]) rfl rfl (by simp) (by kernel_rfl) (alone_ct _) ?_
    rintro e w2 ⟨Rm, rfl, hB, hR, hm⟩
    exact ⟨_, rfl, Rm, rfl, Mem.next hW.1 hB, fun _ _ => hm⟩
  case p1 =>
    intro D bq a' w' hk hc he hl hW
    (try dsimp only at hW)
    have f0 : a'.tmps.getD 0 undef = .pointer (some ⟨R, 0, none⟩) := (hl 0).trans ((vsx_no rfl).trans rfl)
    exact wp_val (.pointer (some ⟨R, 0, none⟩)) (by simp only [execOp, Act.eval, List.map_toArray, List.map_cons, List.map_nil]; rw [f0]; kernel_rfl) ⟨0, rfl, hW⟩
  case p2 =>
    intro D bq a' w' hk hc he hl hW
    (try dsimp only at hW)
    have e1 : a'.tmps.getD 3 undef = .pointer (some ⟨R, 0, none⟩) := (hl 3).trans (vsx_at (f := fun _ => .pointer (some ⟨R, 0, none⟩)) rfl (he ⟨1, .data⟩ (by simp) rfl) rfl)
    exact wp_val (.pointer (some ⟨R, 0, none⟩)) (by simp only [execOp, Act.eval, List.map_toArray, List.map_cons, List.map_nil]; rw [e1]; kernel_rfl) ⟨0, rfl, hW⟩
  case p3 =>
    intro D bq a' w' hk hc he hl hW
    (try dsimp only at hW)
    have e2 : a'.tmps.getD 4 undef = .pointer (some ⟨R, 0, none⟩) := (hl 4).trans (vsx_at (f := fun _ => .pointer (some ⟨R, 0, none⟩)) rfl (he ⟨2, .data⟩ (by simp) rfl) rfl)
    exact wp_val (.pointer (some ⟨R, 25, none⟩)) (by simp only [execOp, Act.eval, List.map_toArray, List.map_cons, List.map_nil]; rw [e2]; kernel_rfl) ⟨0, rfl, hW⟩
  case p4 =>
    intro D bq a' w' hk hc he hl hW
    (try dsimp only at hW)
    have e3 : a'.tmps.getD 5 undef = .pointer (some ⟨R, 25, none⟩) := (hl 5).trans (vsx_at (f := fun _ => .pointer (some ⟨R, 25, none⟩)) rfl (he ⟨3, .data⟩ (by simp) rfl) rfl)
    exact wp_val (.pointer (some ⟨R, 25, none⟩)) (by simp only [execOp, Act.eval, List.map_toArray, List.map_cons, List.map_nil]; rw [e3]; kernel_rfl) ⟨0, rfl, hW⟩
  case p5 =>
    intro D bq a' w' hk hc he hl hW
    (try dsimp only at hW)
    have e4 : a'.tmps.getD 6 undef = .pointer (some ⟨R, 25, none⟩) := (hl 6).trans (vsx_at (f := fun _ => .pointer (some ⟨R, 25, none⟩)) rfl (he ⟨4, .data⟩ (by simp) rfl) rfl)
    have n6 : D 6 = false := hc.no .data hk rfl (by simp) rfl
    have n8 : D 8 = false := hc.no .data n6 rfl (by simp) rfl
    have hM := hW.1
    simp only [hk, n8, cond_false, cond_true] at hM
    exact wp_sload1 _ _ rfl _ _ e4 0 hM (wkC (s)) (.string ((s).nm)) rfl rfl (by decide +kernel) ⟨0, rfl, hW⟩
  case p6 =>
    intro D bq a' w' hk hc he hl hW
    (try dsimp only at hW)
    have e0 : a'.tmps.getD 2 undef = .map (some (bq 0)) := (hl 2).trans (vsx_at (f := fun R => .map (some (R))) rfl (he ⟨0, .data⟩ (by simp) rfl) rfl)
    have e5 : a'.tmps.getD 7 undef = .string ((s).nm) := (hl 7).trans (vsx_at (f := fun _ => .string ((s).nm)) rfl (he ⟨5, .data⟩ (by simp) rfl) rfl)
    have y0 : D 0 = true := he ⟨0, .data⟩ (by simp) rfl
    have n8 : D 8 = false := hc.no .data hk rfl (by simp) rfl
    have hm := hW.2 y0 n8
    refine wp_val (.func (.func f) #[] #[]) ?_ ⟨0, rfl, hW⟩
    refine ex_lookup _ ?xx ?xi ?xo _ ?xh _ ?xk _ _ MTalone KTalone hm hlk
    case xo => rfl
    case xh => exact e0
    case xk => exact e5
  case p7 =>
    intro D bq a' w' hk hc he hl hW
    (try dsimp only at hW)
    have f0 : a'.tmps.getD 0 undef = .pointer (some ⟨R, 0, none⟩) := (hl 0).trans ((vsx_no rfl).trans rfl)
    exact wp_val (.pointer (some ⟨R, 0, none⟩)) (by simp only [execOp, Act.eval, List.map_toArray, List.map_cons, List.map_nil]; rw [f0]; kernel_rfl) ⟨0, rfl, hW⟩
  case p8 =>
    intro D bq a' w' hk hc he hl hW
    (try dsimp only at hW)
    have e7 : a'.tmps.getD 9 undef = .pointer (some ⟨R, 0, none⟩) := (hl 9).trans (vsx_at (f := fun _ => .pointer (some ⟨R, 0, none⟩)) rfl (he ⟨7, .data⟩ (by simp) rfl) rfl)
    have e6 : a'.tmps.getD 8 undef = .func (.func f) #[] #[] := (hl 8).trans (vsx_at (f := fun _ => .func (.func f) #[] #[]) rfl (he ⟨6, .data⟩ (by simp) rfl) rfl)
    have hM := hW.1
    simp only [hk, cond_false, cond_true] at hM
    obtain ⟨T9, hT⟩ := Mem.get hM (i := 0) rfl
    refine wp_callc (caps := #[]) (vals := #[.pointer (some ⟨R, 0, none⟩)]) rfl rfl (e6) (by simp only [List.map_toArray, List.map_cons, List.map_nil, Act.eval, e7]) hbf rfl (hC _ T9 w' hT) ?_
    rintro e w2 ⟨rfl, hm⟩
    refine ⟨_, rfl, 0, rfl, ?_⟩
    exact ⟨(Mem.call hM (i := 0) rfl hm), fun _ h => by cases h⟩
  intro D bq w' hD hW
  (try dsimp only at hW)
  replace hW := hW.1
  simp only [hD 8 (by decide), cond_true] at hW
  clear H hD
  have H := hW
  clear hW
  simp only [putAll, vsOf, Nat.reduceAdd, List.foldl_cons, List.foldl_nil, Act.put, List.setIfInBounds_toArray, List.set_cons_succ, List.set_cons_zero]
  refine fall rfl rfl ?_
  exact ⟨rfl, H.only (i := 0) rfl⟩
set_option maxHeartbeats 2000000 in
theorem do_gen (s r : Wk) (f : FuncId) (i : Nat) (hlk : Instr.findNow .string (.string s.nm) readsE.toList 0 = some (some (i, .func (.func f) #[] #[]))) (hbf : ((Tryz.prog.funcs[f]?).map fun fn => fn.body.isNone || fn.name == "runtime.NumGoroutine") = some false) (hC : CB f s r s.v s.vb) : CM 117 s r := by
  intro R T w hR
  have HZB := Lib.hid alloc_by
  have HZU := Lib.hid alloc_bus
  have H := Mem.begin hR
  clear hR
  go_enter Tryz.func117, Tryz.ntmps117
  go_wp2_with fail
  (try simp only [Act.put, List.setIfInBounds_toArray, List.set_cons_succ, List.set_cons_zero])
  refine wp_region_x (by kernel_rfl) (by kernel_rfl) [(some 2, fun R => .map (some (R))), (some 3, fun _ => .pointer (some ⟨R, 0, none⟩)), (some 4, fun _ => .pointer (some ⟨R, 0, none⟩)), (some 5, fun _ => .pointer (some ⟨R, 25, none⟩)), (some 6, fun _ => .pointer (some ⟨R, 25, none⟩)), (some 7, fun _ => .string ((s).nm)), (some 8, fun _ => .func (.func f) #[] #[]), (some 9, fun _ => .pointer (some ⟨R, 0, none⟩)), (some 10, fun _ => .pointer (some ⟨R, 0, none⟩)), (some 11, fun _ => .pointer (some ⟨R, 0, none⟩)), (some 12, fun _ => .pointer (some ⟨R, 31, none⟩)), (some 13, fun _ => .agg #[.int .u8 ((s).v), .bool ((s).vb)]), (some 14, fun _ => .tuple #[])] (fun D bq w => Mem _ _ _ w ([(R, cond (D 12) (wkC (r)) (wkC (s)))]) ∧ (D 0 = true → D 12 = false → w.heap[bq 0]? = some (.map readsE 21))) 15 (by rfl) (by rfl) (by rfl) ⟨H.drew, fun h => by cases h⟩ ⟨⟨rfl, ?p0⟩, ⟨rfl, ?p1⟩, ⟨rfl, ?p2⟩, ⟨rfl, ?p3⟩, ⟨rfl, ?p4⟩, ⟨rfl, ?p5⟩, ⟨rfl, ?p6⟩, ⟨rfl, ?p7⟩, ⟨rfl, ?p8⟩, ⟨rfl, ?p9⟩, ⟨rfl, ?p10⟩, ⟨rfl, ?p11⟩, ⟨rfl, ?p12⟩, trivial⟩ ?_
  case p0 =>
    intro D bq a' w' hk hc he hl hW
    (try dsimp only at hW)
    refine wp_callp (vals := #[]) rfl rfl (by simp) (by kernel_rfl) (reads_ct _) ?_
    rintro e w2 ⟨Rm, rfl, hB, hR, hm⟩
    exact ⟨_, rfl, Rm, rfl, Mem.next hW.1 hB, fun _ _ => hm⟩
  case p1 =>
    intro D bq a' w' hk hc he hl hW
    (try dsimp only at hW)
    have f0 : a'.tmps.getD 0 undef = .pointer (some ⟨R, 0, none⟩) := (hl 0).trans ((vsx_no rfl).trans rfl)
    exact wp_val (.pointer (some ⟨R, 0, none⟩)) (by simp only [execOp, Act.eval, List.map_toArray, List.map_cons, List.map_nil]; rw [f0]; kernel_rfl) ⟨0, rfl, hW⟩
  case p2 =>
    intro D bq a' w' hk hc he hl hW
    (try dsimp only at hW)
    have e1 : a'.tmps.getD 3 undef = .pointer (some ⟨R, 0, none⟩) := (hl 3).trans (vsx_at (f := fun _ => .pointer (some ⟨R, 0, none⟩)) rfl (he ⟨1, .data⟩ (by simp) rfl) rfl)
    exact wp_val (.pointer (some ⟨R, 0, none⟩)) (by simp only [execOp, Act.eval, List.map_toArray, List.map_cons, List.map_nil]; rw [e1]; kernel_rfl) ⟨0, rfl, hW⟩
  case p3 =>
    intro D bq a' w' hk hc he hl hW
    (try dsimp only at hW)
    have e2 : a'.tmps.getD 4 undef = .pointer (some ⟨R, 0, none⟩) := (hl 4).trans (vsx_at (f := fun _ => .pointer (some ⟨R, 0, none⟩)) rfl (he ⟨2, .data⟩ (by simp) rfl) rfl)
    exact wp_val (.pointer (some ⟨R, 25, none⟩)) (by simp only [execOp, Act.eval, List.map_toArray, List.map_cons, List.map_nil]; rw [e2]; kernel_rfl) ⟨0, rfl, hW⟩
  case p4 =>
    intro D bq a' w' hk hc he hl hW
    (try dsimp only at hW)
    have e3 : a'.tmps.getD 5 undef = .pointer (some ⟨R, 25, none⟩) := (hl 5).trans (vsx_at (f := fun _ => .pointer (some ⟨R, 25, none⟩)) rfl (he ⟨3, .data⟩ (by simp) rfl) rfl)
    exact wp_val (.pointer (some ⟨R, 25, none⟩)) (by simp only [execOp, Act.eval, List.map_toArray, List.map_cons, List.map_nil]; rw [e3]; kernel_rfl) ⟨0, rfl, hW⟩
  case p5 =>
    intro D bq a' w' hk hc he hl hW
    (try dsimp only at hW)
    have e4 : a'.tmps.getD 6 undef = .pointer (some ⟨R, 25, none⟩) := (hl 6).trans (vsx_at (f := fun _ => .pointer (some ⟨R, 25, none⟩)) rfl (he ⟨4, .data⟩ (by simp) rfl) rfl)
    have n6 : D 6 = false := hc.no .data hk rfl (by simp) rfl
    have n12 : D 12 = false := hc.no .data n6 rfl (by simp) rfl
    have hM := hW.1
    simp only [hk, n12, cond_false, cond_true] at hM
    exact wp_sload1 _ _ rfl _ _ e4 0 hM (wkC (s)) (.string ((s).nm)) rfl rfl (by decide +kernel) ⟨0, rfl, hW⟩
  case p6 =>
    intro D bq a' w' hk hc he hl hW
    (try dsimp only at hW)
    have e0 : a'.tmps.getD 2 undef = .map (some (bq 0)) := (hl 2).trans (vsx_at (f := fun R => .map (some (R))) rfl (he ⟨0, .data⟩ (by simp) rfl) rfl)
    have e5 : a'.tmps.getD 7 undef = .string ((s).nm) := (hl 7).trans (vsx_at (f := fun _ => .string ((s).nm)) rfl (he ⟨5, .data⟩ (by simp) rfl) rfl)
    have y0 : D 0 = true := he ⟨0, .data⟩ (by simp) rfl
    have n12 : D 12 = false := hc.no .data hk rfl (by simp) rfl
    have hm := hW.2 y0 n12
    refine wp_val (.func (.func f) #[] #[]) ?_ ⟨0, rfl, hW⟩
    refine ex_lookup _ ?xx ?xi ?xo _ ?xh _ ?xk _ _ MTreads KTreads hm hlk
    case xo => rfl
    case xh => exact e0
    case xk => exact e5
  case p7 =>
    intro D bq a' w' hk hc he hl hW
    (try dsimp only at hW)
    have f0 : a'.tmps.getD 0 undef = .pointer (some ⟨R, 0, none⟩) := (hl 0).trans ((vsx_no rfl).trans rfl)
    exact wp_val (.pointer (some ⟨R, 0, none⟩)) (by simp only [execOp, Act.eval, List.map_toArray, List.map_cons, List.map_nil]; rw [f0]; kernel_rfl) ⟨0, rfl, hW⟩
  case p8 =>
    intro D bq a' w' hk hc he hl hW
    (try dsimp only at hW)
    have f0 : a'.tmps.getD 0 undef = .pointer (some ⟨R, 0, none⟩) := (hl 0).trans ((vsx_no rfl).trans rfl)
    exact wp_val (.pointer (some ⟨R, 0, none⟩)) (by simp only [execOp, Act.eval, List.map_toArray, List.map_cons, List.map_nil]; rw [f0]; kernel_rfl) ⟨0, rfl, hW⟩
  case p9 =>
    intro D bq a' w' hk hc he hl hW
    (try dsimp only at hW)
    have e8 : a'.tmps.getD 10 undef = .pointer (some ⟨R, 0, none⟩) := (hl 10).trans (vsx_at (f := fun _ => .pointer (some ⟨R, 0, none⟩)) rfl (he ⟨8, .data⟩ (by simp) rfl) rfl)
    exact wp_val (.pointer (some ⟨R, 0, none⟩)) (by simp only [execOp, Act.eval, List.map_toArray, List.map_cons, List.map_nil]; rw [e8]; kernel_rfl) ⟨0, rfl, hW⟩
  case p10 =>
    intro D bq a' w' hk hc he hl hW
    (try dsimp only at hW)
    have e9 : a'.tmps.getD 11 undef = .pointer (some ⟨R, 0, none⟩) := (hl 11).trans (vsx_at (f := fun _ => .pointer (some ⟨R, 0, none⟩)) rfl (he ⟨9, .data⟩ (by simp) rfl) rfl)
    exact wp_val (.pointer (some ⟨R, 31, none⟩)) (by simp only [execOp, Act.eval, List.map_toArray, List.map_cons, List.map_nil]; rw [e9]; kernel_rfl) ⟨0, rfl, hW⟩
  case p11 =>
    intro D bq a' w' hk hc he hl hW
    (try dsimp only at hW)
    have e10 : a'.tmps.getD 12 undef = .pointer (some ⟨R, 31, none⟩) := (hl 12).trans (vsx_at (f := fun _ => .pointer (some ⟨R, 31, none⟩)) rfl (he ⟨10, .data⟩ (by simp) rfl) rfl)
    have n12 : D 12 = false := hc.no .data hk rfl (by simp) rfl
    have hM := hW.1
    simp only [hk, n12, cond_false, cond_true] at hM
    exact wp_sload _ _ rfl _ _ e10 0 hM (wkC (s)) (#[.int .u8 ((s).v), .bool ((s).vb)]) rfl (by kernel_rfl) (by kernel_rfl) (part2 rfl rfl) ⟨0, rfl, hW⟩
  case p12 =>
    intro D bq a' w' hk hc he hl hW
    (try dsimp only at hW)
    have e7 : a'.tmps.getD 9 undef = .pointer (some ⟨R, 0, none⟩) := (hl 9).trans (vsx_at (f := fun _ => .pointer (some ⟨R, 0, none⟩)) rfl (he ⟨7, .data⟩ (by simp) rfl) rfl)
    have e11 : a'.tmps.getD 13 undef = .agg #[.int .u8 ((s).v), .bool ((s).vb)] := (hl 13).trans (vsx_at (f := fun _ => .agg #[.int .u8 ((s).v), .bool ((s).vb)]) rfl (he ⟨11, .data⟩ (by simp) rfl) rfl)
    have e6 : a'.tmps.getD 8 undef = .func (.func f) #[] #[] := (hl 8).trans (vsx_at (f := fun _ => .func (.func f) #[] #[]) rfl (he ⟨6, .data⟩ (by simp) rfl) rfl)
    have hM := hW.1
    simp only [hk, cond_false, cond_true] at hM
    obtain ⟨T9, hT⟩ := Mem.get hM (i := 0) rfl
    refine wp_callc (caps := #[]) (vals := #[.pointer (some ⟨R, 0, none⟩), .agg #[.int .u8 ((s).v), .bool ((s).vb)]]) rfl rfl (e6) (by simp only [List.map_toArray, List.map_cons, List.map_nil, Act.eval, e7, e11]) hbf rfl (hC _ T9 w' hT) ?_
    rintro e w2 ⟨rfl, hm⟩
    refine ⟨_, rfl, 0, rfl, ?_⟩
    exact ⟨(Mem.call hM (i := 0) rfl hm), fun _ h => by cases h⟩
  intro D bq w' hD hW
  (try dsimp only at hW)
  replace hW := hW.1
  simp only [hD 12 (by decide), cond_true] at hW
  clear H hD
  have H := hW
  clear hW
  simp only [putAll, vsOf, Nat.reduceAdd, List.foldl_cons, List.foldl_nil, Act.put, List.setIfInBounds_toArray, List.set_cons_succ, List.set_cons_zero]
  refine fall rfl rfl ?_
  exact ⟨rfl, H.only (i := 0) rfl⟩
set_option maxHeartbeats 2000000 in
theorem change_gen (s : Wk) (v : Int) (b : Bool) (r : Wk × Int × Bool) (f : FuncId) (i : Nat) (hlk : Instr.findNow .string (.string s.nm) changesE.toList 0 = some (some (i, .func (.func f) #[] #[]))) (hbf : ((Tryz.prog.funcs[f]?).map fun fn => fn.body.isNone || fn.name == "runtime.NumGoroutine") = some false) (hC : CR f s v b r) : CR 116 s v b r := by
  intro R T w hR
  have HZB := Lib.hid alloc_by
  have HZU := Lib.hid alloc_bus
  have H := Mem.begin hR
  clear hR
  have MR1 : True := trivial
  have MR2 : True := trivial
  go_enter Tryz.func116, Tryz.ntmps116
  go_wp2_with (first | (refine wpList_mboxA rfl _ _ rfl H _ rfl ?_; clear H; (first | (clear MR1; intro R1 w1 _ H) | (clear MR2; intro R2 w1 _ H))) | go_skip | (refine wpList_mnew rfl _ rfl H _ HZB.out ?_; clear H; (first | (clear MR1; intro R1 w1 _ H) | (clear MR2; intro R2 w1 _ H))) | fail)
  (try simp only [Act.put, List.setIfInBounds_toArray, List.set_cons_succ, List.set_cons_zero])
  refine wp_region_x (by kernel_rfl) (by kernel_rfl) [(some 5, fun R => .map (some (R))), (some 6, fun _ => .pointer (some ⟨R, 0, none⟩)), (some 7, fun _ => .pointer (some ⟨R, 0, none⟩)), (some 8, fun _ => .pointer (some ⟨R, 25, none⟩)), (some 9, fun _ => .pointer (some ⟨R, 25, none⟩)), (some 10, fun _ => .string ((s).nm)), (some 11, fun _ => .func (.func f) #[] #[]), (some 12, fun _ => .pointer (some ⟨R, 0, none⟩)), (some 13, fun _ => .agg #[.int .u8 (v), .bool (b)]), (some 14, fun _ => .agg #[.int .u8 (r.2.1), .bool (r.2.2)]), (none, fun _ => undef)] (fun D bq w => Mem _ _ _ w ([(R2, cond (D 10) (#[.int .u8 (r.2.1), .bool (r.2.2)]) (#[.int .u8 (0), .bool (false)])), (R1, #[.int .u8 (v), .bool (b)]), (R, cond (D 9) (wkC (r.1)) (wkC (s)))]) ∧ (D 0 = true → D 9 = false → w.heap[bq 0]? = some (.map changesE 12))) 15 (by rfl) (by rfl) (by rfl) ⟨H.drew, fun h => by cases h⟩ ⟨⟨rfl, ?p0⟩, ⟨rfl, ?p1⟩, ⟨rfl, ?p2⟩, ⟨rfl, ?p3⟩, ⟨rfl, ?p4⟩, ⟨rfl, ?p5⟩, ⟨rfl, ?p6⟩, ⟨rfl, ?p7⟩, ⟨rfl, ?p8⟩, ⟨rfl, ?p9⟩, ⟨rfl, ?p10⟩, trivial⟩ ?_
  case p0 =>
    intro D bq a' w' hk hc he hl hW
    (try dsimp only at hW)
    refine wp_callp (vals := #[]) rfl rfl (by simp) (by kernel_rfl) (changes_ct _) ?_
    rintro e w2 ⟨Rm, rfl, hB, hR, hm⟩
    exact ⟨_, rfl, Rm, rfl, Mem.next hW.1 hB, fun _ _ => hm⟩
  case p1 =>
    intro D bq a' w' hk hc he hl hW
    (try dsimp only at hW)
    have f0 : a'.tmps.getD 0 undef = .pointer (some ⟨R, 0, none⟩) := (hl 0).trans ((vsx_no rfl).trans rfl)
    exact wp_val (.pointer (some ⟨R, 0, none⟩)) (by simp only [execOp, Act.eval, List.map_toArray, List.map_cons, List.map_nil]; rw [f0]; kernel_rfl) ⟨0, rfl, hW⟩
  case p2 =>
    intro D bq a' w' hk hc he hl hW
    (try dsimp only at hW)
    have e1 : a'.tmps.getD 6 undef = .pointer (some ⟨R, 0, none⟩) := (hl 6).trans (vsx_at (f := fun _ => .pointer (some ⟨R, 0, none⟩)) rfl (he ⟨1, .data⟩ (by simp) rfl) rfl)
    exact wp_val (.pointer (some ⟨R, 0, none⟩)) (by simp only [execOp, Act.eval, List.map_toArray, List.map_cons, List.map_nil]; rw [e1]; kernel_rfl) ⟨0, rfl, hW⟩
  case p3 =>
    intro D bq a' w' hk hc he hl hW
    (try dsimp only at hW)
    have e2 : a'.tmps.getD 7 undef = .pointer (some ⟨R, 0, none⟩) := (hl 7).trans (vsx_at (f := fun _ => .pointer (some ⟨R, 0, none⟩)) rfl (he ⟨2, .data⟩ (by simp) rfl) rfl)
    exact wp_val (.pointer (some ⟨R, 25, none⟩)) (by simp only [execOp, Act.eval, List.map_toArray, List.map_cons, List.map_nil]; rw [e2]; kernel_rfl) ⟨0, rfl, hW⟩
  case p4 =>
    intro D bq a' w' hk hc he hl hW
    (try dsimp only at hW)
    have e3 : a'.tmps.getD 8 undef = .pointer (some ⟨R, 25, none⟩) := (hl 8).trans (vsx_at (f := fun _ => .pointer (some ⟨R, 25, none⟩)) rfl (he ⟨3, .data⟩ (by simp) rfl) rfl)
    exact wp_val (.pointer (some ⟨R, 25, none⟩)) (by simp only [execOp, Act.eval, List.map_toArray, List.map_cons, List.map_nil]; rw [e3]; kernel_rfl) ⟨0, rfl, hW⟩
  case p5 =>
    intro D bq a' w' hk hc he hl hW
    (try dsimp only at hW)
    have e4 : a'.tmps.getD 9 undef = .pointer (some ⟨R, 25, none⟩) := (hl 9).trans (vsx_at (f := fun _ => .pointer (some ⟨R, 25, none⟩)) rfl (he ⟨4, .data⟩ (by simp) rfl) rfl)
    have n6 : D 6 = false := hc.no .data hk rfl (by simp) rfl
    have n9 : D 9 = false := hc.no .data n6 rfl (by simp) rfl
    have hM := hW.1
    simp only [hk, n9, cond_false, cond_true] at hM
    exact wp_sload1 _ _ rfl _ _ e4 2 hM (wkC (s)) (.string ((s).nm)) rfl rfl (by decide +kernel) ⟨0, rfl, hW⟩
  case p6 =>
    intro D bq a' w' hk hc he hl hW
    (try dsimp only at hW)
    have e0 : a'.tmps.getD 5 undef = .map (some (bq 0)) := (hl 5).trans (vsx_at (f := fun R => .map (some (R))) rfl (he ⟨0, .data⟩ (by simp) rfl) rfl)
    have e5 : a'.tmps.getD 10 undef = .string ((s).nm) := (hl 10).trans (vsx_at (f := fun _ => .string ((s).nm)) rfl (he ⟨5, .data⟩ (by simp) rfl) rfl)
    have y0 : D 0 = true := he ⟨0, .data⟩ (by simp) rfl
    have n9 : D 9 = false := hc.no .data hk rfl (by simp) rfl
    have hm := hW.2 y0 n9
    refine wp_val (.func (.func f) #[] #[]) ?_ ⟨0, rfl, hW⟩
    refine ex_lookup _ ?xx ?xi ?xo _ ?xh _ ?xk _ _ MTchanges KTchanges hm hlk
    case xo => rfl
    case xh => exact e0
    case xk => exact e5
  case p7 =>
    intro D bq a' w' hk hc he hl hW
    (try dsimp only at hW)
    have f0 : a'.tmps.getD 0 undef = .pointer (some ⟨R, 0, none⟩) := (hl 0).trans ((vsx_no rfl).trans rfl)
    exact wp_val (.pointer (some ⟨R, 0, none⟩)) (by simp only [execOp, Act.eval, List.map_toArray, List.map_cons, List.map_nil]; rw [f0]; kernel_rfl) ⟨0, rfl, hW⟩
  case p8 =>
    intro D bq a' w' hk hc he hl hW
    (try dsimp only at hW)
    have f3 : a'.tmps.getD 3 undef = .pointer (some ⟨R1, 0, none⟩) := (hl 3).trans ((vsx_no rfl).trans rfl)
    have hM := hW.1
    exact wp_sload _ _ rfl _ _ f3 1 hM (#[.int .u8 (v), .bool (b)]) (#[.int .u8 (v), .bool (b)]) rfl (by kernel_rfl) (by kernel_rfl) (part2 rfl rfl) ⟨0, rfl, hW⟩
  case p9 =>
    intro D bq a' w' hk hc he hl hW
    (try dsimp only at hW)
    have e7 : a'.tmps.getD 12 undef = .pointer (some ⟨R, 0, none⟩) := (hl 12).trans (vsx_at (f := fun _ => .pointer (some ⟨R, 0, none⟩)) rfl (he ⟨7, .data⟩ (by simp) rfl) rfl)
    have e8 : a'.tmps.getD 13 undef = .agg #[.int .u8 (v), .bool (b)] := (hl 13).trans (vsx_at (f := fun _ => .agg #[.int .u8 (v), .bool (b)]) rfl (he ⟨8, .data⟩ (by simp) rfl) rfl)
    have e6 : a'.tmps.getD 11 undef = .func (.func f) #[] #[] := (hl 11).trans (vsx_at (f := fun _ => .func (.func f) #[] #[]) rfl (he ⟨6, .data⟩ (by simp) rfl) rfl)
    have hM := hW.1
    simp only [hk, cond_false, cond_true] at hM
    obtain ⟨T9, hT⟩ := Mem.get hM (i := 2) rfl
    refine wp_callc (caps := #[]) (vals := #[.pointer (some ⟨R, 0, none⟩), .agg #[.int .u8 (v), .bool (b)]]) rfl rfl (e6) (by simp only [List.map_toArray, List.map_cons, List.map_nil, Act.eval, e7, e8]) hbf rfl (hC _ T9 w' hT) ?_
    rintro e w2 ⟨rfl, hm⟩
    refine ⟨_, rfl, 0, rfl, ?_⟩
    exact ⟨(Mem.call hM (i := 2) rfl hm), fun _ h => by cases h⟩
  case p10 =>
    intro D bq a' w' hk hc he hl hW
    (try dsimp only at hW)
    have f4 : a'.tmps.getD 4 undef = .pointer (some ⟨R2, 0, none⟩) := (hl 4).trans ((vsx_no rfl).trans rfl)
    have e9 : a'.tmps.getD 14 undef = .agg #[.int .u8 (r.2.1), .bool (r.2.2)] := (hl 14).trans (vsx_at (f := fun _ => .agg #[.int .u8 (r.2.1), .bool (r.2.2)]) rfl (he ⟨9, .data⟩ (by simp) rfl) rfl)
    have hM := hW.1
    simp only [hk, cond_false, cond_true] at hM
    refine wp_sstoreA _ _ _ rfl rfl R2 f4 0 hM (#[.int .u8 (0), .bool (false)]) (#[.int .u8 (r.2.1), .bool (r.2.2)]) rfl e9 (by kernel_rfl) (by kernel_rfl) (by kernel_rfl) fun w1 hM1 => ⟨0, rfl, ?_⟩
    have y9 : D 9 = true := he ⟨9, .data⟩ (by simp) rfl
    exact ⟨hM1, fun _ h => Bool.noConfusion (y9.symm.trans h)⟩
  intro D bq w' hD hW
  (try dsimp only at hW)
  replace hW := hW.1
  simp only [hD 9 (by decide), hD 10 (by decide), cond_true] at hW
  clear H hD
  have H := hW
  clear hW
  simp only [putAll, vsOf, Nat.reduceAdd, List.foldl_cons, List.foldl_nil, Act.put, List.setIfInBounds_toArray, List.set_cons_succ, List.set_cons_zero]
  go_wp2_with (first | go_skip | fail)
  first | refine ret_mem1 rfl _ rfl 0 H _ rfl (by kernel_rfl) (by kernel_rfl) rfl ?_
  exact ⟨rfl, H.only (i := 2) rfl⟩
set_option maxHeartbeats 2000000 in
theorem store_gen (s : Wk) (r : Wk × Bs) (f : FuncId) (i : Nat) (hlk : Instr.findNow .string (.string s.nm) storesE.toList 0 = some (some (i, .func (.func f) #[] #[]))) (hbf : ((Tryz.prog.funcs[f]?).map fun fn => fn.body.isNone || fn.name == "runtime.NumGoroutine") = some false) (hC : CS f s r) : CS 181 s r := by
  intro R T w hR
  have HZB := Lib.hid alloc_by
  have HZU := Lib.hid alloc_bus
  have H := Mem.begin hR
  clear hR
  have MR2 : True := trivial
  go_enter Tryz.func181, Tryz.ntmps181
  go_wp2_with (first | go_skip | (refine wpList_mnew rfl _ rfl H _ HZU.out ?_; clear H; (first | (clear MR2; intro R2 w1 _ H))) | fail)
  (try simp only [Act.put, List.setIfInBounds_toArray, List.set_cons_succ, List.set_cons_zero])
  refine wp_region_x (by kernel_rfl) (by kernel_rfl) [(some 3, fun R => .map (some (R))), (some 4, fun _ => .pointer (some ⟨R, 0, none⟩)), (some 5, fun _ => .pointer (some ⟨R, 0, none⟩)), (some 6, fun _ => .pointer (some ⟨R, 25, none⟩)), (some 7, fun _ => .pointer (some ⟨R, 25, none⟩)), (some 8, fun _ => .string ((s).nm)), (some 9, fun _ => .func (.func f) #[] #[]), (some 10, fun _ => .pointer (some ⟨R, 0, none⟩)), (some 11, fun _ => .agg (bsC (r.2))), (none, fun _ => undef)] (fun D bq w => Mem _ _ _ w ([(R2, cond (D 9) (bsC (r.2)) (bsC (bs0))), (R, cond (D 8) (wkC (r.1)) (wkC (s)))]) ∧ (D 0 = true → D 8 = false → w.heap[bq 0]? = some (.map storesE 8))) 12 (by rfl) (by rfl) (by rfl) ⟨H.drew, fun h => by cases h⟩ ⟨⟨rfl, ?p0⟩, ⟨rfl, ?p1⟩, ⟨rfl, ?p2⟩, ⟨rfl, ?p3⟩, ⟨rfl, ?p4⟩, ⟨rfl, ?p5⟩, ⟨rfl, ?p6⟩, ⟨rfl, ?p7⟩, ⟨rfl, ?p8⟩, ⟨rfl, ?p9⟩, trivial⟩ ?_
  case p0 =>
    intro D bq a' w' hk hc he hl hW
    (try dsimp only at hW)
    refine wp_callp (vals := #[]) rfl rfl (by simp) (by kernel_rfl) (stores_ct _) ?_
    rintro e w2 ⟨Rm, rfl, hB, hR, hm⟩
    exact ⟨_, rfl, Rm, rfl, Mem.next hW.1 hB, fun _ _ => hm⟩
  case p1 =>
    intro D bq a' w' hk hc he hl hW
    (try dsimp only at hW)
    have f0 : a'.tmps.getD 0 undef = .pointer (some ⟨R, 0, none⟩) := (hl 0).trans ((vsx_no rfl).trans rfl)
    exact wp_val (.pointer (some ⟨R, 0, none⟩)) (by simp only [execOp, Act.eval, List.map_toArray, List.map_cons, List.map_nil]; rw [f0]; kernel_rfl) ⟨0, rfl, hW⟩
  case p2 =>
    intro D bq a' w' hk hc he hl hW
    (try dsimp only at hW)
    have e1 : a'.tmps.getD 4 undef = .pointer (some ⟨R, 0, none⟩) := (hl 4).trans (vsx_at (f := fun _ => .pointer (some ⟨R, 0, none⟩)) rfl (he ⟨1, .data⟩ (by simp) rfl) rfl)
    exact wp_val (.pointer (some ⟨R, 0, none⟩)) (by simp only [execOp, Act.eval, List.map_toArray, List.map_cons, List.map_nil]; rw [e1]; kernel_rfl) ⟨0, rfl, hW⟩
  case p3 =>
    intro D bq a' w' hk hc he hl hW
    (try dsimp only at hW)
    have e2 : a'.tmps.getD 5 undef = .pointer (some ⟨R, 0, none⟩) := (hl 5).trans (vsx_at (f := fun _ => .pointer (some ⟨R, 0, none⟩)) rfl (he ⟨2, .data⟩ (by simp) rfl) rfl)
    exact wp_val (.pointer (some ⟨R, 25, none⟩)) (by simp only [execOp, Act.eval, List.map_toArray, List.map_cons, List.map_nil]; rw [e2]; kernel_rfl) ⟨0, rfl, hW⟩
  case p4 =>
    intro D bq a' w' hk hc he hl hW
    (try dsimp only at hW)
    have e3 : a'.tmps.getD 6 undef = .pointer (some ⟨R, 25, none⟩) := (hl 6).trans (vsx_at (f := fun _ => .pointer (some ⟨R, 25, none⟩)) rfl (he ⟨3, .data⟩ (by simp) rfl) rfl)
    exact wp_val (.pointer (some ⟨R, 25, none⟩)) (by simp only [execOp, Act.eval, List.map_toArray, List.map_cons, List.map_nil]; rw [e3]; kernel_rfl) ⟨0, rfl, hW⟩
  case p5 =>
    intro D bq a' w' hk hc he hl hW
    (try dsimp only at hW)
    have e4 : a'.tmps.getD 7 undef = .pointer (some ⟨R, 25, none⟩) := (hl 7).trans (vsx_at (f := fun _ => .pointer (some ⟨R, 25, none⟩)) rfl (he ⟨4, .data⟩ (by simp) rfl) rfl)
    have n6 : D 6 = false := hc.no .data hk rfl (by simp) rfl
    have n8 : D 8 = false := hc.no .data n6 rfl (by simp) rfl
    have hM := hW.1
    simp only [hk, n8, cond_false, cond_true] at hM
    exact wp_sload1 _ _ rfl _ _ e4 1 hM (wkC (s)) (.string ((s).nm)) rfl rfl (by decide +kernel) ⟨0, rfl, hW⟩
  case p6 =>
    intro D bq a' w' hk hc he hl hW
    (try dsimp only at hW)
    have e0 : a'.tmps.getD 3 undef = .map (some (bq 0)) := (hl 3).trans (vsx_at (f := fun R => .map (some (R))) rfl (he ⟨0, .data⟩ (by simp) rfl) rfl)
    have e5 : a'.tmps.getD 8 undef = .string ((s).nm) := (hl 8).trans (vsx_at (f := fun _ => .string ((s).nm)) rfl (he ⟨5, .data⟩ (by simp) rfl) rfl)
    have y0 : D 0 = true := he ⟨0, .data⟩ (by simp) rfl
    have n8 : D 8 = false := hc.no .data hk rfl (by simp) rfl
    have hm := hW.2 y0 n8
    refine wp_val (.func (.func f) #[] #[]) ?_ ⟨0, rfl, hW⟩
    refine ex_lookup _ ?xx ?xi ?xo _ ?xh _ ?xk _ _ MTstores KTstores hm hlk
    case xo => rfl
    case xh => exact e0
    case xk => exact e5
  case p7 =>
    intro D bq a' w' hk hc he hl hW
    (try dsimp only at hW)
    have f0 : a'.tmps.getD 0 undef = .pointer (some ⟨R, 0, none⟩) := (hl 0).trans ((vsx_no rfl).trans rfl)
    exact wp_val (.pointer (some ⟨R, 0, none⟩)) (by simp only [execOp, Act.eval, List.map_toArray, List.map_cons, List.map_nil]; rw [f0]; kernel_rfl) ⟨0, rfl, hW⟩
  case p8 =>
    intro D bq a' w' hk hc he hl hW
    (try dsimp only at hW)
    have e7 : a'.tmps.getD 10 undef = .pointer (some ⟨R, 0, none⟩) := (hl 10).trans (vsx_at (f := fun _ => .pointer (some ⟨R, 0, none⟩)) rfl (he ⟨7, .data⟩ (by simp) rfl) rfl)
    have e6 : a'.tmps.getD 9 undef = .func (.func f) #[] #[] := (hl 9).trans (vsx_at (f := fun _ => .func (.func f) #[] #[]) rfl (he ⟨6, .data⟩ (by simp) rfl) rfl)
    have hM := hW.1
    simp only [hk, cond_false, cond_true] at hM
    obtain ⟨T9, hT⟩ := Mem.get hM (i := 1) rfl
    refine wp_callc (caps := #[]) (vals := #[.pointer (some ⟨R, 0, none⟩)]) rfl rfl (e6) (by simp only [List.map_toArray, List.map_cons, List.map_nil, Act.eval, e7]) hbf rfl (hC _ T9 w' hT) ?_
    rintro e w2 ⟨rfl, hm⟩
    refine ⟨_, rfl, 0, rfl, ?_⟩
    exact ⟨(Mem.call hM (i := 1) rfl hm), fun _ h => by cases h⟩
  case p9 =>
    intro D bq a' w' hk hc he hl hW
    (try dsimp only at hW)
    have f2 : a'.tmps.getD 2 undef = .pointer (some ⟨R2, 0, none⟩) := (hl 2).trans ((vsx_no rfl).trans rfl)
    have e8 : a'.tmps.getD 11 undef = .agg (bsC (r.2)) := (hl 11).trans (vsx_at (f := fun _ => .agg (bsC (r.2))) rfl (he ⟨8, .data⟩ (by simp) rfl) rfl)
    have hM := hW.1
    simp only [hk, cond_false, cond_true] at hM
    refine wp_sstoreA _ _ _ rfl rfl R2 f2 0 hM (bsC (bs0)) (bsC (r.2)) rfl e8 (by kernel_rfl) (by kernel_rfl) (by kernel_rfl) fun w1 hM1 => ⟨0, rfl, ?_⟩
    have y8 : D 8 = true := he ⟨8, .data⟩ (by simp) rfl
    exact ⟨hM1, fun _ h => Bool.noConfusion (y8.symm.trans h)⟩
  intro D bq w' hD hW
  (try dsimp only at hW)
  replace hW := hW.1
  simp only [hD 8 (by decide), hD 9 (by decide), cond_true] at hW
  clear H hD
  have H := hW
  clear hW
  simp only [putAll, vsOf, Nat.reduceAdd, List.foldl_cons, List.foldl_nil, Act.put, List.setIfInBounds_toArray, List.set_cons_succ, List.set_cons_zero]
  go_wp2_with (first | go_skip | fail)
  first | refine ret_mem1 rfl _ rfl 0 H _ rfl (by kernel_rfl) (by kernel_rfl) rfl ?_
  exact ⟨rfl, H.only (i := 1) rfl⟩
set_option maxHeartbeats 2000000 in
theorem k_nop (s : Wk) (v : Int) (b : Bool) : CB 216 s (s) v b := by
  intro R T w hR
  have HZB := Lib.hid alloc_by
  have HZU := Lib.hid alloc_bus
  have H := Mem.begin hR
  clear hR
  go_enter Tryz.func216, Tryz.ntmps216
  go_wp2_with (first | (refine wpList_mboxA rfl _ _ rfl H _ rfl ?_; clear H; intro _ w1 _ H) | go_skip | fail)
  (try simp only [IntKind.wrap_u16, IntKind.wrap_u8] at H)
  all_goals (first | refine fall rfl rfl ?_ | refine fallr rfl rfl ?_)
  all_goals (refine ⟨rfl, ?_⟩; first | exact H.only (i := 1) rfl)

theorem doalone_ct_tax (s : Wk) (F : Fiw s) (hn : s.nm = (S3 84 65 88)) : CM 97 s (aloneM s) := by
  have e : aloneM s = byName aloneL (S3 84 65 88) (fun s => s) s := by
    show byName aloneL s.nm (fun s => s) s = _
    rw [hn]
  rw [e]
  exact alone_gen s _ 152 0 (by rw [hn]; kernel_rfl) (by kernel_rfl) (k_tax s F)
theorem doalone_ct_tay (s : Wk) (F : Fiw s) (hn : s.nm = (S3 84 65 89)) : CM 97 s (aloneM s) := by
  have e : aloneM s = byName aloneL (S3 84 65 89) (fun s => s) s := by
    show byName aloneL s.nm (fun s => s) s = _
    rw [hn]
  rw [e]
  exact alone_gen s _ 153 1 (by rw [hn]; kernel_rfl) (by kernel_rfl) (k_tay s F)
theorem doalone_ct_txa (s : Wk) (F : Fiw s) (hn : s.nm = (S3 84 88 65)) : CM 97 s (aloneM s) := by
  have e : aloneM s = byName aloneL (S3 84 88 65) (fun s => s) s := by
    show byName aloneL s.nm (fun s => s) s = _
    rw [hn]
  rw [e]
  exact alone_gen s _ 154 2 (by rw [hn]; kernel_rfl) (by kernel_rfl) (k_txa s F)
theorem doalone_ct_tya (s : Wk) (F : Fiw s) (hn : s.nm = (S3 84 89 65)) : CM 97 s (aloneM s) := by
  have e : aloneM s = byName aloneL (S3 84 89 65) (fun s => s) s := by
    show byName aloneL s.nm (fun s => s) s = _
    rw [hn]
  rw [e]
  exact alone_gen s _ 155 3 (by rw [hn]; kernel_rfl) (by kernel_rfl) (k_tya s F)
theorem doalone_ct_tsx (s : Wk) (F : Fiw s) (hn : s.nm = (S3 84 83 88)) : CM 97 s (aloneM s) := by
  have e : aloneM s = byName aloneL (S3 84 83 88) (fun s => s) s := by
    show byName aloneL s.nm (fun s => s) s = _
    rw [hn]
  rw [e]
  exact alone_gen s _ 156 4 (by rw [hn]; kernel_rfl) (by kernel_rfl) (k_tsx s F)
theorem doalone_ct_txs (s : Wk) (F : Fiw s) (hn : s.nm = (S3 84 88 83)) : CM 97 s (aloneM s) := by
  have e : aloneM s = byName aloneL (S3 84 88 83) (fun s => s) s := by
    show byName aloneL s.nm (fun s => s) s = _
    rw [hn]
  rw [e]
  exact alone_gen s _ 157 5 (by rw [hn]; kernel_rfl) (by kernel_rfl) (k_txs s F)
theorem doalone_ct_inx (s : Wk) (F : Fiw s) (hn : s.nm = (S3 73 78 88)) : CM 97 s (aloneM s) := by
  have e : aloneM s = byName aloneL (S3 73 78 88) (fun s => s) s := by
    show byName aloneL s.nm (fun s => s) s = _
    rw [hn]
  rw [e]
  exact alone_gen s _ 158 6 (by rw [hn]; kernel_rfl) (by kernel_rfl) (k_inx s F)
theorem doalone_ct_iny (s : Wk) (F : Fiw s) (hn : s.nm = (S3 73 78 89)) : CM 97 s (aloneM s) := by
  have e : aloneM s = byName aloneL (S3 73 78 89) (fun s => s) s := by
    show byName aloneL s.nm (fun s => s) s = _
    rw [hn]
  rw [e]
  exact alone_gen s _ 159 7 (by rw [hn]; kernel_rfl) (by kernel_rfl) (k_iny s F)
theorem doalone_ct_dex (s : Wk) (F : Fiw s) (hn : s.nm = (S3 68 69 88)) : CM 97 s (aloneM s) := by
  have e : aloneM s = byName aloneL (S3 68 69 88) (fun s => s) s := by
    show byName aloneL s.nm (fun s => s) s = _
    rw [hn]
  rw [e]
  exact alone_gen s _ 160 8 (by rw [hn]; kernel_rfl) (by kernel_rfl) (k_dex s F)
theorem doalone_ct_dey (s : Wk) (F : Fiw s) (hn : s.nm = (S3 68 69 89)) : CM 97 s (aloneM s) := by
  have e : aloneM s = byName aloneL (S3 68 69 89) (fun s => s) s := by
    show byName aloneL s.nm (fun s => s) s = _
    rw [hn]
  rw [e]
  exact alone_gen s _ 161 9 (by rw [hn]; kernel_rfl) (by kernel_rfl) (k_dey s F)
theorem doalone_ct_clc (s : Wk) (F : Fiw s) (hn : s.nm = (S3 67 76 67)) : CM 97 s (aloneM s) := by
  have e : aloneM s = byName aloneL (S3 67 76 67) (fun s => s) s := by
    show byName aloneL s.nm (fun s => s) s = _
    rw [hn]
  rw [e]
  exact alone_gen s _ 162 10 (by rw [hn]; kernel_rfl) (by kernel_rfl) (k_clc s F)
theorem doalone_ct_cld (s : Wk) (F : Fiw s) (hn : s.nm = (S3 67 76 68)) : CM 97 s (aloneM s) := by
  have e : aloneM s = byName aloneL (S3 67 76 68) (fun s => s) s := by
    show byName aloneL s.nm (fun s => s) s = _
    rw [hn]
  rw [e]
  exact alone_gen s _ 163 11 (by rw [hn]; kernel_rfl) (by kernel_rfl) (k_cld s F)
theorem doalone_ct_cli (s : Wk) (F : Fiw s) (hn : s.nm = (S3 67 76 73)) : CM 97 s (aloneM s) := by
  have e : aloneM s = byName aloneL (S3 67 76 73) (fun s => s) s := by
    show byName aloneL s.nm (fun s => s) s = _
    rw [hn]
  rw [e]
  exact alone_gen s _ 164 12 (by rw [hn]; kernel_rfl) (by kernel_rfl) (k_cli s F)
theorem doalone_ct_clv (s : Wk) (F : Fiw s) (hn : s.nm = (S3 67 76 86)) : CM 97 s (aloneM s) := by
  have e : aloneM s = byName aloneL (S3 67 76 86) (fun s => s) s := by
    show byName aloneL s.nm (fun s => s) s = _
    rw [hn]
  rw [e]
  exact alone_gen s _ 165 13 (by rw [hn]; kernel_rfl) (by kernel_rfl) (k_clv s F)
theorem doalone_ct_sec (s : Wk) (F : Fiw s) (hn : s.nm = (S3 83 69 67)) : CM 97 s (aloneM s) := by
  have e : aloneM s = byName aloneL (S3 83 69 67) (fun s => s) s := by
    show byName aloneL s.nm (fun s => s) s = _
    rw [hn]
  rw [e]
  exact alone_gen s _ 166 14 (by rw [hn]; kernel_rfl) (by kernel_rfl) (k_sec s F)
theorem doalone_ct_sed (s : Wk) (F : Fiw s) (hn : s.nm = (S3 83 69 68)) : CM 97 s (aloneM s) := by
  have e : aloneM s = byName aloneL (S3 83 69 68) (fun s => s) s := by
    show byName aloneL s.nm (fun s => s) s = _
    rw [hn]
  rw [e]
  exact alone_gen s _ 167 15 (by rw [hn]; kernel_rfl) (by kernel_rfl) (k_sed s F)
theorem doalone_ct_sei (s : Wk) (F : Fiw s) (hn : s.nm = (S3 83 69 73)) : CM 97 s (aloneM s) := by
  have e : aloneM s = byName aloneL (S3 83 69 73) (fun s => s) s := by
    show byName aloneL s.nm (fun s => s) s = _
    rw [hn]
  rw [e]
  exact alone_gen s _ 168 16 (by rw [hn]; kernel_rfl) (by kernel_rfl) (k_sei s F)
theorem doalone_ct_nop (s : Wk) (F : Fiw s) (hn : s.nm = (S3 78 79 80)) : CM 97 s (aloneM s) := by
  have e : aloneM s = byName aloneL (S3 78 79 80) (fun s => s) s := by
    show byName aloneL s.nm (fun s => s) s = _
    rw [hn]
  rw [e]
  exact alone_gen s _ 124 17 (by rw [hn]; kernel_rfl) (by kernel_rfl) (rest_ct s)
theorem doalone_ct (s : Wk) (F : Fiw s) (h : aloneL.any (fun e => nmEq e.1 s.nm) = true) : CM 97 s (aloneM s) := by
  simp only [aloneL, List.any_cons, List.any_nil, Bool.or_false, Bool.or_eq_true] at h
  rcases h with h | h | h | h | h | h | h | h | h | h | h | h | h | h | h | h | h | h
  · exact doalone_ct_tax s F (nmEq_eq h).symm
  · exact doalone_ct_tay s F (nmEq_eq h).symm
  · exact doalone_ct_txa s F (nmEq_eq h).symm
  · exact doalone_ct_tya s F (nmEq_eq h).symm
  · exact doalone_ct_tsx s F (nmEq_eq h).symm
  · exact doalone_ct_txs s F (nmEq_eq h).symm
  · exact doalone_ct_inx s F (nmEq_eq h).symm
  · exact doalone_ct_iny s F (nmEq_eq h).symm
  · exact doalone_ct_dex s F (nmEq_eq h).symm
  · exact doalone_ct_dey s F (nmEq_eq h).symm
  · exact doalone_ct_clc s F (nmEq_eq h).symm
  · exact doalone_ct_cld s F (nmEq_eq h).symm
  · exact doalone_ct_cli s F (nmEq_eq h).symm
  · exact doalone_ct_clv s F (nmEq_eq h).symm
  · exact doalone_ct_sec s F (nmEq_eq h).symm
  · exact doalone_ct_sed s F (nmEq_eq h).symm
  · exact doalone_ct_sei s F (nmEq_eq h).symm
  · exact doalone_ct_nop s F (nmEq_eq h).symm
theorem does_ct_lda (s : Wk) (F : Fiw s) (hn : s.nm = (S3 76 68 65)) : CM 117 s (readM s s.v s.vb) := by
  have e : readM s s.v s.vb = byName readsL (S3 76 68 65) (fun s _ _ => s) s s.v s.vb := by
    show byName readsL s.nm (fun s _ _ => s) s s.v s.vb = _
    rw [hn]
  rw [e]
  exact do_gen s _ 196 0 (by rw [hn]; kernel_rfl) (by kernel_rfl) (k_lda s s.v s.vb F F.v0 F.v1)
theorem does_ct_ldx (s : Wk) (F : Fiw s) (hn : s.nm = (S3 76 68 88)) : CM 117 s (readM s s.v s.vb) := by
  have e : readM s s.v s.vb = byName readsL (S3 76 68 88) (fun s _ _ => s) s s.v s.vb := by
    show byName readsL s.nm (fun s _ _ => s) s s.v s.vb = _
    rw [hn]
  rw [e]
  exact do_gen s _ 197 1 (by rw [hn]; kernel_rfl) (by kernel_rfl) (k_ldx s s.v s.vb F F.v0 F.v1)
theorem does_ct_ldy (s : Wk) (F : Fiw s) (hn : s.nm = (S3 76 68 89)) : CM 117 s (readM s s.v s.vb) := by
  have e : readM s s.v s.vb = byName readsL (S3 76 68 89) (fun s _ _ => s) s s.v s.vb := by
    show byName readsL s.nm (fun s _ _ => s) s s.v s.vb = _
    rw [hn]
  rw [e]
  exact do_gen s _ 198 2 (by rw [hn]; kernel_rfl) (by kernel_rfl) (k_ldy s s.v s.vb F F.v0 F.v1)
theorem does_ct_lax (s : Wk) (F : Fiw s) (hn : s.nm = (S3 76 65 88)) : CM 117 s (readM s s.v s.vb) := by
  have e : readM s s.v s.vb = byName readsL (S3 76 65 88) (fun s _ _ => s) s s.v s.vb := by
    show byName readsL s.nm (fun s _ _ => s) s s.v s.vb = _
    rw [hn]
  rw [e]
  exact do_gen s _ 199 3 (by rw [hn]; kernel_rfl) (by kernel_rfl) (k_lax s s.v s.vb F F.v0 F.v1)
theorem does_ct_las (s : Wk) (F : Fiw s) (hn : s.nm = (S3 76 65 83)) : CM 117 s (readM s s.v s.vb) := by
  have e : readM s s.v s.vb = byName readsL (S3 76 65 83) (fun s _ _ => s) s s.v s.vb := by
    show byName readsL s.nm (fun s _ _ => s) s s.v s.vb = _
    rw [hn]
  rw [e]
  exact do_gen s _ 200 4 (by rw [hn]; kernel_rfl) (by kernel_rfl) (k_las s s.v s.vb F F.v0 F.v1)
theorem does_ct_ora (s : Wk) (F : Fiw s) (hn : s.nm = (S3 79 82 65)) : CM 117 s (readM s s.v s.vb) := by
  have e : readM s s.v s.vb = byName readsL (S3 79 82 65) (fun s _ _ => s) s s.v s.vb := by
    show byName readsL s.nm (fun s _ _ => s) s s.v s.vb = _
    rw [hn]
  rw [e]
  exact do_gen s _ 201 5 (by rw [hn]; kernel_rfl) (by kernel_rfl) (k_ora s s.v s.vb F F.v0 F.v1)
theorem does_ct_and (s : Wk) (F : Fiw s) (hn : s.nm = (S3 65 78 68)) : CM 117 s (readM s s.v s.vb) := by
  have e : readM s s.v s.vb = byName readsL (S3 65 78 68) (fun s _ _ => s) s s.v s.vb := by
    show byName readsL s.nm (fun s _ _ => s) s s.v s.vb = _
    rw [hn]
  rw [e]
  exact do_gen s _ 202 6 (by rw [hn]; kernel_rfl) (by kernel_rfl) (k_and s s.v s.vb F F.v0 F.v1)
theorem does_ct_eor (s : Wk) (F : Fiw s) (hn : s.nm = (S3 69 79 82)) : CM 117 s (readM s s.v s.vb) := by
  have e : readM s s.v s.vb = byName readsL (S3 69 79 82) (fun s _ _ => s) s s.v s.vb := by
    show byName readsL s.nm (fun s _ _ => s) s s.v s.vb = _
    rw [hn]
  rw [e]
  exact do_gen s _ 203 7 (by rw [hn]; kernel_rfl) (by kernel_rfl) (k_eor s s.v s.vb F F.v0 F.v1)
theorem does_ct_adc (s : Wk) (F : Fiw s) (hn : s.nm = (S3 65 68 67)) : CM 117 s (readM s s.v s.vb) := by
  have e : readM s s.v s.vb = byName readsL (S3 65 68 67) (fun s _ _ => s) s s.v s.vb := by
    show byName readsL s.nm (fun s _ _ => s) s s.v s.vb = _
    rw [hn]
  rw [e]
  exact do_gen s _ 204 8 (by rw [hn]; kernel_rfl) (by kernel_rfl) (k_adc s s.v s.vb F F.v0 F.v1)
theorem does_ct_sbc (s : Wk) (F : Fiw s) (hn : s.nm = (S3 83 66 67)) : CM 117 s (readM s s.v s.vb) := by
  have e : readM s s.v s.vb = byName readsL (S3 83 66 67) (fun s _ _ => s) s s.v s.vb := by
    show byName readsL s.nm (fun s _ _ => s) s s.v s.vb = _
    rw [hn]
  rw [e]
  exact do_gen s _ 205 9 (by rw [hn]; kernel_rfl) (by kernel_rfl) (k_sbc s s.v s.vb F F.v0 F.v1)
theorem does_ct_cmp (s : Wk) (F : Fiw s) (hn : s.nm = (S3 67 77 80)) : CM 117 s (readM s s.v s.vb) := by
  have e : readM s s.v s.vb = byName readsL (S3 67 77 80) (fun s _ _ => s) s s.v s.vb := by
    show byName readsL s.nm (fun s _ _ => s) s s.v s.vb = _
    rw [hn]
  rw [e]
  exact do_gen s _ 206 10 (by rw [hn]; kernel_rfl) (by kernel_rfl) (k_cmp s s.v s.vb F F.v0 F.v1)
theorem does_ct_cpx (s : Wk) (F : Fiw s) (hn : s.nm = (S3 67 80 88)) : CM 117 s (readM s s.v s.vb) := by
  have e : readM s s.v s.vb = byName readsL (S3 67 80 88) (fun s _ _ => s) s s.v s.vb := by
    show byName readsL s.nm (fun s _ _ => s) s s.v s.vb = _
    rw [hn]
  rw [e]
  exact do_gen s _ 207 11 (by rw [hn]; kernel_rfl) (by kernel_rfl) (k_cpx s s.v s.vb F F.v0 F.v1)
theorem does_ct_cpy (s : Wk) (F : Fiw s) (hn : s.nm = (S3 67 80 89)) : CM 117 s (readM s s.v s.vb) := by
  have e : readM s s.v s.vb = byName readsL (S3 67 80 89) (fun s _ _ => s) s s.v s.vb := by
    show byName readsL s.nm (fun s _ _ => s) s s.v s.vb = _
    rw [hn]
  rw [e]
  exact do_gen s _ 208 12 (by rw [hn]; kernel_rfl) (by kernel_rfl) (k_cpy s s.v s.vb F F.v0 F.v1)
theorem does_ct_bit (s : Wk) (F : Fiw s) (hn : s.nm = (S3 66 73 84)) : CM 117 s (readM s s.v s.vb) := by
  have e : readM s s.v s.vb = byName readsL (S3 66 73 84) (fun s _ _ => s) s s.v s.vb := by
    show byName readsL s.nm (fun s _ _ => s) s s.v s.vb = _
    rw [hn]
  rw [e]
  exact do_gen s _ 209 13 (by rw [hn]; kernel_rfl) (by kernel_rfl) (k_bit s s.v s.vb F F.v0 F.v1)
theorem does_ct_anc (s : Wk) (F : Fiw s) (hn : s.nm = (S3 65 78 67)) : CM 117 s (readM s s.v s.vb) := by
  have e : readM s s.v s.vb = byName readsL (S3 65 78 67) (fun s _ _ => s) s s.v s.vb := by
    show byName readsL s.nm (fun s _ _ => s) s s.v s.vb = _
    rw [hn]
  rw [e]
  exact do_gen s _ 210 14 (by rw [hn]; kernel_rfl) (by kernel_rfl) (k_anc s s.v s.vb F F.v0 F.v1)
theorem does_ct_alr (s : Wk) (F : Fiw s) (hn : s.nm = (S3 65 76 82)) : CM 117 s (readM s s.v s.vb) := by
  have e : readM s s.v s.vb = byName readsL (S3 65 76 82) (fun s _ _ => s) s s.v s.vb := by
    show byName readsL s.nm (fun s _ _ => s) s s.v s.vb = _
    rw [hn]
  rw [e]
  exact do_gen s _ 211 15 (by rw [hn]; kernel_rfl) (by kernel_rfl) (k_alr s s.v s.vb F F.v0 F.v1)
theorem does_ct_arr (s : Wk) (F : Fiw s) (hn : s.nm = (S3 65 82 82)) : CM 117 s (readM s s.v s.vb) := by
  have e : readM s s.v s.vb = byName readsL (S3 65 82 82) (fun s _ _ => s) s s.v s.vb := by
    show byName readsL s.nm (fun s _ _ => s) s s.v s.vb = _
    rw [hn]
  rw [e]
  exact do_gen s _ 212 16 (by rw [hn]; kernel_rfl) (by kernel_rfl) (k_arr s s.v s.vb F F.v0 F.v1)
theorem does_ct_sbx (s : Wk) (F : Fiw s) (hn : s.nm = (S3 83 66 88)) : CM 117 s (readM s s.v s.vb) := by
  have e : readM s s.v s.vb = byName readsL (S3 83 66 88) (fun s _ _ => s) s s.v s.vb := by
    show byName readsL s.nm (fun s _ _ => s) s s.v s.vb = _
    rw [hn]
  rw [e]
  exact do_gen s _ 213 17 (by rw [hn]; kernel_rfl) (by kernel_rfl) (k_sbx s s.v s.vb F F.v0 F.v1)
theorem does_ct_ane (s : Wk) (F : Fiw s) (hn : s.nm = (S3 65 78 69)) : CM 117 s (readM s s.v s.vb) := by
  have e : readM s s.v s.vb = byName readsL (S3 65 78 69) (fun s _ _ => s) s s.v s.vb := by
    show byName readsL s.nm (fun s _ _ => s) s s.v s.vb = _
    rw [hn]
  rw [e]
  exact do_gen s _ 214 18 (by rw [hn]; kernel_rfl) (by kernel_rfl) (k_ane s s.v s.vb F F.v0 F.v1)
theorem does_ct_lxa (s : Wk) (F : Fiw s) (hn : s.nm = (S3 76 88 65)) : CM 117 s (readM s s.v s.vb) := by
  have e : readM s s.v s.vb = byName readsL (S3 76 88 65) (fun s _ _ => s) s s.v s.vb := by
    show byName readsL s.nm (fun s _ _ => s) s s.v s.vb = _
    rw [hn]
  rw [e]
  exact do_gen s _ 215 19 (by rw [hn]; kernel_rfl) (by kernel_rfl) (k_lxa s s.v s.vb F F.v0 F.v1)
theorem does_ct_nop (s : Wk) (F : Fiw s) (hn : s.nm = (S3 78 79 80)) : CM 117 s (readM s s.v s.vb) := by
  have e : readM s s.v s.vb = byName readsL (S3 78 79 80) (fun s _ _ => s) s s.v s.vb := by
    show byName readsL s.nm (fun s _ _ => s) s s.v s.vb = _
    rw [hn]
  rw [e]
  exact do_gen s _ 216 20 (by rw [hn]; kernel_rfl) (by kernel_rfl) (k_nop s s.v s.vb)
theorem does_ct (s : Wk) (F : Fiw s) (h : readsL.any (fun e => nmEq e.1 s.nm) = true) : CM 117 s (readM s s.v s.vb) := by
  simp only [readsL, List.any_cons, List.any_nil, Bool.or_false, Bool.or_eq_true] at h
  rcases h with h | h | h | h | h | h | h | h | h | h | h | h | h | h | h | h | h | h | h | h | h
  · exact does_ct_lda s F (nmEq_eq h).symm
  · exact does_ct_ldx s F (nmEq_eq h).symm
  · exact does_ct_ldy s F (nmEq_eq h).symm
  · exact does_ct_lax s F (nmEq_eq h).symm
  · exact does_ct_las s F (nmEq_eq h).symm
  · exact does_ct_ora s F (nmEq_eq h).symm
  · exact does_ct_and s F (nmEq_eq h).symm
  · exact does_ct_eor s F (nmEq_eq h).symm
  · exact does_ct_adc s F (nmEq_eq h).symm
  · exact does_ct_sbc s F (nmEq_eq h).symm
  · exact does_ct_cmp s F (nmEq_eq h).symm
  · exact does_ct_cpx s F (nmEq_eq h).symm
  · exact does_ct_cpy s F (nmEq_eq h).symm
  · exact does_ct_bit s F (nmEq_eq h).symm
  · exact does_ct_anc s F (nmEq_eq h).symm
  · exact does_ct_alr s F (nmEq_eq h).symm
  · exact does_ct_arr s F (nmEq_eq h).symm
  · exact does_ct_sbx s F (nmEq_eq h).symm
  · exact does_ct_ane s F (nmEq_eq h).symm
  · exact does_ct_lxa s F (nmEq_eq h).symm
  · exact does_ct_nop s F (nmEq_eq h).symm
theorem change_ct_asl (s : Wk) (v : Int) (b : Bool) (g0 : 0 ≤ v) (g1 : v < 256) (F : Fiw s) (hn : s.nm = (S3 65 83 76)) : CR 116 s v b (changeM s v b) := by
  have e : changeM s v b = byName changesL (S3 65 83 76) (fun s v b => (s, v, b)) s v b := by
    show byName changesL s.nm (fun s v b => (s, v, b)) s v b = _
    rw [hn]
  rw [e]
  exact change_gen s _ _ _ 184 0 (by rw [hn]; kernel_rfl) (by kernel_rfl) (k_asl s v b F g0 g1)
theorem change_ct_lsr (s : Wk) (v : Int) (b : Bool) (g0 : 0 ≤ v) (g1 : v < 256) (F : Fiw s) (hn : s.nm = (S3 76 83 82)) : CR 116 s v b (changeM s v b) := by
  have e : changeM s v b = byName changesL (S3 76 83 82) (fun s v b => (s, v, b)) s v b := by
    show byName changesL s.nm (fun s v b => (s, v, b)) s v b = _
    rw [hn]
  rw [e]
  exact change_gen s _ _ _ 185 1 (by rw [hn]; kernel_rfl) (by kernel_rfl) (k_lsr s v b F g0 g1)
theorem change_ct_rol (s : Wk) (v : Int) (b : Bool) (g0 : 0 ≤ v) (g1 : v < 256) (F : Fiw s) (hn : s.nm = (S3 82 79 76)) : CR 116 s v b (changeM s v b) := by
  have e : changeM s v b = byName changesL (S3 82 79 76) (fun s v b => (s, v, b)) s v b := by
    show byName changesL s.nm (fun s v b => (s, v, b)) s v b = _
    rw [hn]
  rw [e]
  exact change_gen s _ _ _ 186 2 (by rw [hn]; kernel_rfl) (by kernel_rfl) (k_rol s v b F g0 g1)
theorem change_ct_ror (s : Wk) (v : Int) (b : Bool) (g0 : 0 ≤ v) (g1 : v < 256) (F : Fiw s) (hn : s.nm = (S3 82 79 82)) : CR 116 s v b (changeM s v b) := by
  have e : changeM s v b = byName changesL (S3 82 79 82) (fun s v b => (s, v, b)) s v b := by
    show byName changesL s.nm (fun s v b => (s, v, b)) s v b = _
    rw [hn]
  rw [e]
  exact change_gen s _ _ _ 187 3 (by rw [hn]; kernel_rfl) (by kernel_rfl) (k_ror s v b F g0 g1)
theorem change_ct_inc (s : Wk) (v : Int) (b : Bool) (g0 : 0 ≤ v) (g1 : v < 256) (F : Fiw s) (hn : s.nm = (S3 73 78 67)) : CR 116 s v b (changeM s v b) := by
  have e : changeM s v b = byName changesL (S3 73 78 67) (fun s v b => (s, v, b)) s v b := by
    show byName changesL s.nm (fun s v b => (s, v, b)) s v b = _
    rw [hn]
  rw [e]
  exact change_gen s _ _ _ 188 4 (by rw [hn]; kernel_rfl) (by kernel_rfl) (k_inc s v b F g0 g1)
theorem change_ct_dec (s : Wk) (v : Int) (b : Bool) (g0 : 0 ≤ v) (g1 : v < 256) (F : Fiw s) (hn : s.nm = (S3 68 69 67)) : CR 116 s v b (changeM s v b) := by
  have e : changeM s v b = byName changesL (S3 68 69 67) (fun s v b => (s, v, b)) s v b := by
    show byName changesL s.nm (fun s v b => (s, v, b)) s v b = _
    rw [hn]
  rw [e]
  exact change_gen s _ _ _ 189 5 (by rw [hn]; kernel_rfl) (by kernel_rfl) (k_dec s v b F g0 g1)
theorem change_ct_slo (s : Wk) (v : Int) (b : Bool) (g0 : 0 ≤ v) (g1 : v < 256) (F : Fiw s) (hn : s.nm = (S3 83 76 79)) : CR 116 s v b (changeM s v b) := by
  have e : changeM s v b = byName changesL (S3 83 76 79) (fun s v b => (s, v, b)) s v b := by
    show byName changesL s.nm (fun s v b => (s, v, b)) s v b = _
    rw [hn]
  rw [e]
  exact change_gen s _ _ _ 190 6 (by rw [hn]; kernel_rfl) (by kernel_rfl) (k_slo s v b F g0 g1)
theorem change_ct_rla (s : Wk) (v : Int) (b : Bool) (g0 : 0 ≤ v) (g1 : v < 256) (F : Fiw s) (hn : s.nm = (S3 82 76 65)) : CR 116 s v b (changeM s v b) := by
  have e : changeM s v b = byName changesL (S3 82 76 65) (fun s v b => (s, v, b)) s v b := by
    show byName changesL s.nm (fun s v b => (s, v, b)) s v b = _
    rw [hn]
  rw [e]
  exact change_gen s _ _ _ 191 7 (by rw [hn]; kernel_rfl) (by kernel_rfl) (k_rla s v b F g0 g1)
theorem change_ct_sre (s : Wk) (v : Int) (b : Bool) (g0 : 0 ≤ v) (g1 : v < 256) (F : Fiw s) (hn : s.nm = (S3 83 82 69)) : CR 116 s v b (changeM s v b) := by
  have e : changeM s v b = byName changesL (S3 83 82 69) (fun s v b => (s, v, b)) s v b := by
    show byName changesL s.nm (fun s v b => (s, v, b)) s v b = _
    rw [hn]
  rw [e]
  exact change_gen s _ _ _ 192 8 (by rw [hn]; kernel_rfl) (by kernel_rfl) (k_sre s v b F g0 g1)
theorem change_ct_rra (s : Wk) (v : Int) (b : Bool) (g0 : 0 ≤ v) (g1 : v < 256) (F : Fiw s) (hn : s.nm = (S3 82 82 65)) : CR 116 s v b (changeM s v b) := by
  have e : changeM s v b = byName changesL (S3 82 82 65) (fun s v b => (s, v, b)) s v b := by
    show byName changesL s.nm (fun s v b => (s, v, b)) s v b = _
    rw [hn]
  rw [e]
  exact change_gen s _ _ _ 193 9 (by rw [hn]; kernel_rfl) (by kernel_rfl) (k_rra s v b F g0 g1)
theorem change_ct_dcp (s : Wk) (v : Int) (b : Bool) (g0 : 0 ≤ v) (g1 : v < 256) (F : Fiw s) (hn : s.nm = (S3 68 67 80)) : CR 116 s v b (changeM s v b) := by
  have e : changeM s v b = byName changesL (S3 68 67 80) (fun s v b => (s, v, b)) s v b := by
    show byName changesL s.nm (fun s v b => (s, v, b)) s v b = _
    rw [hn]
  rw [e]
  exact change_gen s _ _ _ 194 10 (by rw [hn]; kernel_rfl) (by kernel_rfl) (k_dcp s v b F g0 g1)
theorem change_ct_isc (s : Wk) (v : Int) (b : Bool) (g0 : 0 ≤ v) (g1 : v < 256) (F : Fiw s) (hn : s.nm = (S3 73 83 67)) : CR 116 s v b (changeM s v b) := by
  have e : changeM s v b = byName changesL (S3 73 83 67) (fun s v b => (s, v, b)) s v b := by
    show byName changesL s.nm (fun s v b => (s, v, b)) s v b = _
    rw [hn]
  rw [e]
  exact change_gen s _ _ _ 195 11 (by rw [hn]; kernel_rfl) (by kernel_rfl) (k_isc s v b F g0 g1)
theorem change_ct (s : Wk) (v : Int) (b : Bool) (g0 : 0 ≤ v) (g1 : v < 256) (F : Fiw s) (h : changesL.any (fun e => nmEq e.1 s.nm) = true) : CR 116 s v b (changeM s v b) := by
  simp only [changesL, List.any_cons, List.any_nil, Bool.or_false, Bool.or_eq_true] at h
  rcases h with h | h | h | h | h | h | h | h | h | h | h | h
  · exact change_ct_asl s v b g0 g1 F (nmEq_eq h).symm
  · exact change_ct_lsr s v b g0 g1 F (nmEq_eq h).symm
  · exact change_ct_rol s v b g0 g1 F (nmEq_eq h).symm
  · exact change_ct_ror s v b g0 g1 F (nmEq_eq h).symm
  · exact change_ct_inc s v b g0 g1 F (nmEq_eq h).symm
  · exact change_ct_dec s v b g0 g1 F (nmEq_eq h).symm
  · exact change_ct_slo s v b g0 g1 F (nmEq_eq h).symm
  · exact change_ct_rla s v b g0 g1 F (nmEq_eq h).symm
  · exact change_ct_sre s v b g0 g1 F (nmEq_eq h).symm
  · exact change_ct_rra s v b g0 g1 F (nmEq_eq h).symm
  · exact change_ct_dcp s v b g0 g1 F (nmEq_eq h).symm
  · exact change_ct_isc s v b g0 g1 F (nmEq_eq h).symm
theorem store_ct_sta (s : Wk) (F : Fiw s) (hn : s.nm = (S3 83 84 65)) : CS 181 s (storeM s) := by
  have e : storeM s = byName storesL (S3 83 84 65) (fun s => (s, atAddr s)) s := by
    show byName storesL s.nm (fun s => (s, atAddr s)) s = _
    rw [hn]
  rw [e]
  exact store_gen s _ 239 0 (by rw [hn]; kernel_rfl) (by kernel_rfl) (k_sta s F)
theorem store_ct_stx (s : Wk) (F : Fiw s) (hn : s.nm = (S3 83 84 88)) : CS 181 s (storeM s) := by
  have e : storeM s = byName storesL (S3 83 84 88) (fun s => (s, atAddr s)) s := by
    show byName storesL s.nm (fun s => (s, atAddr s)) s = _
    rw [hn]
  rw [e]
  exact store_gen s _ 240 1 (by rw [hn]; kernel_rfl) (by kernel_rfl) (k_stx s F)
theorem store_ct_sty (s : Wk) (F : Fiw s) (hn : s.nm = (S3 83 84 89)) : CS 181 s (storeM s) := by
  have e : storeM s = byName storesL (S3 83 84 89) (fun s => (s, atAddr s)) s := by
    show byName storesL s.nm (fun s => (s, atAddr s)) s = _
    rw [hn]
  rw [e]
  exact store_gen s _ 241 2 (by rw [hn]; kernel_rfl) (by kernel_rfl) (k_sty s F)
theorem store_ct_sax (s : Wk) (F : Fiw s) (hn : s.nm = (S3 83 65 88)) : CS 181 s (storeM s) := by
  have e : storeM s = byName storesL (S3 83 65 88) (fun s => (s, atAddr s)) s := by
    show byName storesL s.nm (fun s => (s, atAddr s)) s = _
    rw [hn]
  rw [e]
  exact store_gen s _ 242 3 (by rw [hn]; kernel_rfl) (by kernel_rfl) (k_sax s F)
theorem store_ct_sha (s : Wk) (F : Fiw s) (hn : s.nm = (S3 83 72 65)) : CS 181 s (storeM s) := by
  have e : storeM s = byName storesL (S3 83 72 65) (fun s => (s, atAddr s)) s := by
    show byName storesL s.nm (fun s => (s, atAddr s)) s = _
    rw [hn]
  rw [e]
  exact store_gen s _ 243 4 (by rw [hn]; kernel_rfl) (by kernel_rfl) (k_sha s F)
theorem store_ct_shx (s : Wk) (F : Fiw s) (hn : s.nm = (S3 83 72 88)) : CS 181 s (storeM s) := by
  have e : storeM s = byName storesL (S3 83 72 88) (fun s => (s, atAddr s)) s := by
    show byName storesL s.nm (fun s => (s, atAddr s)) s = _
    rw [hn]
  rw [e]
  exact store_gen s _ 244 5 (by rw [hn]; kernel_rfl) (by kernel_rfl) (k_shx s F)
theorem store_ct_shy (s : Wk) (F : Fiw s) (hn : s.nm = (S3 83 72 89)) : CS 181 s (storeM s) := by
  have e : storeM s = byName storesL (S3 83 72 89) (fun s => (s, atAddr s)) s := by
    show byName storesL s.nm (fun s => (s, atAddr s)) s = _
    rw [hn]
  rw [e]
  exact store_gen s _ 245 6 (by rw [hn]; kernel_rfl) (by kernel_rfl) (k_shy s F)
theorem store_ct_tas (s : Wk) (F : Fiw s) (hn : s.nm = (S3 84 65 83)) : CS 181 s (storeM s) := by
  have e : storeM s = byName storesL (S3 84 65 83) (fun s => (s, atAddr s)) s := by
    show byName storesL s.nm (fun s => (s, atAddr s)) s = _
    rw [hn]
  rw [e]
  exact store_gen s _ 246 7 (by rw [hn]; kernel_rfl) (by kernel_rfl) (k_tas s F)
theorem store_ct (s : Wk) (F : Fiw s) (h : storesL.any (fun e => nmEq e.1 s.nm) = true) : CS 181 s (storeM s) := by
  simp only [storesL, List.any_cons, List.any_nil, Bool.or_false, Bool.or_eq_true] at h
  rcases h with h | h | h | h | h | h | h | h
  · exact store_ct_sta s F (nmEq_eq h).symm
  · exact store_ct_stx s F (nmEq_eq h).symm
  · exact store_ct_sty s F (nmEq_eq h).symm
  · exact store_ct_sax s F (nmEq_eq h).symm
  · exact store_ct_sha s F (nmEq_eq h).symm
  · exact store_ct_shx s F (nmEq_eq h).symm
  · exact store_ct_shy s F (nmEq_eq h).symm
  · exact store_ct_tas s F (nmEq_eq h).symm
end Go.Proofs.YtbonamhinnhlnaaGreatDoor
namespace Go.Proofs.YtbonamhinnhlnaaGreatDoor
open Go.RowKit
set_option linter.unusedSimpArgs false
set_option linter.unusedVariables false
set_option maxRecDepth 20000

set_option maxHeartbeats 2000000 in
theorem doon_ct (s : Wk) (F : Fiw s) (h : readsL.any (fun e => nmEq e.1 s.nm) = true) : CM 99 s (doM .doOn s) := by
  intro R T w hR
  have HZB := Lib.hid alloc_by
  have HZU := Lib.hid alloc_bus
  have H := Mem.begin hR
  clear hR
  go_enter Tryz.func99, Tryz.ntmps99
  go_wp2_with (first | (go_at_call 117; obtain ⟨T0, hT⟩ := H.get (i := 0) rfl; (with_reducible refine Calls.mono (does_ct _ F h _ _ _ hT) ?_); rintro e w2 ⟨rfl, hm⟩; replace H := H.call (i := 0) rfl hm; clear hm hT; simp only [List.set_cons_zero, List.set_cons_succ] at H) | (go_at_call 118; obtain ⟨T0, hT⟩ := H.get (i := 0) rfl; (with_reducible refine Calls.mono (on_ct _ _ _ _ hT) ?_); rintro e w2 ⟨rfl, hm⟩; replace H := H.call (i := 0) rfl hm; clear hm hT; simp only [List.set_cons_zero, List.set_cons_succ] at H) | go_skip | fail)
  (try simp only [IntKind.wrap_u16, IntKind.wrap_u8] at H)
  all_goals (first | refine fall rfl rfl ?_ | refine fallr rfl rfl ?_)
  all_goals (refine ⟨rfl, ?_⟩; first | exact H.only (i := 0) rfl)

set_option maxHeartbeats 2000000 in
theorem changea_ct (s : Wk) (F : Fiw s) (h : changesL.any (fun e => nmEq e.1 s.nm) = true) : CM 98 s (doM .accA s) := by
  intro R T w hR
  have HZB := Lib.hid alloc_by
  have HZU := Lib.hid alloc_bus
  have H := Mem.begin hR
  clear hR
  go_enter Tryz.func98, Tryz.ntmps98
  go_wp2_with (first | (go_at_call 116; obtain ⟨T0, hT⟩ := H.get (i := 0) rfl; (with_reducible refine Calls.mono (change_ct _ _ _ F.f.a0 F.f.a1 F h _ _ _ hT) ?_); rintro e w2 ⟨rfl, hm⟩; replace H := H.call (i := 0) rfl hm; clear hm hT; simp only [List.set_cons_zero, List.set_cons_succ] at H) | go_skip | (refine gate_load _ _ rfl ?_; first | (refine wpList_mload rfl 23 _ rfl _ _ rfl 0 H _ #[.int .u8 _, .bool _] rfl (by decide +kernel) (by kernel_rfl) (part2 rfl rfl) ?_)) | (refine gate_store _ _ _ rfl ?_; (first | (refine wpList_mstore rfl 23 _ _ rfl rfl _ _ rfl 0 H _ _ rfl (.agg #[.int .u8 _, .bool _]) rfl (by kernel_rfl) (of_decide_eq_true (by kernel_rfl)) (by kernel_rfl) (by first | with_reducible exact st_A _ _ _) ?_)); clear H; intro w1 H; simp only [List.set_cons_zero, List.set_cons_succ] at H) | fail)
  (try simp only [IntKind.wrap_u16, IntKind.wrap_u8] at H)
  all_goals (first | refine fall rfl rfl ?_ | refine fallr rfl rfl ?_)
  all_goals (refine ⟨rfl, ?_⟩; first | exact H.only (i := 0) rfl)

set_option maxHeartbeats 2000000 in
theorem changed_ct (s : Wk) (F : Fiw s) (h : changesL.any (fun e => nmEq e.1 s.nm) = true) : CM 151 s (doM .changed s) := by
  intro R T w hR
  have HZB := Lib.hid alloc_by
  have HZU := Lib.hid alloc_bus
  have H := Mem.begin hR
  clear hR
  go_enter Tryz.func151, Tryz.ntmps151
  go_wp2_with (first | (go_at_call 116; obtain ⟨T0, hT⟩ := H.get (i := 0) rfl; (with_reducible refine Calls.mono (change_ct _ _ _ F.f.d0 F.f.d1 F h _ _ _ hT) ?_); rintro e w2 ⟨rfl, hm⟩; replace H := H.call (i := 0) rfl hm; clear hm hT; simp only [List.set_cons_zero, List.set_cons_succ] at H) | go_skip | (refine gate_load _ _ rfl ?_; first | (refine wpList_mload rfl 23 _ rfl _ _ rfl 0 H _ #[.int .u8 _, .bool _] rfl (by decide +kernel) (by kernel_rfl) (part2 rfl rfl) ?_)) | fail)
  (try simp only [IntKind.wrap_u16, IntKind.wrap_u8] at H)
  all_goals (first | refine fall rfl rfl ?_ | refine fallr rfl rfl ?_)
  all_goals (refine ⟨rfl, ?_⟩; first | exact H.only (i := 0) rfl)

set_option maxHeartbeats 2000000 in
theorem stored_ct (s : Wk) (F : Fiw s) (h : storesL.any (fun e => nmEq e.1 s.nm) = true) : CM 148 s (doM .stored s) := by
  intro R T w hR
  have HZB := Lib.hid alloc_by
  have HZU := Lib.hid alloc_bus
  have H := Mem.begin hR
  clear hR
  go_enter Tryz.func148, Tryz.ntmps148
  go_wp2_with (first | (go_at_call 181; obtain ⟨T0, hT⟩ := H.get (i := 0) rfl; (with_reducible refine Calls.mono (store_ct _ F h _ _ _ hT) ?_); rintro e w2 ⟨rfl, hm⟩; replace H := H.call (i := 0) rfl hm; clear hm hT; simp only [List.set_cons_zero, List.set_cons_succ] at H) | go_skip | fail)
  (try simp only [IntKind.wrap_u16, IntKind.wrap_u8] at H)
  all_goals (first | refine fall rfl rfl ?_ | refine fallr rfl rfl ?_)
  all_goals (refine ⟨rfl, ?_⟩; first | exact H.only (i := 0) rfl)

set_option maxHeartbeats 2000000 in
theorem putstored_ct (s : Wk) (F : Fiw s) (h : storesL.any (fun e => nmEq e.1 s.nm) = true) : CA 147 s (askM .stored s) := by
  intro w
  have HZB := Lib.hid alloc_by
  have HZU := Lib.hid alloc_bus
  have H := Mem.start w
  go_enter Tryz.func147, Tryz.ntmps147
  go_wp2_with (first | (go_at_call 181; obtain ⟨T0, hT⟩ := H.get (i := 1) rfl; (with_reducible refine Calls.mono (store_ct _ F h _ _ _ hT) ?_); rintro e w2 ⟨rfl, hm⟩; replace H := H.call (i := 1) rfl hm; clear hm hT; simp only [List.set_cons_zero, List.set_cons_succ] at H) | (refine wpList_mboxA rfl _ _ rfl H _ rfl ?_; clear H; intro _ w1 _ H) | go_skip | (refine gate_store _ _ _ rfl ?_; (first | (refine wpList_mstoreA rfl 36 _ _ rfl rfl _ rfl 0 H (bsC _) _ rfl rfl (by kernel_rfl) (by kernel_rfl) (by kernel_rfl) ?_)); clear H; intro w1 H; simp only [List.set_cons_zero, List.set_cons_succ] at H) | (refine wpList_mnew rfl _ rfl H _ HZU.out ?_; clear H; intro _ w1 _ H) | fail)
  first | refine ret_mem1 rfl _ rfl 0 H _ rfl (by kernel_rfl) (by kernel_rfl) rfl ?_ | refine ret_mem1 rfl _ rfl 1 H _ rfl (by kernel_rfl) (by kernel_rfl) rfl ?_
  exact ⟨rfl, H.toBelow⟩

set_option maxHeartbeats 2000000 in
theorem cross_ct (s : Wk) (F : Fiw s) (h : s.us = 1 → s.cr = false → readsL.any (fun e => nmEq e.1 s.nm) = true) : CM 142 s (crossW s) := by
  intro R T w hR
  have HZB := Lib.hid alloc_by
  have HZU := Lib.hid alloc_bus
  have H := Mem.begin hR
  clear hR
  go_enter Tryz.func142, Tryz.ntmps142
  go_wp2_with (first | (go_at_call 117; obtain ⟨T0, hT⟩ := H.get (i := 0) rfl; (with_reducible refine Calls.mono (does_ct _ F (h (by first | assumption | simp_all) (by first | assumption | simp_all)) _ _ _ hT) ?_); rintro e w2 ⟨rfl, hm⟩; replace H := H.call (i := 0) rfl hm; clear hm hT; simp only [List.set_cons_zero, List.set_cons_succ] at H) | go_skip | (refine gate_load _ _ rfl ?_; first | (refine wpList_mload1 rfl _ _ rfl _ _ rfl 0 H _ (.int _ _) rfl rfl (by decide +kernel) ?_) | (refine wpList_mload1 rfl _ _ rfl _ _ rfl 0 H _ (.bool _) rfl rfl (by decide +kernel) ?_)) | (refine gate_store _ _ _ rfl ?_; (first | (refine wpList_mstore rfl _ _ _ rfl rfl _ _ rfl 0 H _ _ rfl (.int _ _) rfl (by kernel_rfl) (of_decide_eq_true (by kernel_rfl)) (by kernel_rfl) (by first | with_reducible exact st_Ad _ _ | with_reducible exact st_Nx _ _) ?_)); clear H; intro w1 H; simp only [List.set_cons_zero, List.set_cons_succ] at H) | fail)
  (try simp only [IntKind.wrap_u16, IntKind.wrap_u8] at H)
  all_goals (first | refine fall rfl rfl ?_ | refine fallr rfl rfl ?_)
  all_goals (refine ⟨rfl, ?_⟩; first | (refine (H.only (i := 0) rfl).asW ?_; clear H; simp [IntKind.wrap_u16, IntKind.wrap_u8, Wk.uA, Wk.uX, Wk.uY, Wk.uS, Wk.uSV, Wk.uF, Wk.uPC, Wk.uPCS, Wk.uOp, Wk.uT, Wk.uAd, Wk.uAdS, Wk.uD, Wk.uCr, Wk.uIntr, Wk.uNmi, Wk.uGot, Wk.uPend, Wk.uCtl, Wk.uJam, Wk.uNx, Wk.uIs, doM, onW, keepW, jumpW, pushedW, pulledW, addW, reachW, begunW, beginW, branchW, aimW, crossW, loadA, loadX, loadY, flagW, cmpW, endW, hearW, turnW, *]; done) | (refine (H.only (i := 0) rfl).asW ?_; clear H; simp_all [IntKind.wrap_u16, IntKind.wrap_u8, Wk.uA, Wk.uX, Wk.uY, Wk.uS, Wk.uSV, Wk.uF, Wk.uPC, Wk.uPCS, Wk.uOp, Wk.uT, Wk.uAd, Wk.uAdS, Wk.uD, Wk.uCr, Wk.uIntr, Wk.uNmi, Wk.uGot, Wk.uPend, Wk.uCtl, Wk.uJam, Wk.uNx, Wk.uIs, doM, onW, keepW, jumpW, pushedW, pulledW, addW, reachW, begunW, beginW, branchW, aimW, crossW, loadA, loadX, loadY, flagW, cmpW, endW, hearW, turnW]; done))

end Go.Proofs.YtbonamhinnhlnaaGreatDoor
