/-
  Several texts in one: what is read and written by the functions on the way to the statements. Conditions stand in each theorem.
-/
import Derived.Test.YtcgnnbgknaamdaaGreatDoorX34
import Derived.Test.YtcgnnbgknaamdaaGreatDoorX33
import Derived.MakeChecks
import Derived.Test.YtcgnnbgknaamdaaGreatDoorX01
import Derived.Test.YtcgnnbgknaamdaaGreatDoorX03
import Derived.Test.YtcgnnbgknaamdaaGreatDoorX06
import Derived.Test.YtcgnnbgknaamdaaGreatDoorX32
namespace Go.Proofs.YtcgnnbgknaamdaaGreatDoor
open Go.RowKit
set_option linter.unusedSimpArgs false
set_option linter.unusedVariables false
set_option maxRecDepth 20000

theorem ret_ctct {P : Program} {n : Nat} {X : List Nat} {w0 w : World} {l : List (Nat × Array Value)} {a : Act} {fn : Func} {Rr : Ending → World → Prop} {p q r s : Tmp} {ty tz : TypeId} (hf : fn.results = #[.cell p ty, .tmp q, .cell r tz, .tmp s]) (R S : Nat) (hp : a.tmps.getD p undef = .pointer (some ⟨R, 0, none⟩)) (hr : a.tmps.getD r undef = .pointer (some ⟨S, 0, none⟩)) (i j : Nat) (H : Mem n X w0 w l) (cs ds : Array Value) (hi : l[i]? = some (R, cs)) (hj : l[j]? = some (S, ds))
    (hu : (P.underlying ty).map aggB = some true) (hz : (P.info? ty).map (·.size) = some cs.size) (hu2 : (P.underlying tz).map aggB = some true) (hz2 : (P.info? tz).map (·.size) = some ds.size) (hd : a.defers = []) (v u : Value) (hq : a.tmps.getD q undef = v) (hs : a.tmps.getD s undef = u) (h : Rr (.returned (.tuple #[.agg cs, v, .agg ds, u])) w) : bodyPost P fn Rr .ret a w := by
  obtain ⟨t, hg⟩ := H.get hi
  obtain ⟨t2, hg2⟩ := H.get hj
  refine bodyPost_ret ?_ hd h
  have hl := run_loadVar_part (P := P) w R 0 t ty cs cs hg hu hz (fun j v hj => by rw [Nat.zero_add]; exact hj)
  have hl2 := run_loadVar_part (P := P) w S 0 t2 tz ds ds hg2 hu2 hz2 (fun j v hj => by rw [Nat.zero_add]; exact hj)
  have hp' : a.tmps[p]?.getD undef = .pointer (some ⟨R, 0, none⟩) := by simpa using hp
  have hr' : a.tmps[r]?.getD undef = .pointer (some ⟨S, 0, none⟩) := by simpa using hr
  have hq' : a.tmps[q]?.getD undef = v := by simpa using hq
  have hs' : a.tmps[s]?.getD undef = u := by simpa using hs
  simp [results, hf, hp', hr', hq', hs', asAddr, hl, hl2]
attribute [local irreducible] wpList
set_option maxHeartbeats 4000000 in
theorem step_ct (c : Cp) (sv : Value) (l : List (Int × Bool)) (i n r : Bool) (F : Fit c) (ok : okB c = true) (om : okM l) (hm : memB l.length = true) (w : World) (G : GlobO w) (hr : Rd w sv l) :
    Calls Tryz.prog 13 #[.agg (cpC c), sv, .agg #[.bool i, .bool n, .bool r]] w fun e w' => ∃ g cap cs, e = .returned (.tuple #[.agg (cpC (nextM c l i n r)), .slice (some ⟨g, 0, none⟩) l.length cap, .agg (bsC (toldM c l)), .int .i64 0]) ∧ RowG bcl 2 cs cap (wroteM c l) ∧ Mem w.heap.size [] w w' [(g, cs)] := by
  have hlen : 256 ≤ l.length ∧ l.length ≤ 65536 := by
    simp only [memB, Bool.and_eq_true, decide_eq_true_eq] at hm
    exact ⟨hm.1.1, hm.1.2⟩
  obtain ⟨N, hN⟩ : ∃ N, l.length = N := ⟨_, rfl⟩
  rw [hN]
  have QS := Lib.hid (fun wr gr h => start_ct c sv l 1 F ok hm (by decide) (by decide) wr gr h)
  rw [hN] at QS
  have QY := Lib.hid (fun R g cap cs hG wr L H => cycle_ct c l N i n r F ok om hN (by omega) (by omega) R g cap cs hG _ _ w wr (fun _ _ h => G.mem h) L H)
  have GG := Lib.hid G
  have HR := Lib.hid hr
  have HZC := Lib.hid alloc_cpu
  have HB := Lib.hid alloc_bus
  have H := Mem.start w
  generalize nextM c l i n r = d at *
  generalize toldM c l = B at *
  generalize wroteM c l = l2 at *
  clear F ok om hm G hr hlen hN
  have M1 : True := trivial
  have M2 : True := trivial
  have M3 : True := trivial
  have M4 : True := trivial
  have M5 : True := trivial
  go_enter Tryz.func13, Tryz.ntmps13
  go_wp2_with (first | (clear M1; refine wpList_mboxA rfl _ _ rfl H _ rfl ?_; clear H; intro R3 w1 _ H) | (clear M2; refine wpList_mboxA rfl _ _ rfl H _ rfl ?_; clear H; intro R5 w1 _ H) | (clear M3; refine wpList_mnew rfl _ rfl H _ HZC.out ?_; clear H; intro R6 w1 _ H) | (clear M4; refine wpList_mnew rfl _ rfl H _ HB.out ?_; clear H; intro R8 w1 _ H) | (refine gate_load _ _ rfl ?_; refine wpList_mloadA rfl 28 _ rfl _ rfl 3 H (cpC _) rfl (by decide +kernel) (by kernel_rfl) ?_) | (go_at_call 18; (with_reducible refine (QS.out _ (GG.out.mem H) (HR.out.below H.toBelow)).mono ?_); rintro e w2 ⟨R, g, cap, cs, rfl, hG, hM⟩; replace H := Mem.join H hM; clear hM; simp only [List.cons_append, List.nil_append] at H) | (refine gate_load _ _ rfl ?_; refine wpList_mloadA rfl 31 _ rfl _ rfl 4 H #[.bool _, .bool _, .bool _] rfl (by decide +kernel) (by kernel_rfl) ?_) | (go_at_call 25; (with_reducible refine (QY.out R g cap cs hG _ _ H).mono ?_); rintro e w2 ⟨cs2, rfl, hG2, hM⟩; clear H; have H := hM; clear hM hG) | (clear M5; refine wpList_mnew rfl _ rfl H _ HB.out ?_; clear H; intro Rb w1 _ H) | (refine gate_store _ _ _ rfl ?_; refine wpList_mstoreA rfl 46 _ _ rfl rfl _ rfl 0 H (bsC _) _ rfl rfl (by kernel_rfl) (by kernel_rfl) (by kernel_rfl) ?_; clear H; intro w1 H; simp only [List.set_cons_zero, List.set_cons_succ] at H) | fail)
  (try simp only [Act.put, List.setIfInBounds_toArray, List.set_cons_succ, List.set_cons_zero])
  refine wp_region_x (by kernel_rfl) (by kernel_rfl) [(some 34, fun _ => .pointer (some ⟨R, 0, none⟩)), (some 35, fun _ => .pointer (some ⟨R, 0, none⟩)), (some 36, fun _ => .pointer (some ⟨R, 0, none⟩)), (some 37, fun _ => .agg (cpC d)), (some 38, fun _ => .pointer (some ⟨R, 0, none⟩)), (some 39, fun _ => .pointer (some ⟨R, 0, none⟩)), (some 40, fun _ => .pointer (some ⟨R, 25, none⟩)), (some 41, fun _ => .slice (some ⟨g, 0, none⟩) N cap), (some 42, fun _ => .agg (bsC B)), (none, fun _ => undef), (some 7, fun _ => .slice (some ⟨g, 0, none⟩) N cap), (none, fun _ => undef), (some 9, fun _ => .int .i64 0)] (fun D bq wv => Mem w.heap.size [] w wv [(Rb, bsC B), (R, plC d g N cap), (g, cs2), (R8, cond (D 11) (bsC B) (bsC bs0)), (R6, cond (D 9) (cpC d) (cpC cp0)), (R5, #[.bool i, .bool n, .bool r]), (R3, cpC c)]) 43 (by rfl) (by rfl) (by rfl) H.drew ⟨⟨rfl, ?p0⟩, ⟨rfl, ?p1⟩, ⟨rfl, ?p2⟩, ⟨rfl, ?p3⟩, ⟨rfl, ?p4⟩, ⟨rfl, ?p5⟩, ⟨rfl, ?p6⟩, ⟨rfl, ?p7⟩, ⟨rfl, ?p8⟩, ⟨rfl, ?p9⟩, ⟨rfl, ?p10⟩, ⟨rfl, ?p11⟩, ⟨rfl, ?p12⟩, trivial⟩ ?_
  case p0 =>
    intro D bq a' w' hk hc he hl hW
    (try dsimp only at hW)
    have f10 : a'.tmps.getD 10 undef = .pointer (some ⟨R, 0, none⟩) := (hl 10).trans ((vsx_no rfl).trans rfl)
    exact wp_val (.pointer (some ⟨R, 0, none⟩)) (by simp only [execOp, Act.eval, List.map_toArray, List.map_cons, List.map_nil]; rw [f10]; kernel_rfl) ⟨0, rfl, hW⟩
  case p1 =>
    intro D bq a' w' hk hc he hl hW
    (try dsimp only at hW)
    have e0 : a'.tmps.getD 34 undef = .pointer (some ⟨R, 0, none⟩) := (hl 34).trans (vsx_at (f := fun _ => .pointer (some ⟨R, 0, none⟩)) rfl (he ⟨0, .data⟩ (by simp) rfl) rfl)
    exact wp_val (.pointer (some ⟨R, 0, none⟩)) (by simp only [execOp, Act.eval, List.map_toArray, List.map_cons, List.map_nil]; rw [e0]; kernel_rfl) ⟨0, rfl, hW⟩
  case p2 =>
    intro D bq a' w' hk hc he hl hW
    (try dsimp only at hW)
    have e1 : a'.tmps.getD 35 undef = .pointer (some ⟨R, 0, none⟩) := (hl 35).trans (vsx_at (f := fun _ => .pointer (some ⟨R, 0, none⟩)) rfl (he ⟨1, .data⟩ (by simp) rfl) rfl)
    exact wp_val (.pointer (some ⟨R, 0, none⟩)) (by simp only [execOp, Act.eval, List.map_toArray, List.map_cons, List.map_nil]; rw [e1]; kernel_rfl) ⟨0, rfl, hW⟩
  case p3 =>
    intro D bq a' w' hk hc he hl hW
    (try dsimp only at hW)
    have e2 : a'.tmps.getD 36 undef = .pointer (some ⟨R, 0, none⟩) := (hl 36).trans (vsx_at (f := fun _ => .pointer (some ⟨R, 0, none⟩)) rfl (he ⟨2, .data⟩ (by simp) rfl) rfl)
    exact wp_sload _ _ rfl R 0 e2 1 hW (plC d g N cap) (cpC d) rfl (by decide +kernel) (by kernel_rfl) (pl_cpu _ _ _ _) ⟨0, rfl, hW⟩
  case p4 =>
    intro D bq a' w' hk hc he hl hW
    (try dsimp only at hW)
    have f10 : a'.tmps.getD 10 undef = .pointer (some ⟨R, 0, none⟩) := (hl 10).trans ((vsx_no rfl).trans rfl)
    exact wp_val (.pointer (some ⟨R, 0, none⟩)) (by simp only [execOp, Act.eval, List.map_toArray, List.map_cons, List.map_nil]; rw [f10]; kernel_rfl) ⟨0, rfl, hW⟩
  case p5 =>
    intro D bq a' w' hk hc he hl hW
    (try dsimp only at hW)
    have e4 : a'.tmps.getD 38 undef = .pointer (some ⟨R, 0, none⟩) := (hl 38).trans (vsx_at (f := fun _ => .pointer (some ⟨R, 0, none⟩)) rfl (he ⟨4, .data⟩ (by simp) rfl) rfl)
    exact wp_val (.pointer (some ⟨R, 0, none⟩)) (by simp only [execOp, Act.eval, List.map_toArray, List.map_cons, List.map_nil]; rw [e4]; kernel_rfl) ⟨0, rfl, hW⟩
  case p6 =>
    intro D bq a' w' hk hc he hl hW
    (try dsimp only at hW)
    have e5 : a'.tmps.getD 39 undef = .pointer (some ⟨R, 0, none⟩) := (hl 39).trans (vsx_at (f := fun _ => .pointer (some ⟨R, 0, none⟩)) rfl (he ⟨5, .data⟩ (by simp) rfl) rfl)
    exact wp_val (.pointer (some ⟨R, 25, none⟩)) (by simp only [execOp, Act.eval, List.map_toArray, List.map_cons, List.map_nil]; rw [e5]; kernel_rfl) ⟨0, rfl, hW⟩
  case p7 =>
    intro D bq a' w' hk hc he hl hW
    (try dsimp only at hW)
    have e6 : a'.tmps.getD 40 undef = .pointer (some ⟨R, 25, none⟩) := (hl 40).trans (vsx_at (f := fun _ => .pointer (some ⟨R, 25, none⟩)) rfl (he ⟨6, .data⟩ (by simp) rfl) rfl)
    exact wp_sload1 _ _ rfl R 25 e6 1 hW (plC d g N cap) (.slice (some ⟨g, 0, none⟩) N cap) rfl (pl_at _ _ _ _) (by decide +kernel) ⟨0, rfl, hW⟩
  case p8 =>
    intro D bq a' w' hk hc he hl hW
    (try dsimp only at hW)
    have f12 : a'.tmps.getD 12 undef = .pointer (some ⟨Rb, 0, none⟩) := (hl 12).trans ((vsx_no rfl).trans rfl)
    exact wp_sloadA _ _ rfl Rb f12 0 hW (bsC B) rfl (by decide +kernel) (by kernel_rfl) ⟨0, rfl, hW⟩
  case p9 =>
    intro D bq a' w' hk hc he hl hW
    (try dsimp only at hW)
    have f6 : a'.tmps.getD 6 undef = .pointer (some ⟨R6, 0, none⟩) := (hl 6).trans ((vsx_no rfl).trans rfl)
    have e3 : a'.tmps.getD 37 undef = .agg (cpC d) := (hl 37).trans (vsx_at (f := fun _ => .agg (cpC d)) rfl (he ⟨3, .data⟩ (by simp) rfl) rfl)
    have hM := hW
    simp only [hk, cond_false] at hM
    exact wp_sstoreA _ _ _ rfl rfl R6 f6 4 hM (cpC cp0) (cpC d) rfl e3 (by kernel_rfl) (by kernel_rfl) (by kernel_rfl) fun w1 hM1 => ⟨0, rfl, hM1⟩
  case p10 =>
    intro D bq a' w' hk hc he hl hW
    (try dsimp only at hW)
    have e7 : a'.tmps.getD 41 undef = .slice (some ⟨g, 0, none⟩) N cap := (hl 41).trans (vsx_at (f := fun _ => .slice (some ⟨g, 0, none⟩) N cap) rfl (he ⟨7, .data⟩ (by simp) rfl) rfl)
    exact wp_val (.slice (some ⟨g, 0, none⟩) N cap) (by simp only [execOp, Act.eval, List.map_toArray, List.map_cons, List.map_nil]; rw [e7]; kernel_rfl) ⟨0, rfl, hW⟩
  case p11 =>
    intro D bq a' w' hk hc he hl hW
    (try dsimp only at hW)
    have f8 : a'.tmps.getD 8 undef = .pointer (some ⟨R8, 0, none⟩) := (hl 8).trans ((vsx_no rfl).trans rfl)
    have e8 : a'.tmps.getD 42 undef = .agg (bsC B) := (hl 42).trans (vsx_at (f := fun _ => .agg (bsC B)) rfl (he ⟨8, .data⟩ (by simp) rfl) rfl)
    have hM := hW
    simp only [hk, cond_false] at hM
    exact wp_sstoreA _ _ _ rfl rfl R8 f8 3 hM (bsC bs0) (bsC B) rfl e8 (by kernel_rfl) (by kernel_rfl) (by kernel_rfl) fun w1 hM1 => ⟨0, rfl, hM1⟩
  case p12 =>
    intro D bq a' w' hk hc he hl hW
    (try dsimp only at hW)
    exact wp_val (.int .i64 0) (by kernel_rfl) ⟨0, rfl, hW⟩
  intro D bq wv hD hW
  (try dsimp only at hW)
  simp only [hD 9 (by decide), hD 11 (by decide), cond_true] at hW
  clear H hD
  have H := hW
  clear hW
  simp only [putAll, vsOf, Nat.reduceAdd, List.foldl_cons, List.foldl_nil, Act.put, List.setIfInBounds_toArray, List.set_cons_succ, List.set_cons_zero]
  go_wp2_with fail
  refine ret_ctct rfl R6 R8 rfl rfl 4 3 H (cpC d) (bsC B) rfl rfl (by kernel_rfl) (by kernel_rfl) (by kernel_rfl) (by kernel_rfl) rfl _ _ rfl rfl ?_
  exact ⟨_, _, _, rfl, hG2, H.sub (List.Sublist.cons _ (List.Sublist.cons _ (List.Sublist.cons_cons _ (List.nil_sublist _))))⟩
end Go.Proofs.YtcgnnbgknaamdaaGreatDoor
namespace Go.Proofs.YtcgnnbgknaamdaaGreatDoor
open Go.RowKit
attribute [local go_sem] Oper.semAt_some
set_option linter.unusedSimpArgs false
set_option linter.unusedVariables false
set_option maxRecDepth 100000

theorem Mem.more {n : Nat} {X : List Nat} {w0 W : World} {L : List (Nat × Array Value)} (h : Mem n X w0 W L) {b : Nat} {cs : Array Value} {T : TypeId} (e : W.heap[b]? = some (.cells cs T)) (hb : n ≤ b) (hn : ∀ x ∈ L, x.1 ≠ b) : Mem n X w0 W ((b, cs) :: L) :=
  ⟨h.os, h.tape, h.output, h.size, h.base, h.block, fun x hx => by
    rcases List.mem_cons.1 hx with rfl | hx
    · exact ⟨T, e⟩
    · exact h.row x hx, fun x hx => by
    rcases List.mem_cons.1 hx with rfl | hx
    · exact .inl hb
    · exact h.mine x hx, by
    rw [List.map_cons, List.nodup_cons]
    exact ⟨fun hm => by
      obtain ⟨x, hx, e⟩ := List.mem_map.1 hm
      exact hn x hx e, h.nodup⟩⟩
theorem Mem.begin3 {w : World} {R S U : Nat} {cs ds es : Array Value} {T1 T2 T3 : TypeId} (hR : w.heap[R]? = some (.cells cs T1)) (hS : w.heap[S]? = some (.cells ds T2)) (hU : w.heap[U]? = some (.cells es T3)) (h1 : R ≠ S) (h2 : R ≠ U) (h3 : S ≠ U) :
    Mem w.heap.size [R, S, U] w w [(R, cs), (S, ds), (U, es)] :=
  ⟨rfl, rfl, rfl, Nat.le_refl _, Nat.le_refl _, fun _ _ _ => rfl, fun x hx => by
    simp only [List.mem_cons, List.not_mem_nil, or_false] at hx
    rcases hx with rfl | rfl | rfl
    · exact ⟨_, hR⟩
    · exact ⟨_, hS⟩
    · exact ⟨_, hU⟩, fun x hx => by
    simp only [List.mem_cons, List.not_mem_nil, or_false] at hx
    rcases hx with rfl | rfl | rfl <;> exact .inr (by simp), by simp [h1, h2, h3]⟩
theorem res_cttt {P : Program} {fn : Func} {tmps : Array Value} {p q r s : Tmp} {ty : TypeId} (hf : fn.results = #[.cell p ty, .tmp q, .tmp r, .tmp s]) (R : Nat) (hp : tmps.getD p undef = .pointer (some ⟨R, 0, none⟩)) {w : World} {cs : Array Value} {t : TypeId} (hg : w.heap[R]? = some (.cells cs t (0, 0)))
    (hu : (P.underlying ty).map aggB = some true) (hz : (P.info? ty).map (·.size) = some cs.size) {v u x : Value} (hq : tmps.getD q undef = v) (hr : tmps.getD r undef = u) (hs : tmps.getD s undef = x) : (results fn tmps).run P w = .ok (.tuple #[.agg cs, v, u, x]) w := by
  have hl := run_loadVar_part (P := P) w R 0 t ty cs cs hg hu hz (fun j v hj => by rw [Nat.zero_add]; exact hj)
  have hp' : tmps[p]?.getD undef = .pointer (some ⟨R, 0, none⟩) := by simpa using hp
  have hq' : tmps[q]?.getD undef = v := by simpa using hq
  have hr' : tmps[r]?.getD undef = u := by simpa using hr
  have hs' : tmps[s]?.getD undef = x := by simpa using hs
  simp [results, hf, hp', hq', hr', hs', asAddr, hl]
/-- What a round begins with: the element, in a block of its own. -/
def RoundB (c : Cp) (l : List (Int × Bool)) (B k Bx : Nat) (W : World) : Prop := B ≤ Bx ∧ W.heap[Bx]? = some (.cells #[.int .u16 (tellF c l k).ad, .bool (tellF c l k).wr, .int .u8 (tellF c l k).v, .bool (tellF c l k).vb, .bool (tellF c l k).sc] 46 (0, 0))
theorem tells_succ (c : Cp) (l : List (Int × Bool)) (k : Nat) : ((List.range (k + 1)).map (tellF c l)) = (List.range k).map (tellF c l) ++ [tellF c l k] := by rw [List.range_succ, List.map_append]; rfl
theorem tells_len (c : Cp) (l : List (Int × Bool)) (k : Nat) : ((List.range k).map (tellF c l)).length = k := by simp
theorem cyclesf_ex (R : Nat) (n : Int) (w : World) : Calls Tryz.prog 19 #[.pointer (some ⟨R, 0, none⟩), .int .i64 n] w fun e w' => ∃ Bn Bp,
    e = .returned (.func (.func 28) #[] #[.pointer (some ⟨Bn, 0, none⟩), .pointer (some ⟨Bp, 0, none⟩)]) ∧ Mem w.heap.size [] w w' [(Bn, #[.int .i64 n]), (Bp, #[.pointer (some ⟨R, 0, none⟩)])] := by
  refine (cyclesf_ct R n w).mono ?_
  rintro e w' ⟨rfl, h⟩
  exact ⟨_, _, rfl, h⟩
theorem alloc_told (w : World) : (Instr.alloc 35 true (.tuple #[])).run Tryz.prog w = .ok (.pointer (some ⟨w.heap.size, 0, none⟩)) (w.alloc (.cells #[.slice none 0 0] 35)) := by kernel_rfl
def RunP (c : Cp) (l : List (Int × Bool)) (n : Nat) (w : World) (e : Ending) (w' : World) : Prop :=
  ∃ k g cap cs v, EndsF n c l k ∧ e = .returned (.tuple #[.agg (cpC (stF c l k).1), .slice (some ⟨g, 0, none⟩) l.length cap, v, .int .i64 0]) ∧ RowG bcl 2 cs cap (stF c l k).2 ∧ Mem w.heap.size [] w w' [(g, cs)] ∧
    w'.ownsRow w.heap.size 46 5 v k (((List.range k).map (tellF c l)).flatMap bscl) ∧ v.ownBlock ≠ some g
set_option maxHeartbeats 16000000 in
theorem run_yes (c : Cp) (sv : Value) (l : List (Int × Bool)) (n : Nat) (F : Fit c) (ok : okB c = true) (om : okM l) (hm : memB l.length = true) (hn : n ≤ 100000) (w : World) (G : GlobO w) (hr : Rd w sv l) :
    Calls Tryz.prog 7 #[.agg (cpC c), sv, .int .i64 (n : Int)] w (RunP c l n w) := by
  have hlen : 256 ≤ l.length ∧ l.length ≤ 65536 := by
    simp only [memB, Bool.and_eq_true, decide_eq_true_eq] at hm
    exact ⟨hm.1.1, hm.1.2⟩
  have HS := Lib.hid (fun wr gr h => start_ct c sv l (n : Int) F ok hm (by omega) (by omega) wr gr h)
  have HF := Lib.hid F
  have HO := Lib.hid ok
  have HM := Lib.hid om
  have HG := Lib.hid G
  have HR := Lib.hid hr
  have HL := Lib.hid hlen
  have HZC := Lib.hid alloc_cpu
  have H := Mem.start w
  clear F ok om hm G hr hlen
  refine (callsIn_wide (n := 5)).1 ?_
  refine callsIn_of_wp_marks Tryz.func7 rfl trivial ?_ rfl
  simp only [Tryz.ntmps7, List.size_toArray, List.length_cons, List.length_nil, Nat.reduceAdd, Nat.reduceSub, Array.replicate_succ, Array.replicate_zero, List.push_toArray, List.append_toArray, List.nil_append, List.cons_append]
  refine wpIn_wide.2 ?_
  have HZT := Lib.hid alloc_told
  have QC := Lib.hid (fun R wr => cyclesf_ex R (n : Int) wr)
  go_wp2_with (first | (refine wpList_mboxA rfl _ _ rfl H _ rfl ?_; clear H; intro R3 w1 _ H) | (refine wpList_mnew rfl _ rfl H _ HZC.out ?_; clear H; intro R6 w1 _ H) | (refine wpList_mnew rfl _ rfl H _ HZT.out ?_; clear H; intro Bt w1 _ H) | (refine gate_load _ _ rfl ?_; refine wpList_mloadA rfl 28 _ rfl _ rfl 1 H (cpC _) rfl (by decide +kernel) (by kernel_rfl) ?_) | (go_at_call 18; (with_reducible refine (HS.out _ (HG.out.mem H) (HR.out.below H.toBelow)).mono ?_); rintro e w2 ⟨R, g, cap, cs, rfl, hG, hM⟩; replace H := Mem.join H hM; clear hM; simp only [List.cons_append, List.nil_append] at H) | (go_at_call 19; (with_reducible refine (QC.out _ _).mono ?_); rintro e w3 ⟨Bn, Bp, rfl, hM⟩; replace H := Mem.join H hM; clear hM; simp only [List.cons_append, List.nil_append] at H) | fail)
  have hnd := H.nodup
  simp only [List.map_cons, List.map_nil, List.nodup_cons, List.mem_cons, List.not_mem_nil, or_false, not_or] at hnd
  obtain ⟨⟨n1, n2, n3, n4, n5, n6⟩, ⟨n7, n8, n9, n10, n11⟩, ⟨n12, n13, n14, n15⟩, ⟨n16, n17, n18⟩, ⟨n19, n20⟩, n21, -, -⟩ := hnd
  have l1 : Bn < w3.heap.size := H.lt (x := (Bn, _)) (List.mem_of_getElem? (i := 0) rfl)
  have l2 : Bp < w3.heap.size := H.lt (x := (Bp, _)) (List.mem_of_getElem? (i := 1) rfl)
  have l3 : Bt < w3.heap.size := H.lt (x := (Bt, _)) (List.mem_of_getElem? (i := 2) rfl)
  have l4 : R < w3.heap.size := H.lt (x := (R, _)) (List.mem_of_getElem? (i := 3) rfl)
  have l5 : g < w3.heap.size := H.lt (x := (g, _)) (List.mem_of_getElem? (i := 4) rfl)
  have l6 : R6 < w3.heap.size := H.lt (x := (R6, _)) (List.mem_of_getElem? (i := 5) rfl)
  have l7 : R3 < w3.heap.size := H.lt (x := (R3, _)) (List.mem_of_getElem? (i := 6) rfl)
  have m3 : w.heap.size ≤ Bt := by simpa using H.mine (Bt, _) (List.mem_of_getElem? (i := 2) rfl)
  have m4 : w.heap.size ≤ R := by simpa using H.mine (R, _) (List.mem_of_getElem? (i := 3) rfl)
  have m5 : w.heap.size ≤ g := by simpa using H.mine (g, _) (List.mem_of_getElem? (i := 4) rfl)
  have lo := HG.out.lt
  have hw3 := H.size
  have pin : PlayIn R g Bn Bp w3.heap.size := ⟨l4, l5, l1, l2, by omega, n16, n3, n4, n8, n9, by omega, by omega⟩
  have hP0 : PlayAt c l R g l.length cap Bn Bp n 0 w3 := ⟨H.get (i := 3) rfl, by
    obtain ⟨T, e⟩ := H.get (i := 4) rfl
    exact ⟨cs, T, e, hG⟩, H.get (i := 0) rfl, H.get (i := 1) rfl, HG.out.mem H⟩
  have hT0 : ToldAt w3.heap.size Bt ((List.range 0).map (tellF c l)) w3 := by
    obtain ⟨T, e⟩ := H.get (i := 2) rfl
    exact ⟨_, T, e, World.ownsRow_nil _ _ _ _⟩
  have hF0 : Mem w.heap.size [] w w3 [(R6, cpC cp0), (R3, cpC c)] := H.sub (List.Sublist.cons _ (List.Sublist.cons _ (List.Sublist.cons _ (List.Sublist.cons _ (List.Sublist.cons _ (List.Sublist.refl _))))))
  clear H hG
  refine (wpIn_wide (n := 5)).1 ?_
  have hY : ∀ k, Abide w3.heap.size (fun W => (k < n ∧ ∀ j, 0 < j → j ≤ k → (stF c l j).1.jam = false) ∧ PlayAt c l R g l.length cap Bn Bp n (k + 1) W ∧ ToldAt w3.heap.size Bt ((List.range k).map (tellF c l)) W ∧ Mem w.heap.size [] w W [(R6, cpC cp0), (R3, cpC c)] ∧ w3.heap.size ≤ W.heap.size) :=
    fun k => abide_and (abide_true _) (abide_and (PlayAt.abide pin) (abide_and told_abide (abide_and (mem_abide hw3 (.inr trivial)) abide_size)))
  have HYA := Lib.hid hY
  have HPIN := Lib.hid pin
  obtain ⟨i0, hi, hz0, hz1, hz2⟩ := info_parts info_bus
  refine rangeW rfl (by omega) (gf := 28) (lb := #[.pointer (some ⟨Bn, 0, none⟩), .pointer (some ⟨Bp, 0, none⟩)]) rfl trivial (enters_of Tryz.func28 (by kernel_rfl) rfl)
    (encs := encF c l) (c0 := .skip)
    (cycles_in c l l.length n R g cap Bn Bp w3.heap.size HF.out HO.out HM.out rfl (by have := HL.out; omega) HL.out.2 hn pin
      (fun k W => ToldAt w3.heap.size Bt ((List.range k).map (tellF c l)) W ∧ Mem w.heap.size [] w W [(R6, cpC cp0), (R3, cpC c)] ∧ w3.heap.size ≤ W.heap.size) (fun _ _ => False)
      (fun k A A' hj hm => ⟨told_near hj.1 hm n12 n13 l4 l5, hj.2.1.near hm m4 m5 (fun x hx => by
        simp only [List.mem_cons, List.not_mem_nil, or_false] at hx
        rcases hx with rfl | rfl
        · exact ⟨fun e => n17 e.symm, fun e => n19 e.symm⟩
        · exact ⟨fun e => n18 e.symm, fun e => n20 e.symm⟩), Nat.le_trans hj.2.2 hm.size⟩) 4 (by omega))
    (fun _ => rfl) (fun k => abide_and (PlayAt.abide pin) (abide_and told_abide (abide_and (mem_abide hw3 (.inr trivial)) abide_size))) hY (fun k => abide_and (PlayAt.abide pin) (abide_true False)) ⟨hP0, hT0, hF0, Nat.le_refl _⟩
    (fun k a' W => ∃ Bx, RoundB c l w3.heap.size k Bx W ∧ a' = { tmps := #[.agg (cpC c), sv, .int .i64 (n : Int), .pointer (some ⟨R3, 0, none⟩), undef, undef, .pointer (some ⟨R6, 0, none⟩), .slice none 0 0, .slice none 0 0, .int .i64 0, .pointer (some ⟨R, 0, none⟩), .int .i64 0, .pointer (some ⟨Bt, 0, none⟩), .pointer (some ⟨Bx, 0, none⟩), .tuple #[.pointer (some ⟨R, 0, none⟩), .int .i64 0], .agg (cpC c), sv, .int .i64 (n : Int), .tuple #[.pointer (some ⟨R, 0, none⟩), .int .i64 0], .pointer (some ⟨R, 0, none⟩), .int .i64 0, .int .i64 0, .bool false, undef, undef, undef, undef, undef, undef, undef, undef, undef, .pointer (some ⟨R, 0, none⟩), .int .i64 (n : Int), .func (.func 28) #[] #[.pointer (some ⟨Bn, 0, none⟩), .pointer (some ⟨Bp, 0, none⟩)], .agg #[.int .u16 (tellF c l k).ad, .bool (tellF c l k).wr, .int .u8 (tellF c l k).v, .bool (tellF c l k).vb, .bool (tellF c l k).sc], undef, undef, undef, undef, undef, undef, undef, undef, undef, undef, undef, undef, undef], defers := [] })
    (fun k a' => abide_ex fun Bx => abide_and (abide_and (abide_true _) (abide_box rfl)) (abide_true _))
    ?assign ?body ?done ?stop
  case assign =>
    rintro lr k W K hy hK
    gi_wp2
    exact hK _ _ ((KeepsOthers.alloc _ _).from _) ((HYA.out k).alloc W _ hy) ⟨W.heap.size, ⟨hy.2.2.2.2, World.alloc_heap_new W _⟩, rfl⟩
  case body =>
    rintro lr k a' W hl ⟨⟨hk, -⟩, hP, ⟨v, t, hv, hrow⟩, hF, hsz⟩ ⟨Bx, ⟨hBx, bX⟩, rfl⟩
    rw [tells_len] at hrow
    have HP := Lib.hid hP
    have HFR := Lib.hid hF
    have hc := hv.cell
    have x0 : W.cell? ⟨Bx, 0, none⟩ = some (.int .u16 (tellF c l k).ad) := cell_of_row W Bx 0 _ _ _ bX
    have x1 : W.cell? ⟨Bx, 1, none⟩ = some (.bool (tellF c l k).wr) := cell_of_row W Bx 1 _ _ _ bX
    have x2 : W.cell? ⟨Bx, 2, none⟩ = some (.int .u8 (tellF c l k).v) := cell_of_row W Bx 2 _ _ _ bX
    have x3 : W.cell? ⟨Bx, 3, none⟩ = some (.bool (tellF c l k).vb) := cell_of_row W Bx 3 _ _ _ bX
    have x4 : W.cell? ⟨Bx, 4, none⟩ = some (.bool (tellF c l k).sc) := cell_of_row W Bx 4 _ _ _ bX
    clear hP hF bX
    gi_wp2_with (gi_at_builtin; refine wpListIn_append_own _ rfl _ _ 35 rfl w3.heap.size 46 i0 (.agg #[.int .u16 0, .bool false, .int .u8 0, .bool false, .bool false]) 5 6 Tryz.underlying35 hi hz0 hz1 hz2 rfl (by decide) _ _ _ rfl (hrow.alloc _) ⟨W.heap.size, 0, none⟩ 1 1 [.int .u16 (tellF c l k).ad, .bool (tellF c l k).wr, .int .u8 (tellF c l k).v, .bool (tellF c l k).vb, .bool (tellF c l k).sc] rfl rfl (cell_five_new _ _ _ _ _ _ _) (by simp [Value.oneCell']) (by unfold maxLen; omega) (by omega) (by simp; omega) ?_; intro v' w1 hown' hgrow _; obtain ⟨g', cap', rfl⟩ := ownsRow_succ hown'; obtain ⟨hv1, hv2, hr2, hk2, hb2⟩ := told_appended (n₀ := w.heap.size) m3 l3 hv hrow hsz hown' hgrow; have hkk := kept_appended (B := Bt) (v' := .slice (some ⟨g', 0, none⟩) (k + 1) cap') hrow hsz hgrow; have hc1 := hv1.cell; have hf1 := hv1.frozen)
    refine ⟨hk2.from _, HP.out.but pin n12 n13 (Ne.symm n2) (Ne.symm n7) (by omega) hkk hb2.size, ⟨_, t, hv2, ?_⟩, HFR.out.stay hb2.os hb2.tape hb2.output hb2.size (fun b hb => hb2.block b hb) (fun x hx => ?_), Nat.le_trans hsz hb2.size⟩
    · rw [tells_len, tells_succ, List.flatMap_append]
      exact hr2
    · simp only [List.mem_cons, List.not_mem_nil, or_false] at hx
      rcases hx with rfl | rfl
      · exact hkk R6 l6 (fun e => n14 e.symm)
      · exact hkk R3 l7 (fun e => n15 e.symm)
  case done =>
    rintro Dd k W hDd hS ⟨hP, ⟨v, t, hv, hrow⟩, hF, hsz⟩ hK
    obtain ⟨T1, ep⟩ := hP.play
    obtain ⟨cs', T2, eg, hG'⟩ := hP.row
    obtain ⟨T3, ec⟩ := hF.get (i := 0) rfl
    have H := Mem.begin3 ep hv ec (fun e => n12 e.symm) n17 n14
    obtain ⟨d, hd⟩ : ∃ d, (stF c l k).1 = d := ⟨_, rfl⟩
    obtain ⟨N, hN⟩ : ∃ N, l.length = N := ⟨_, rfl⟩
    rw [hd, hN] at H
    have HK := Lib.hid hK
    have HEG := Lib.hid eg
    have HFR := Lib.hid hF
    have HROW := Lib.hid hrow
    clear hK ep eg ec hP hF hrow hv
    go_wp2_with fail
    (try simp only [Act.put, List.setIfInBounds_toArray, List.set_cons_succ, List.set_cons_zero])
    refine wp_region_x (by kernel_rfl) (by kernel_rfl) [(some 40, fun _ => .pointer (some ⟨R, 0, none⟩)), (some 41, fun _ => .pointer (some ⟨R, 0, none⟩)), (some 42, fun _ => .pointer (some ⟨R, 0, none⟩)), (some 43, fun _ => .agg (cpC d)), (some 44, fun _ => .pointer (some ⟨R, 0, none⟩)), (some 45, fun _ => .pointer (some ⟨R, 0, none⟩)), (some 46, fun _ => .pointer (some ⟨R, 25, none⟩)), (some 47, fun _ => .slice (some ⟨g, 0, none⟩) N cap), (some 48, fun _ => v), (none, fun _ => undef), (some 7, fun _ => .slice (some ⟨g, 0, none⟩) N cap), (some 8, fun _ => v), (some 9, fun _ => .int .i64 0)] (fun D bq wv => Mem W.heap.size [R, Bt, R6] W wv [(R, plC d g N cap), (Bt, #[v]), (R6, cond (D 9) (cpC d) (cpC cp0))]) 49 (by rfl) (by rfl) (by rfl) H.drew ⟨⟨rfl, ?p0⟩, ⟨rfl, ?p1⟩, ⟨rfl, ?p2⟩, ⟨rfl, ?p3⟩, ⟨rfl, ?p4⟩, ⟨rfl, ?p5⟩, ⟨rfl, ?p6⟩, ⟨rfl, ?p7⟩, ⟨rfl, ?p8⟩, ⟨rfl, ?p9⟩, ⟨rfl, ?p10⟩, ⟨rfl, ?p11⟩, ⟨rfl, ?p12⟩, trivial⟩ ?_
    case p0 =>
      intro D bq a' w' hk hc he hl hW
      (try dsimp only at hW)
      have f10 : a'.tmps.getD 10 undef = .pointer (some ⟨R, 0, none⟩) := (hl 10).trans ((vsx_no rfl).trans rfl)
      exact wp_val (.pointer (some ⟨R, 0, none⟩)) (by simp only [execOp, Act.eval, List.map_toArray, List.map_cons, List.map_nil]; rw [f10]; kernel_rfl) ⟨0, rfl, hW⟩
    case p1 =>
      intro D bq a' w' hk hc he hl hW
      (try dsimp only at hW)
      have e0 : a'.tmps.getD 40 undef = .pointer (some ⟨R, 0, none⟩) := (hl 40).trans (vsx_at (f := fun _ => .pointer (some ⟨R, 0, none⟩)) rfl (he ⟨0, .data⟩ (by simp) rfl) rfl)
      exact wp_val (.pointer (some ⟨R, 0, none⟩)) (by simp only [execOp, Act.eval, List.map_toArray, List.map_cons, List.map_nil]; rw [e0]; kernel_rfl) ⟨0, rfl, hW⟩
    case p2 =>
      intro D bq a' w' hk hc he hl hW
      (try dsimp only at hW)
      have e1 : a'.tmps.getD 41 undef = .pointer (some ⟨R, 0, none⟩) := (hl 41).trans (vsx_at (f := fun _ => .pointer (some ⟨R, 0, none⟩)) rfl (he ⟨1, .data⟩ (by simp) rfl) rfl)
      exact wp_val (.pointer (some ⟨R, 0, none⟩)) (by simp only [execOp, Act.eval, List.map_toArray, List.map_cons, List.map_nil]; rw [e1]; kernel_rfl) ⟨0, rfl, hW⟩
    case p3 =>
      intro D bq a' w' hk hc he hl hW
      (try dsimp only at hW)
      have e2 : a'.tmps.getD 42 undef = .pointer (some ⟨R, 0, none⟩) := (hl 42).trans (vsx_at (f := fun _ => .pointer (some ⟨R, 0, none⟩)) rfl (he ⟨2, .data⟩ (by simp) rfl) rfl)
      exact wp_sload _ _ rfl R 0 e2 0 hW (plC d g N cap) (cpC d) rfl (by decide +kernel) (by kernel_rfl) (pl_cpu _ _ _ _) ⟨0, rfl, hW⟩
    case p4 =>
      intro D bq a' w' hk hc he hl hW
      (try dsimp only at hW)
      have f10 : a'.tmps.getD 10 undef = .pointer (some ⟨R, 0, none⟩) := (hl 10).trans ((vsx_no rfl).trans rfl)
      exact wp_val (.pointer (some ⟨R, 0, none⟩)) (by simp only [execOp, Act.eval, List.map_toArray, List.map_cons, List.map_nil]; rw [f10]; kernel_rfl) ⟨0, rfl, hW⟩
    case p5 =>
      intro D bq a' w' hk hc he hl hW
      (try dsimp only at hW)
      have e4 : a'.tmps.getD 44 undef = .pointer (some ⟨R, 0, none⟩) := (hl 44).trans (vsx_at (f := fun _ => .pointer (some ⟨R, 0, none⟩)) rfl (he ⟨4, .data⟩ (by simp) rfl) rfl)
      exact wp_val (.pointer (some ⟨R, 0, none⟩)) (by simp only [execOp, Act.eval, List.map_toArray, List.map_cons, List.map_nil]; rw [e4]; kernel_rfl) ⟨0, rfl, hW⟩
    case p6 =>
      intro D bq a' w' hk hc he hl hW
      (try dsimp only at hW)
      have e5 : a'.tmps.getD 45 undef = .pointer (some ⟨R, 0, none⟩) := (hl 45).trans (vsx_at (f := fun _ => .pointer (some ⟨R, 0, none⟩)) rfl (he ⟨5, .data⟩ (by simp) rfl) rfl)
      exact wp_val (.pointer (some ⟨R, 25, none⟩)) (by simp only [execOp, Act.eval, List.map_toArray, List.map_cons, List.map_nil]; rw [e5]; kernel_rfl) ⟨0, rfl, hW⟩
    case p7 =>
      intro D bq a' w' hk hc he hl hW
      (try dsimp only at hW)
      have e6 : a'.tmps.getD 46 undef = .pointer (some ⟨R, 25, none⟩) := (hl 46).trans (vsx_at (f := fun _ => .pointer (some ⟨R, 25, none⟩)) rfl (he ⟨6, .data⟩ (by simp) rfl) rfl)
      exact wp_sload1 _ _ rfl R 25 e6 0 hW (plC d g N cap) (.slice (some ⟨g, 0, none⟩) N cap) rfl (pl_at _ _ _ _) (by decide +kernel) ⟨0, rfl, hW⟩
    case p8 =>
      intro D bq a' w' hk hc he hl hW
      (try dsimp only at hW)
      have f12 : a'.tmps.getD 12 undef = .pointer (some ⟨Bt, 0, none⟩) := (hl 12).trans ((vsx_no rfl).trans rfl)
      exact wp_sload1 _ _ rfl Bt 0 f12 1 hW #[v] v rfl rfl (by decide +kernel) ⟨0, rfl, hW⟩
    case p9 =>
      intro D bq a' w' hk hc he hl hW
      (try dsimp only at hW)
      have f6 : a'.tmps.getD 6 undef = .pointer (some ⟨R6, 0, none⟩) := (hl 6).trans ((vsx_no rfl).trans rfl)
      have e3 : a'.tmps.getD 43 undef = .agg (cpC d) := (hl 43).trans (vsx_at (f := fun _ => .agg (cpC d)) rfl (he ⟨3, .data⟩ (by simp) rfl) rfl)
      have hM := hW
      simp only [hk, cond_false] at hM
      exact wp_sstoreA _ _ _ rfl rfl R6 f6 2 hM (cpC cp0) (cpC d) rfl e3 (by kernel_rfl) (by kernel_rfl) (by kernel_rfl) fun w1 hM1 => ⟨0, rfl, hM1⟩
    case p10 =>
      intro D bq a' w' hk hc he hl hW
      (try dsimp only at hW)
      have e7 : a'.tmps.getD 47 undef = .slice (some ⟨g, 0, none⟩) N cap := (hl 47).trans (vsx_at (f := fun _ => .slice (some ⟨g, 0, none⟩) N cap) rfl (he ⟨7, .data⟩ (by simp) rfl) rfl)
      exact wp_val (.slice (some ⟨g, 0, none⟩) N cap) (by simp only [execOp, Act.eval, List.map_toArray, List.map_cons, List.map_nil]; rw [e7]; kernel_rfl) ⟨0, rfl, hW⟩
    case p11 =>
      intro D bq a' w' hk hc he hl hW
      (try dsimp only at hW)
      have e8 : a'.tmps.getD 48 undef = v := (hl 48).trans (vsx_at (f := fun _ => v) rfl (he ⟨8, .data⟩ (by simp) rfl) rfl)
      exact wp_val (v) (by simp only [execOp, Act.eval, List.map_toArray, List.map_cons, List.map_nil]; rw [e8]; kernel_rfl) ⟨0, rfl, hW⟩
    case p12 =>
      intro D bq a' w' hk hc he hl hW
      (try dsimp only at hW)
      exact wp_val (.int .i64 0) (by kernel_rfl) ⟨0, rfl, hW⟩
    intro D bq wv hD hW
    (try dsimp only at hW)
    simp only [hD 9 (by decide), cond_true] at hW
    clear H hD
    have H := hW
    clear hW
    simp only [putAll, vsOf, Nat.reduceAdd, List.foldl_cons, List.foldl_nil, Act.put, List.setIfInBounds_toArray, List.set_cons_succ, List.set_cons_zero]
    go_wp2_with fail
    have hlv : Dd < W.heap.size := (Array.getElem?_eq_some_iff.1 HK.out).1
    have hKv : wv.heap[Dd]? = some (.deferred (some [])) := (H.block Dd hlv (by
      intro e
      simp only [List.mem_cons, List.not_mem_nil, or_false] at e
      omega)).trans HK.out
    obtain ⟨T6, e6⟩ := H.get (i := 2) rfl
    have e6' : (wv.putObj Dd (.deferred none)).heap[R6]? = some (.cells (cpC d) T6 (0, 0)) := (World.putObj_heap_other (by omega)).trans e6
    have kp : ∀ b, b < W.heap.size → b ≠ R → b ≠ Bt → b ≠ R6 → b ≠ Dd → (wv.putObj Dd (.deferred none)).heap[b]? = W.heap[b]? := fun b hb h1 h2 h3 h4 => (World.putObj_heap_other h4).trans (H.block b hb (by
      intro e
      simp only [List.mem_cons, List.not_mem_nil, or_false] at e
      rcases e with e | e | e
      · exact h1 e
      · exact h2 e
      · exact h3 e))
    have hs6 : w.heap.size ≤ R6 := by simpa using HFR.out.mine (R6, _) (List.mem_of_getElem? (i := 0) rfl)
    have hM : Mem w.heap.size [] w (wv.putObj Dd (.deferred none)) [(g, cs')] := ((HFR.out.sub (List.nil_sublist _)).more HEG.out m5 (fun x hx => by cases hx)).stay H.os H.tape H.output (by have := H.size; simpa [World.putObj] using this)
      (fun b hb => kp b (by omega) (by omega) (by omega) (by omega) (by omega)) (fun x hx => by
        simp only [List.mem_cons, List.not_mem_nil, or_false] at hx
        subst hx
        exact kp g (by omega) (fun e => n16 e.symm) (fun e => n13 e.symm) n19 (by omega))
    have hO : (wv.putObj Dd (.deferred none)).ownsRow w.heap.size 46 5 v k (((List.range k).map (tellF c l)).flatMap bscl) := by
      have h := HROW.out
      rw [tells_len] at h
      refine ⟨h.1, ?_⟩
      rcases h.2 with h | ⟨q, cp, cur, e, hb, hq, hr⟩
      · exact .inl h
      · refine .inr ⟨q, cp, cur, e, Nat.le_trans hw3 hb, (kp q (Array.getElem?_eq_some_iff.1 hq).1 (by omega) (by omega) (by omega) (fun e2 => ?_)).trans hq, hr⟩
        rw [e2, HK.out] at hq
        cases hq
    have hne : v.ownBlock ≠ some g := fun h => by
      have := (HROW.out.lt g h).1
      omega
    refine ⟨by simp, .inl ⟨_, _, rfl, run_takeDeferred hKv, ?_⟩⟩
    exact ⟨_, res_cttt (v := .slice (some ⟨g, 0, none⟩) N cap) (u := v) (x := .int .i64 0) rfl R6 rfl e6' (by kernel_rfl) (by kernel_rfl) rfl rfl rfl, k, g, cap, cs', v, hS, by rw [hd, hN], hG', hM, hO, hne⟩
  case stop =>
    rintro D k W _ h _
    exact h.2.elim
end Go.Proofs.YtcgnnbgknaamdaaGreatDoor
namespace Go.Proofs.YtcgnnbgknaamdaaGreatDoor
open Go.RowKit
attribute [local go_sem] Oper.semAt_some
set_option linter.unusedSimpArgs false
set_option linter.unusedVariables false
set_option maxRecDepth 100000

theorem Mem.begin4 {w : World} {R S U V : Nat} {cs ds es fs : Array Value} {T1 T2 T3 T4 : TypeId} (hR : w.heap[R]? = some (.cells cs T1)) (hS : w.heap[S]? = some (.cells ds T2)) (hU : w.heap[U]? = some (.cells es T3)) (hV : w.heap[V]? = some (.cells fs T4)) (h1 : R ≠ S) (h2 : R ≠ U) (h3 : R ≠ V) (h4 : S ≠ U) (h5 : S ≠ V) (h6 : U ≠ V) :
    Mem w.heap.size [R, S, U, V] w w [(R, cs), (S, ds), (U, es), (V, fs)] :=
  ⟨rfl, rfl, rfl, Nat.le_refl _, Nat.le_refl _, fun _ _ _ => rfl, fun x hx => by
    simp only [List.mem_cons, List.not_mem_nil, or_false] at hx
    rcases hx with rfl | rfl | rfl | rfl
    · exact ⟨_, hR⟩
    · exact ⟨_, hS⟩
    · exact ⟨_, hU⟩
    · exact ⟨_, hV⟩, fun x hx => by
    simp only [List.mem_cons, List.not_mem_nil, or_false] at hx
    rcases hx with rfl | rfl | rfl | rfl <;> exact .inr (by simp), by simp [h1, h2, h3, h4, h5, h6]⟩
/-- So many cycles, of n at the most, up to the end of an instruction. -/
def UntilF (n : Nat) (c : Cp) (l : List (Int × Bool)) (k : Nat) : Prop := k ≤ n ∧ (∀ j, 0 < j → j < k → (stF c l j).1.jam = false ∧ (stF c l j).1.t ≠ 0) ∧ (k = n ∨ (0 < k ∧ ((stF c l k).1.jam = true ∨ (stF c l k).1.t = 0)))
theorem alloc_pp (w : World) : (Instr.alloc 52 true (.tuple #[])).run Tryz.prog w = .ok (.pointer (some ⟨w.heap.size, 0, none⟩)) (w.alloc (.cells #[.pointer none] 52)) := by kernel_rfl
theorem alloc_in (w : World) : (Instr.alloc 3 true (.tuple #[])).run Tryz.prog w = .ok (.pointer (some ⟨w.heap.size, 0, none⟩)) (w.alloc (.cells #[.int .i64 0] 3)) := by kernel_rfl
def UntilP (c : Cp) (l : List (Int × Bool)) (n : Nat) (w : World) (e : Ending) (w' : World) : Prop :=
  ∃ k g cap cs, UntilF n c l k ∧ e = .returned (.tuple #[.agg (cpC (stF c l k).1), .slice (some ⟨g, 0, none⟩) l.length cap, .int .i64 (k : Int), .int .i64 0]) ∧ RowG bcl 2 cs cap (stF c l k).2 ∧ Mem w.heap.size [] w w' [(g, cs)]
/-- What a round of Until keeps. -/
def KeepU (R Bq Bt R6 R3 B k : Nat) (c : Cp) (w W : World) : Prop := (∃ t, Boxed W Bt t (.int .i64 (k : Int))) ∧ (∃ t, Boxed W Bq t (.pointer (some ⟨R, 0, none⟩))) ∧ Mem w.heap.size [] w W [(R6, cpC cp0), (R3, cpC c)] ∧ B ≤ W.heap.size
theorem keepU_abide {R Bq Bt R6 R3 B k : Nat} {c : Cp} {w : World} (h : w.heap.size ≤ B) : Abide B (KeepU R Bq Bt R6 R3 B k c w) :=
  abide_and (abide_ex fun _ => abide_box rfl) (abide_and (abide_ex fun _ => abide_box rfl) (abide_and (mem_abide h (.inr trivial)) abide_size))
theorem keepU_near {R g Bq Bt R6 R3 B k : Nat} {c : Cp} {w A A' : World} {M : List (Nat × Array Value)} (h : KeepU R Bq Bt R6 R3 B k c w A) (hm : Mem A.heap.size [R, g] A A' M) (h1 : Bt ≠ R) (h2 : Bt ≠ g) (h3 : Bq ≠ R) (h4 : Bq ≠ g) (m4 : w.heap.size ≤ R) (m5 : w.heap.size ≤ g) (h5 : R6 ≠ R) (h6 : R6 ≠ g) (h7 : R3 ≠ R) (h8 : R3 ≠ g) : KeepU R Bq Bt R6 R3 B k c w A' := by
  obtain ⟨⟨t, hv⟩, ⟨u, hu⟩, hF, hs⟩ := h
  have nb : ∀ {b : Nat}, b ≠ R → b ≠ g → b ∉ [R, g] := fun h1 h2 e => by
    simp only [List.mem_cons, List.not_mem_nil, or_false] at e
    exact e.elim h1 h2
  exact ⟨⟨t, (hm.block Bt hv.lt (nb h1 h2)).trans hv⟩, ⟨u, (hm.block Bq hu.lt (nb h3 h4)).trans hu⟩, hF.near hm m4 m5 (fun x hx => by
    simp only [List.mem_cons, List.not_mem_nil, or_false] at hx
    rcases hx with rfl | rfl
    · exact ⟨h5, h6⟩
    · exact ⟨h7, h8⟩), Nat.le_trans hs hm.size⟩
theorem keepU_set {R Bq Bt R6 R3 B k : Nat} {c : Cp} {w W : World} (h : KeepU R Bq Bt R6 R3 B k c w W) (m3 : w.heap.size ≤ Bt) (h1 : Bq ≠ Bt) (h2 : R6 ≠ Bt) (h3 : R3 ≠ Bt) : KeepU R Bq Bt R6 R3 B (k + 1) c w (W.setCell ⟨Bt, 0, none⟩ (.int .i64 ((k : Int) + 1))) := by
  obtain ⟨⟨t, hv⟩, ⟨u, hu⟩, hF, hs⟩ := h
  have hb := (Below.refl w.heap.size W).setCell (p := ⟨Bt, 0, none⟩) m3 (.int .i64 ((k : Int) + 1))
  have hh : ∀ b, b ≠ Bt → (W.setCell ⟨Bt, 0, none⟩ (.int .i64 ((k : Int) + 1))).heap[b]? = W.heap[b]? := fun b hne => Below.heap_setCell W ⟨Bt, 0, none⟩ _ b (fun e => hne (by simpa using e))
  exact ⟨⟨t, hv.set _⟩, ⟨u, (hh Bq h1).trans hu⟩, hF.stay hb.os hb.tape hb.output hb.size (fun b hlt => hb.block b hlt) (fun x hx => by
    simp only [List.mem_cons, List.not_mem_nil, or_false] at hx
    rcases hx with rfl | rfl
    · exact hh _ h2
    · exact hh _ h3), Nat.le_trans hs hb.size⟩
set_option maxHeartbeats 16000000 in
theorem until_yes (c : Cp) (sv : Value) (l : List (Int × Bool)) (n : Nat) (F : Fit c) (ok : okB c = true) (om : okM l) (hm : memB l.length = true) (hn : n ≤ 100000) (w : World) (G : GlobO w) (hr : Rd w sv l) :
    Calls Tryz.prog 20 #[.agg (cpC c), sv, .int .i64 (n : Int)] w (UntilP c l n w) := by
  have hlen : 256 ≤ l.length ∧ l.length ≤ 65536 := by
    simp only [memB, Bool.and_eq_true, decide_eq_true_eq] at hm
    exact ⟨hm.1.1, hm.1.2⟩
  have HS := Lib.hid (fun wr gr h => start_ct c sv l (n : Int) F ok hm (by omega) (by omega) wr gr h)
  have HF := Lib.hid F
  have HO := Lib.hid ok
  have HM := Lib.hid om
  have HG := Lib.hid G
  have HR := Lib.hid hr
  have HL := Lib.hid hlen
  have HZC := Lib.hid alloc_cpu
  have H := Mem.start w
  clear F ok om hm G hr hlen
  refine (callsIn_wide (n := 5)).1 ?_
  refine callsIn_of_wp_marks Tryz.func20 rfl trivial ?_ rfl
  simp only [Tryz.ntmps20, List.size_toArray, List.length_cons, List.length_nil, Nat.reduceAdd, Nat.reduceSub, Array.replicate_succ, Array.replicate_zero, List.push_toArray, List.append_toArray, List.nil_append, List.cons_append]
  refine wpIn_wide.2 ?_
  have HZT := Lib.hid alloc_in
  have HZP := Lib.hid alloc_pp
  have QC := Lib.hid (fun R wr => cyclesf_ex R (n : Int) wr)
  go_wp2_with (first | (refine wpList_mboxA rfl _ _ rfl H _ rfl ?_; clear H; intro R3 w1 _ H) | (refine wpList_mnew rfl _ rfl H _ HZC.out ?_; clear H; intro R6 w1 _ H) | (refine wpList_mnew rfl _ rfl H _ HZP.out ?_; clear H; intro Bq w1 _ H) | (refine wpList_mnew rfl _ rfl H _ HZT.out ?_; clear H; intro Bt w1 _ H) | (refine gate_load _ _ rfl ?_; refine wpList_mloadA rfl 28 _ rfl _ rfl 1 H (cpC _) rfl (by decide +kernel) (by kernel_rfl) ?_) | (refine gate_load _ _ rfl ?_; refine wpList_mload1 rfl 52 _ rfl _ _ rfl 1 H _ (.pointer _) rfl rfl (by decide +kernel) ?_) | (refine gate_store _ _ _ rfl ?_; refine wpList_mstore rfl 52 _ _ rfl rfl _ _ rfl 0 H _ _ rfl (.pointer _) rfl (by kernel_rfl) (of_decide_eq_true (by kernel_rfl)) (by kernel_rfl) rfl ?_; clear H; intro w1 H; simp only [List.set_cons_zero, List.set_cons_succ] at H) | (refine gate_store _ _ _ rfl ?_; refine wpList_mstore rfl 3 _ _ rfl rfl _ _ rfl 0 H _ _ rfl (.int _ _) rfl (by kernel_rfl) (of_decide_eq_true (by kernel_rfl)) (by kernel_rfl) rfl ?_; clear H; intro w1 H; simp only [List.set_cons_zero, List.set_cons_succ] at H) | (go_at_call 18; (with_reducible refine (HS.out _ (HG.out.mem H) (HR.out.below H.toBelow)).mono ?_); rintro e w2 ⟨R, g, cap, cs, rfl, hG, hM⟩; replace H := Mem.join H hM; clear hM; simp only [List.cons_append, List.nil_append] at H) | (go_at_call 19; (with_reducible refine (QC.out _ _).mono ?_); rintro e w3 ⟨Bn, Bp, rfl, hM⟩; replace H := Mem.join H hM; clear hM; simp only [List.cons_append, List.nil_append] at H) | fail)
  replace H : Mem w.heap.size [] w w3 [(Bn, #[.int .i64 (n : Int)]), (Bp, #[.pointer (some ⟨R, 0, none⟩)]), (Bt, #[.int .i64 0]), (Bq, #[.pointer (some ⟨R, 0, none⟩)]), (R, plC c g l.length cap), (g, cs), (R6, cpC cp0), (R3, cpC c)] := H
  have hnd := H.nodup
  simp only [List.map_cons, List.map_nil, List.nodup_cons, List.mem_cons, List.not_mem_nil, or_false, not_or] at hnd
  obtain ⟨⟨n1, n2, n3, n4, n5, n6, n7⟩, ⟨p1, p2, p3, p4, p5, p6⟩, ⟨t1, t2, t3, t4, t5⟩, ⟨q1, q2, q3, q4⟩, ⟨r1, r2, r3⟩, ⟨g1, g2⟩, s1, -, -⟩ := hnd
  have l1 : Bn < w3.heap.size := H.lt (x := (Bn, _)) (List.mem_of_getElem? (i := 0) rfl)
  have l2 : Bp < w3.heap.size := H.lt (x := (Bp, _)) (List.mem_of_getElem? (i := 1) rfl)
  have l3 : Bt < w3.heap.size := H.lt (x := (Bt, _)) (List.mem_of_getElem? (i := 2) rfl)
  have l8 : Bq < w3.heap.size := H.lt (x := (Bq, _)) (List.mem_of_getElem? (i := 3) rfl)
  have l4 : R < w3.heap.size := H.lt (x := (R, _)) (List.mem_of_getElem? (i := 4) rfl)
  have l5 : g < w3.heap.size := H.lt (x := (g, _)) (List.mem_of_getElem? (i := 5) rfl)
  have l6 : R6 < w3.heap.size := H.lt (x := (R6, _)) (List.mem_of_getElem? (i := 6) rfl)
  have m3 : w.heap.size ≤ Bt := by simpa using H.mine (Bt, _) (List.mem_of_getElem? (i := 2) rfl)
  have m8 : w.heap.size ≤ Bq := by simpa using H.mine (Bq, _) (List.mem_of_getElem? (i := 3) rfl)
  have m4 : w.heap.size ≤ R := by simpa using H.mine (R, _) (List.mem_of_getElem? (i := 4) rfl)
  have m5 : w.heap.size ≤ g := by simpa using H.mine (g, _) (List.mem_of_getElem? (i := 5) rfl)
  have lo := HG.out.lt
  have hw3 := H.size
  have pin : PlayIn R g Bn Bp w3.heap.size := ⟨l4, l5, l1, l2, by omega, r1, n4, n5, p3, p4, by omega, by omega⟩
  have hP0 : PlayAt c l R g l.length cap Bn Bp n 0 w3 := ⟨H.get (i := 4) rfl, by
    obtain ⟨T, e⟩ := H.get (i := 5) rfl
    exact ⟨cs, T, e, hG⟩, H.get (i := 0) rfl, H.get (i := 1) rfl, HG.out.mem H⟩
  have hT0 : KeepU R Bq Bt R6 R3 w3.heap.size 0 c w w3 := ⟨H.get (i := 2) rfl, H.get (i := 3) rfl, H.sub (List.Sublist.cons _ (List.Sublist.cons _ (List.Sublist.cons _ (List.Sublist.cons _ (List.Sublist.cons _ (List.Sublist.cons _ (List.Sublist.refl _))))))), Nat.le_refl _⟩
  clear H hG
  refine (wpIn_wide (n := 5)).1 ?_
  have hY : ∀ k, Abide w3.heap.size (fun W => (k < n ∧ ∀ j, 0 < j → j ≤ k → (stF c l j).1.jam = false) ∧ PlayAt c l R g l.length cap Bn Bp n (k + 1) W ∧ (KeepU R Bq Bt R6 R3 w3.heap.size k c w W ∧ ∀ j, 0 < j → j ≤ k → (stF c l j).1.t ≠ 0)) :=
    fun k => abide_and (abide_true _) (abide_and (PlayAt.abide pin) (abide_and (keepU_abide hw3) (abide_true _)))
  refine rangeW rfl (by omega) (gf := 28) (lb := #[.pointer (some ⟨Bn, 0, none⟩), .pointer (some ⟨Bp, 0, none⟩)]) rfl trivial (enters_of Tryz.func28 (by kernel_rfl) rfl)
    (encs := encF c l) (c0 := .exit 0)
    (cycles_in c l l.length n R g cap Bn Bp w3.heap.size HF.out HO.out HM.out rfl (by have := HL.out; omega) HL.out.2 hn pin
      (fun k W => KeepU R Bq Bt R6 R3 w3.heap.size k c w W ∧ ∀ j, 0 < j → j ≤ k → (stF c l j).1.t ≠ 0) (fun k W => KeepU R Bq Bt R6 R3 w3.heap.size k c w W ∧ UntilF n c l k)
      (fun k A A' hj hm => ⟨keepU_near hj.1 hm t2 t3 q1 q2 m4 m5 (fun e => r2 e.symm) (fun e => g1 e.symm) (fun e => r3 e.symm) (fun e => g2 e.symm), hj.2⟩) 4 (by omega))
    (fun _ => rfl) (fun k => abide_and (PlayAt.abide pin) (abide_and (keepU_abide hw3) (abide_true _))) hY (fun k => abide_and (PlayAt.abide pin) (abide_and (keepU_abide hw3) (abide_true _))) ⟨hP0, hT0, fun j h1 h2 => absurd h1 (by omega)⟩
    (fun k a' W => a' = { tmps := #[.agg (cpC c), sv, .int .i64 (n : Int), .pointer (some ⟨R3, 0, none⟩), undef, undef, .pointer (some ⟨R6, 0, none⟩), .slice none 0 0, .int .i64 0, .int .i64 0, .pointer (some ⟨Bq, 0, none⟩), .int .i64 0, .pointer (some ⟨Bt, 0, none⟩), .tuple #[.pointer (some ⟨R, 0, none⟩), .int .i64 0], .agg (cpC c), sv, .int .i64 (n : Int), .tuple #[.pointer (some ⟨R, 0, none⟩), .int .i64 0], .pointer (some ⟨R, 0, none⟩), .int .i64 0, .int .i64 0, .bool false, undef, undef, undef, undef, undef, undef, undef, undef, undef, .pointer (some ⟨R, 0, none⟩), .int .i64 (n : Int), .func (.func 28) #[] #[.pointer (some ⟨Bn, 0, none⟩), .pointer (some ⟨Bp, 0, none⟩)], .agg #[.int .u16 (tellF c l k).ad, .bool (tellF c l k).wr, .int .u8 (tellF c l k).v, .bool (tellF c l k).vb, .bool (tellF c l k).sc], undef, undef, undef, undef, undef, undef, undef, undef, undef, undef, undef, undef, undef, undef, undef, undef, undef], defers := [] })
    (fun k a' => abide_true _)
    ?assign ?body ?done ?stop
  case assign =>
    rintro lr k W K hy hK
    gi_wp2
    exact hK _ _ (KeepsFrom.refl _ _) hy rfl
  case body =>
    rintro lr k a' W hl ⟨⟨hk, hnj⟩, hP, hU, hnt⟩ rfl
    have HP := Lib.hid hP
    have HU := Lib.hid hU
    have HNJ := Lib.hid hnj
    have HNT := Lib.hid hnt
    obtain ⟨⟨t, hv⟩, ⟨u, hu⟩, -, hsz⟩ := hU
    obtain ⟨T5, e5⟩ := hP.play
    have hh : ∀ b, b ≠ Bt → (W.setCell ⟨Bt, 0, none⟩ (.int .i64 ((k : Int) + 1))).heap[b]? = W.heap[b]? := fun b hne => Below.heap_setCell W ⟨Bt, 0, none⟩ _ b (fun e => hne (by simpa using e))
    have hc := hv.cell
    have hf := hv.frozen
    have c1 : (W.setCell ⟨Bt, 0, none⟩ (.int .i64 ((k : Int) + 1))).cell? ⟨Bq, 0, none⟩ = some (.pointer (some ⟨R, 0, none⟩)) := cell_of_row _ Bq 0 _ _ _ ((hh Bq (fun e => t1 e.symm)).trans hu)
    have c2 : (W.setCell ⟨Bt, 0, none⟩ (.int .i64 ((k : Int) + 1))).cell? ⟨R, 13, none⟩ = some (.int .i64 (stF c l (k + 1)).1.t) := cell_of_row _ R 13 _ _ _ ((hh R (fun e => t2 e.symm)).trans e5)
    have hP2 := Lib.hid (HP.out.but (W' := W.setCell ⟨Bt, 0, none⟩ (.int .i64 ((k : Int) + 1))) pin t2 t3 (fun e => n2 e.symm) (fun e => p1 e.symm) (by omega) (fun b _ hne => hh b hne) ((Below.refl 0 W).setCell (p := ⟨Bt, 0, none⟩) (Nat.zero_le _) _).size)
    have hU2 := Lib.hid (keepU_set HU.out m3 (fun e => t1 e.symm) (fun e => t4 e.symm) (fun e => t5 e.symm))
    have HKF := Lib.hid ((KeepsOthers.setCell W ⟨Bt, 0, none⟩ (.int .i64 ((k : Int) + 1))).from w3.heap.size)
    clear hP hnj hnt hv hu e5 hh
    by_cases ht : (stF c l (k + 1)).1.t = 0
    · rw [ht] at c2
      have HT := Lib.hid ht
      clear ht
      gi_wp2
      exact ⟨HKF.out, rfl, hP2.out, hU2.out, ⟨by omega, fun j h1 h2 => ⟨HNJ.out j h1 (by omega), HNT.out j h1 (by omega)⟩, .inr ⟨by omega, .inr HT.out⟩⟩⟩
    · have HT := Lib.hid ht
      obtain ⟨T, hT⟩ : ∃ T, (stF c l (k + 1)).1.t = T := ⟨_, rfl⟩
      rw [hT] at c2 ht
      have h0 : (T == 0) = false := by simpa using ht
      clear ht hT
      gi_wp2
      exact ⟨HKF.out, hP2.out, hU2.out, fun j h1 h2 => by
        by_cases e : j = k + 1
        · rw [e]; exact HT.out
        · exact HNT.out j h1 (by omega)⟩
  case done =>
    rintro Dd k W hDd hS ⟨hP, ⟨⟨t, hbt⟩, ⟨u, hbq⟩, hF, hsz⟩, hnt⟩ hK
    have hU : UntilF n c l k := ⟨hS.1, fun j h1 h2 => ⟨hS.2.1 j h1 h2, hnt j h1 (by omega)⟩, hS.2.2.elim .inl (fun h => .inr ⟨h.1, .inl h.2⟩)⟩
    obtain ⟨T1, ep⟩ := hP.play
    obtain ⟨cs', T2, eg, hG'⟩ := hP.row
    obtain ⟨T3, ec⟩ := hF.get (i := 0) rfl
    have H := Mem.begin4 ep hbq hbt ec (fun e => q1 e.symm) (fun e => t2 e.symm) r2 (fun e => t1 e.symm) q3 t4
    obtain ⟨d, hd⟩ : ∃ d, (stF c l k).1 = d := ⟨_, rfl⟩
    obtain ⟨N, hN⟩ : ∃ N, l.length = N := ⟨_, rfl⟩
    rw [hd, hN] at H
    have HK := Lib.hid hK
    have HEG := Lib.hid eg
    have HFR := Lib.hid hF
    have HU := Lib.hid hU
    clear hK ep eg ec hP hF hbq hbt hU
    go_wp2_with fail
    (try simp only [Act.put, List.setIfInBounds_toArray, List.set_cons_succ, List.set_cons_zero])
    refine wp_region_x (by kernel_rfl) (by kernel_rfl) [(some 43, fun _ => .pointer (some ⟨R, 0, none⟩)), (some 44, fun _ => .pointer (some ⟨R, 0, none⟩)), (some 45, fun _ => .pointer (some ⟨R, 0, none⟩)), (some 46, fun _ => .agg (cpC d)), (some 47, fun _ => .pointer (some ⟨R, 0, none⟩)), (some 48, fun _ => .pointer (some ⟨R, 0, none⟩)), (some 49, fun _ => .pointer (some ⟨R, 25, none⟩)), (some 50, fun _ => .slice (some ⟨g, 0, none⟩) N cap), (some 51, fun _ => .int .i64 (k : Int)), (none, fun _ => undef), (some 7, fun _ => .slice (some ⟨g, 0, none⟩) N cap), (some 8, fun _ => .int .i64 (k : Int)), (some 9, fun _ => .int .i64 0)] (fun D bq wv => Mem W.heap.size [R, Bq, Bt, R6] W wv [(R, plC d g N cap), (Bq, #[.pointer (some ⟨R, 0, none⟩)]), (Bt, #[.int .i64 (k : Int)]), (R6, cond (D 9) (cpC d) (cpC cp0))]) 52 (by rfl) (by rfl) (by rfl) H.drew ⟨⟨rfl, ?p0⟩, ⟨rfl, ?p1⟩, ⟨rfl, ?p2⟩, ⟨rfl, ?p3⟩, ⟨rfl, ?p4⟩, ⟨rfl, ?p5⟩, ⟨rfl, ?p6⟩, ⟨rfl, ?p7⟩, ⟨rfl, ?p8⟩, ⟨rfl, ?p9⟩, ⟨rfl, ?p10⟩, ⟨rfl, ?p11⟩, ⟨rfl, ?p12⟩, trivial⟩ ?_
    case p0 =>
      intro D bq a' w' hk hc he hl hW
      (try dsimp only at hW)
      have f10 : a'.tmps.getD 10 undef = .pointer (some ⟨Bq, 0, none⟩) := (hl 10).trans ((vsx_no rfl).trans rfl)
      exact wp_sload1 _ _ rfl Bq 0 f10 1 hW #[.pointer (some ⟨R, 0, none⟩)] (.pointer (some ⟨R, 0, none⟩)) rfl rfl (by decide +kernel) ⟨0, rfl, hW⟩
    case p1 =>
      intro D bq a' w' hk hc he hl hW
      (try dsimp only at hW)
      have e0 : a'.tmps.getD 43 undef = .pointer (some ⟨R, 0, none⟩) := (hl 43).trans (vsx_at (f := fun _ => .pointer (some ⟨R, 0, none⟩)) rfl (he ⟨0, .data⟩ (by simp) rfl) rfl)
      exact wp_val (.pointer (some ⟨R, 0, none⟩)) (by simp only [execOp, Act.eval, List.map_toArray, List.map_cons, List.map_nil]; rw [e0]; kernel_rfl) ⟨0, rfl, hW⟩
    case p2 =>
      intro D bq a' w' hk hc he hl hW
      (try dsimp only at hW)
      have e1 : a'.tmps.getD 44 undef = .pointer (some ⟨R, 0, none⟩) := (hl 44).trans (vsx_at (f := fun _ => .pointer (some ⟨R, 0, none⟩)) rfl (he ⟨1, .data⟩ (by simp) rfl) rfl)
      exact wp_val (.pointer (some ⟨R, 0, none⟩)) (by simp only [execOp, Act.eval, List.map_toArray, List.map_cons, List.map_nil]; rw [e1]; kernel_rfl) ⟨0, rfl, hW⟩
    case p3 =>
      intro D bq a' w' hk hc he hl hW
      (try dsimp only at hW)
      have e2 : a'.tmps.getD 45 undef = .pointer (some ⟨R, 0, none⟩) := (hl 45).trans (vsx_at (f := fun _ => .pointer (some ⟨R, 0, none⟩)) rfl (he ⟨2, .data⟩ (by simp) rfl) rfl)
      exact wp_sload _ _ rfl R 0 e2 0 hW (plC d g N cap) (cpC d) rfl (by decide +kernel) (by kernel_rfl) (pl_cpu _ _ _ _) ⟨0, rfl, hW⟩
    case p4 =>
      intro D bq a' w' hk hc he hl hW
      (try dsimp only at hW)
      have f10 : a'.tmps.getD 10 undef = .pointer (some ⟨Bq, 0, none⟩) := (hl 10).trans ((vsx_no rfl).trans rfl)
      exact wp_sload1 _ _ rfl Bq 0 f10 1 hW #[.pointer (some ⟨R, 0, none⟩)] (.pointer (some ⟨R, 0, none⟩)) rfl rfl (by decide +kernel) ⟨0, rfl, hW⟩
    case p5 =>
      intro D bq a' w' hk hc he hl hW
      (try dsimp only at hW)
      have e4 : a'.tmps.getD 47 undef = .pointer (some ⟨R, 0, none⟩) := (hl 47).trans (vsx_at (f := fun _ => .pointer (some ⟨R, 0, none⟩)) rfl (he ⟨4, .data⟩ (by simp) rfl) rfl)
      exact wp_val (.pointer (some ⟨R, 0, none⟩)) (by simp only [execOp, Act.eval, List.map_toArray, List.map_cons, List.map_nil]; rw [e4]; kernel_rfl) ⟨0, rfl, hW⟩
    case p6 =>
      intro D bq a' w' hk hc he hl hW
      (try dsimp only at hW)
      have e5 : a'.tmps.getD 48 undef = .pointer (some ⟨R, 0, none⟩) := (hl 48).trans (vsx_at (f := fun _ => .pointer (some ⟨R, 0, none⟩)) rfl (he ⟨5, .data⟩ (by simp) rfl) rfl)
      exact wp_val (.pointer (some ⟨R, 25, none⟩)) (by simp only [execOp, Act.eval, List.map_toArray, List.map_cons, List.map_nil]; rw [e5]; kernel_rfl) ⟨0, rfl, hW⟩
    case p7 =>
      intro D bq a' w' hk hc he hl hW
      (try dsimp only at hW)
      have e6 : a'.tmps.getD 49 undef = .pointer (some ⟨R, 25, none⟩) := (hl 49).trans (vsx_at (f := fun _ => .pointer (some ⟨R, 25, none⟩)) rfl (he ⟨6, .data⟩ (by simp) rfl) rfl)
      exact wp_sload1 _ _ rfl R 25 e6 0 hW (plC d g N cap) (.slice (some ⟨g, 0, none⟩) N cap) rfl (pl_at _ _ _ _) (by decide +kernel) ⟨0, rfl, hW⟩
    case p8 =>
      intro D bq a' w' hk hc he hl hW
      (try dsimp only at hW)
      have f12 : a'.tmps.getD 12 undef = .pointer (some ⟨Bt, 0, none⟩) := (hl 12).trans ((vsx_no rfl).trans rfl)
      exact wp_sload1 _ _ rfl Bt 0 f12 2 hW #[.int .i64 (k : Int)] (.int .i64 (k : Int)) rfl rfl (by decide +kernel) ⟨0, rfl, hW⟩
    case p9 =>
      intro D bq a' w' hk hc he hl hW
      (try dsimp only at hW)
      have f6 : a'.tmps.getD 6 undef = .pointer (some ⟨R6, 0, none⟩) := (hl 6).trans ((vsx_no rfl).trans rfl)
      have e3 : a'.tmps.getD 46 undef = .agg (cpC d) := (hl 46).trans (vsx_at (f := fun _ => .agg (cpC d)) rfl (he ⟨3, .data⟩ (by simp) rfl) rfl)
      have hM := hW
      simp only [hk, cond_false] at hM
      exact wp_sstoreA _ _ _ rfl rfl R6 f6 3 hM (cpC cp0) (cpC d) rfl e3 (by kernel_rfl) (by kernel_rfl) (by kernel_rfl) fun w1 hM1 => ⟨0, rfl, hM1⟩
    case p10 =>
      intro D bq a' w' hk hc he hl hW
      (try dsimp only at hW)
      have e7 : a'.tmps.getD 50 undef = .slice (some ⟨g, 0, none⟩) N cap := (hl 50).trans (vsx_at (f := fun _ => .slice (some ⟨g, 0, none⟩) N cap) rfl (he ⟨7, .data⟩ (by simp) rfl) rfl)
      exact wp_val (.slice (some ⟨g, 0, none⟩) N cap) (by simp only [execOp, Act.eval, List.map_toArray, List.map_cons, List.map_nil]; rw [e7]; kernel_rfl) ⟨0, rfl, hW⟩
    case p11 =>
      intro D bq a' w' hk hc he hl hW
      (try dsimp only at hW)
      have e8 : a'.tmps.getD 51 undef = .int .i64 (k : Int) := (hl 51).trans (vsx_at (f := fun _ => .int .i64 (k : Int)) rfl (he ⟨8, .data⟩ (by simp) rfl) rfl)
      exact wp_val (.int .i64 (k : Int)) (by simp only [execOp, Act.eval, List.map_toArray, List.map_cons, List.map_nil]; rw [e8]; kernel_rfl) ⟨0, rfl, hW⟩
    case p12 =>
      intro D bq a' w' hk hc he hl hW
      (try dsimp only at hW)
      exact wp_val (.int .i64 0) (by kernel_rfl) ⟨0, rfl, hW⟩
    intro D bq wv hD hW
    (try dsimp only at hW)
    simp only [hD 9 (by decide), cond_true] at hW
    clear H hD
    have H := hW
    clear hW
    simp only [putAll, vsOf, Nat.reduceAdd, List.foldl_cons, List.foldl_nil, Act.put, List.setIfInBounds_toArray, List.set_cons_succ, List.set_cons_zero]
    go_wp2_with fail
    have hlv : Dd < W.heap.size := (Array.getElem?_eq_some_iff.1 HK.out).1
    have hKv : wv.heap[Dd]? = some (.deferred (some [])) := (H.block Dd hlv (by
      intro e
      simp only [List.mem_cons, List.not_mem_nil, or_false] at e
      omega)).trans HK.out
    obtain ⟨T6, e6⟩ := H.get (i := 3) rfl
    have e6' : (wv.putObj Dd (.deferred none)).heap[R6]? = some (.cells (cpC d) T6 (0, 0)) := (World.putObj_heap_other (by omega)).trans e6
    have kp : ∀ b, b < W.heap.size → b ≠ R → b ≠ Bq → b ≠ Bt → b ≠ R6 → b ≠ Dd → (wv.putObj Dd (.deferred none)).heap[b]? = W.heap[b]? := fun b hb h1 h2 h3 h4 h5 => (World.putObj_heap_other h5).trans (H.block b hb (by
      intro e
      simp only [List.mem_cons, List.not_mem_nil, or_false] at e
      rcases e with e | e | e | e
      · exact h1 e
      · exact h2 e
      · exact h3 e
      · exact h4 e))
    have hs6 : w.heap.size ≤ R6 := by simpa using HFR.out.mine (R6, _) (List.mem_of_getElem? (i := 0) rfl)
    have hM : Mem w.heap.size [] w (wv.putObj Dd (.deferred none)) [(g, cs')] := ((HFR.out.sub (List.nil_sublist _)).more HEG.out m5 (fun x hx => by cases hx)).stay H.os H.tape H.output (by have := H.size; simpa [World.putObj] using this)
      (fun b hb => kp b (by omega) (by omega) (by omega) (by omega) (by omega) (by omega)) (fun x hx => by
        simp only [List.mem_cons, List.not_mem_nil, or_false] at hx
        subst hx
        exact kp g (by omega) (fun e => r1 e.symm) (fun e => q2 e.symm) (fun e => t3 e.symm) g1 (by omega))
    refine ⟨by simp, .inl ⟨_, _, rfl, run_takeDeferred hKv, ?_⟩⟩
    exact ⟨_, res_cttt (v := .slice (some ⟨g, 0, none⟩) N cap) (u := .int .i64 (k : Int)) (x := .int .i64 0) rfl R6 rfl e6' (by kernel_rfl) (by kernel_rfl) rfl rfl rfl, k, g, cap, cs', HU.out, by rw [hd, hN], hG', hM⟩
  case stop =>
    rintro Dd k W hDd ⟨hP, ⟨⟨t, hbt⟩, ⟨u, hbq⟩, hF, hsz⟩, hU⟩ hK
    obtain ⟨T1, ep⟩ := hP.play
    obtain ⟨cs', T2, eg, hG'⟩ := hP.row
    obtain ⟨T3, ec⟩ := hF.get (i := 0) rfl
    have H := Mem.begin4 ep hbq hbt ec (fun e => q1 e.symm) (fun e => t2 e.symm) r2 (fun e => t1 e.symm) q3 t4
    obtain ⟨d, hd⟩ : ∃ d, (stF c l k).1 = d := ⟨_, rfl⟩
    obtain ⟨N, hN⟩ : ∃ N, l.length = N := ⟨_, rfl⟩
    rw [hd, hN] at H
    have HK := Lib.hid hK
    have HEG := Lib.hid eg
    have HFR := Lib.hid hF
    have HU := Lib.hid hU
    clear hK ep eg ec hP hF hbq hbt hU
    refine wpIn_wide.2 ?_
    go_wp2_with fail
    (try simp only [Act.put, List.setIfInBounds_toArray, List.set_cons_succ, List.set_cons_zero])
    refine wp_region_x (by kernel_rfl) (by kernel_rfl) [(some 43, fun _ => .pointer (some ⟨R, 0, none⟩)), (some 44, fun _ => .pointer (some ⟨R, 0, none⟩)), (some 45, fun _ => .pointer (some ⟨R, 0, none⟩)), (some 46, fun _ => .agg (cpC d)), (some 47, fun _ => .pointer (some ⟨R, 0, none⟩)), (some 48, fun _ => .pointer (some ⟨R, 0, none⟩)), (some 49, fun _ => .pointer (some ⟨R, 25, none⟩)), (some 50, fun _ => .slice (some ⟨g, 0, none⟩) N cap), (some 51, fun _ => .int .i64 (k : Int)), (none, fun _ => undef), (some 7, fun _ => .slice (some ⟨g, 0, none⟩) N cap), (some 8, fun _ => .int .i64 (k : Int)), (some 9, fun _ => .int .i64 0)] (fun D bq wv => Mem W.heap.size [R, Bq, Bt, R6] W wv [(R, plC d g N cap), (Bq, #[.pointer (some ⟨R, 0, none⟩)]), (Bt, #[.int .i64 (k : Int)]), (R6, cond (D 9) (cpC d) (cpC cp0))]) 52 (by rfl) (by rfl) (by rfl) H.drew ⟨⟨rfl, ?p0⟩, ⟨rfl, ?p1⟩, ⟨rfl, ?p2⟩, ⟨rfl, ?p3⟩, ⟨rfl, ?p4⟩, ⟨rfl, ?p5⟩, ⟨rfl, ?p6⟩, ⟨rfl, ?p7⟩, ⟨rfl, ?p8⟩, ⟨rfl, ?p9⟩, ⟨rfl, ?p10⟩, ⟨rfl, ?p11⟩, ⟨rfl, ?p12⟩, trivial⟩ ?_
    case p0 =>
      intro D bq a' w' hk hc he hl hW
      (try dsimp only at hW)
      have f10 : a'.tmps.getD 10 undef = .pointer (some ⟨Bq, 0, none⟩) := (hl 10).trans ((vsx_no rfl).trans rfl)
      exact wp_sload1 _ _ rfl Bq 0 f10 1 hW #[.pointer (some ⟨R, 0, none⟩)] (.pointer (some ⟨R, 0, none⟩)) rfl rfl (by decide +kernel) ⟨0, rfl, hW⟩
    case p1 =>
      intro D bq a' w' hk hc he hl hW
      (try dsimp only at hW)
      have e0 : a'.tmps.getD 43 undef = .pointer (some ⟨R, 0, none⟩) := (hl 43).trans (vsx_at (f := fun _ => .pointer (some ⟨R, 0, none⟩)) rfl (he ⟨0, .data⟩ (by simp) rfl) rfl)
      exact wp_val (.pointer (some ⟨R, 0, none⟩)) (by simp only [execOp, Act.eval, List.map_toArray, List.map_cons, List.map_nil]; rw [e0]; kernel_rfl) ⟨0, rfl, hW⟩
    case p2 =>
      intro D bq a' w' hk hc he hl hW
      (try dsimp only at hW)
      have e1 : a'.tmps.getD 44 undef = .pointer (some ⟨R, 0, none⟩) := (hl 44).trans (vsx_at (f := fun _ => .pointer (some ⟨R, 0, none⟩)) rfl (he ⟨1, .data⟩ (by simp) rfl) rfl)
      exact wp_val (.pointer (some ⟨R, 0, none⟩)) (by simp only [execOp, Act.eval, List.map_toArray, List.map_cons, List.map_nil]; rw [e1]; kernel_rfl) ⟨0, rfl, hW⟩
    case p3 =>
      intro D bq a' w' hk hc he hl hW
      (try dsimp only at hW)
      have e2 : a'.tmps.getD 45 undef = .pointer (some ⟨R, 0, none⟩) := (hl 45).trans (vsx_at (f := fun _ => .pointer (some ⟨R, 0, none⟩)) rfl (he ⟨2, .data⟩ (by simp) rfl) rfl)
      exact wp_sload _ _ rfl R 0 e2 0 hW (plC d g N cap) (cpC d) rfl (by decide +kernel) (by kernel_rfl) (pl_cpu _ _ _ _) ⟨0, rfl, hW⟩
    case p4 =>
      intro D bq a' w' hk hc he hl hW
      (try dsimp only at hW)
      have f10 : a'.tmps.getD 10 undef = .pointer (some ⟨Bq, 0, none⟩) := (hl 10).trans ((vsx_no rfl).trans rfl)
      exact wp_sload1 _ _ rfl Bq 0 f10 1 hW #[.pointer (some ⟨R, 0, none⟩)] (.pointer (some ⟨R, 0, none⟩)) rfl rfl (by decide +kernel) ⟨0, rfl, hW⟩
    case p5 =>
      intro D bq a' w' hk hc he hl hW
      (try dsimp only at hW)
      have e4 : a'.tmps.getD 47 undef = .pointer (some ⟨R, 0, none⟩) := (hl 47).trans (vsx_at (f := fun _ => .pointer (some ⟨R, 0, none⟩)) rfl (he ⟨4, .data⟩ (by simp) rfl) rfl)
      exact wp_val (.pointer (some ⟨R, 0, none⟩)) (by simp only [execOp, Act.eval, List.map_toArray, List.map_cons, List.map_nil]; rw [e4]; kernel_rfl) ⟨0, rfl, hW⟩
    case p6 =>
      intro D bq a' w' hk hc he hl hW
      (try dsimp only at hW)
      have e5 : a'.tmps.getD 48 undef = .pointer (some ⟨R, 0, none⟩) := (hl 48).trans (vsx_at (f := fun _ => .pointer (some ⟨R, 0, none⟩)) rfl (he ⟨5, .data⟩ (by simp) rfl) rfl)
      exact wp_val (.pointer (some ⟨R, 25, none⟩)) (by simp only [execOp, Act.eval, List.map_toArray, List.map_cons, List.map_nil]; rw [e5]; kernel_rfl) ⟨0, rfl, hW⟩
    case p7 =>
      intro D bq a' w' hk hc he hl hW
      (try dsimp only at hW)
      have e6 : a'.tmps.getD 49 undef = .pointer (some ⟨R, 25, none⟩) := (hl 49).trans (vsx_at (f := fun _ => .pointer (some ⟨R, 25, none⟩)) rfl (he ⟨6, .data⟩ (by simp) rfl) rfl)
      exact wp_sload1 _ _ rfl R 25 e6 0 hW (plC d g N cap) (.slice (some ⟨g, 0, none⟩) N cap) rfl (pl_at _ _ _ _) (by decide +kernel) ⟨0, rfl, hW⟩
    case p8 =>
      intro D bq a' w' hk hc he hl hW
      (try dsimp only at hW)
      have f12 : a'.tmps.getD 12 undef = .pointer (some ⟨Bt, 0, none⟩) := (hl 12).trans ((vsx_no rfl).trans rfl)
      exact wp_sload1 _ _ rfl Bt 0 f12 2 hW #[.int .i64 (k : Int)] (.int .i64 (k : Int)) rfl rfl (by decide +kernel) ⟨0, rfl, hW⟩
    case p9 =>
      intro D bq a' w' hk hc he hl hW
      (try dsimp only at hW)
      have f6 : a'.tmps.getD 6 undef = .pointer (some ⟨R6, 0, none⟩) := (hl 6).trans ((vsx_no rfl).trans rfl)
      have e3 : a'.tmps.getD 46 undef = .agg (cpC d) := (hl 46).trans (vsx_at (f := fun _ => .agg (cpC d)) rfl (he ⟨3, .data⟩ (by simp) rfl) rfl)
      have hM := hW
      simp only [hk, cond_false] at hM
      exact wp_sstoreA _ _ _ rfl rfl R6 f6 3 hM (cpC cp0) (cpC d) rfl e3 (by kernel_rfl) (by kernel_rfl) (by kernel_rfl) fun w1 hM1 => ⟨0, rfl, hM1⟩
    case p10 =>
      intro D bq a' w' hk hc he hl hW
      (try dsimp only at hW)
      have e7 : a'.tmps.getD 50 undef = .slice (some ⟨g, 0, none⟩) N cap := (hl 50).trans (vsx_at (f := fun _ => .slice (some ⟨g, 0, none⟩) N cap) rfl (he ⟨7, .data⟩ (by simp) rfl) rfl)
      exact wp_val (.slice (some ⟨g, 0, none⟩) N cap) (by simp only [execOp, Act.eval, List.map_toArray, List.map_cons, List.map_nil]; rw [e7]; kernel_rfl) ⟨0, rfl, hW⟩
    case p11 =>
      intro D bq a' w' hk hc he hl hW
      (try dsimp only at hW)
      have e8 : a'.tmps.getD 51 undef = .int .i64 (k : Int) := (hl 51).trans (vsx_at (f := fun _ => .int .i64 (k : Int)) rfl (he ⟨8, .data⟩ (by simp) rfl) rfl)
      exact wp_val (.int .i64 (k : Int)) (by simp only [execOp, Act.eval, List.map_toArray, List.map_cons, List.map_nil]; rw [e8]; kernel_rfl) ⟨0, rfl, hW⟩
    case p12 =>
      intro D bq a' w' hk hc he hl hW
      (try dsimp only at hW)
      exact wp_val (.int .i64 0) (by kernel_rfl) ⟨0, rfl, hW⟩
    intro D bq wv hD hW
    (try dsimp only at hW)
    simp only [hD 9 (by decide), cond_true] at hW
    clear H hD
    have H := hW
    clear hW
    simp only [putAll, vsOf, Nat.reduceAdd, List.foldl_cons, List.foldl_nil, Act.put, List.setIfInBounds_toArray, List.set_cons_succ, List.set_cons_zero]
    go_wp2_with fail
    have hlv : Dd < W.heap.size := (Array.getElem?_eq_some_iff.1 HK.out).1
    have hKv : wv.heap[Dd]? = some (.deferred (some [])) := (H.block Dd hlv (by
      intro e
      simp only [List.mem_cons, List.not_mem_nil, or_false] at e
      omega)).trans HK.out
    obtain ⟨T6, e6⟩ := H.get (i := 3) rfl
    have e6' : (wv.putObj Dd (.deferred none)).heap[R6]? = some (.cells (cpC d) T6 (0, 0)) := (World.putObj_heap_other (by omega)).trans e6
    have kp : ∀ b, b < W.heap.size → b ≠ R → b ≠ Bq → b ≠ Bt → b ≠ R6 → b ≠ Dd → (wv.putObj Dd (.deferred none)).heap[b]? = W.heap[b]? := fun b hb h1 h2 h3 h4 h5 => (World.putObj_heap_other h5).trans (H.block b hb (by
      intro e
      simp only [List.mem_cons, List.not_mem_nil, or_false] at e
      rcases e with e | e | e | e
      · exact h1 e
      · exact h2 e
      · exact h3 e
      · exact h4 e))
    have hs6 : w.heap.size ≤ R6 := by simpa using HFR.out.mine (R6, _) (List.mem_of_getElem? (i := 0) rfl)
    have hM : Mem w.heap.size [] w (wv.putObj Dd (.deferred none)) [(g, cs')] := ((HFR.out.sub (List.nil_sublist _)).more HEG.out m5 (fun x hx => by cases hx)).stay H.os H.tape H.output (by have := H.size; simpa [World.putObj] using this)
      (fun b hb => kp b (by omega) (by omega) (by omega) (by omega) (by omega) (by omega)) (fun x hx => by
        simp only [List.mem_cons, List.not_mem_nil, or_false] at hx
        subst hx
        exact kp g (by omega) (fun e => r1 e.symm) (fun e => q2 e.symm) (fun e => t3 e.symm) g1 (by omega))
    refine ⟨by simp, .inl ⟨_, _, rfl, run_takeDeferred hKv, ?_⟩⟩
    exact ⟨_, res_cttt (v := .slice (some ⟨g, 0, none⟩) N cap) (u := .int .i64 (k : Int)) (x := .int .i64 0) rfl R6 rfl e6' (by kernel_rfl) (by kernel_rfl) rfl rfl rfl, k, g, cap, cs', HU.out, by rw [hd, hN], hG', hM⟩
end Go.Proofs.YtcgnnbgknaamdaaGreatDoor
namespace Go.Proofs.YtcgnnbgknaamdaaGreatDoor
open Go.RowKit
set_option linter.unusedSimpArgs false
set_option linter.unusedVariables false
set_option maxRecDepth 100000

def memA : List (Int × Bool) := (169, false) :: (5, false) :: List.replicate 254 (0, false)
def zcA (n : Nat) : Array Value := ((List.replicate n ((0 : Int), false)).flatMap bcl).toArray
def mcA : Array Value := (memA.flatMap bcl).toArray
theorem memA_len : memA.length = 256 := by decide
theorem memA_ok : okM memA := by
  intro x hx
  simp only [memA, List.mem_cons, List.mem_replicate] at hx
  rcases hx with rfl | rfl | ⟨_, rfl⟩ <;> decide
theorem memA_may : memB memA.length = true := by rw [memA_len]; decide +kernel
theorem cp0_fit : Fit cp0 := by constructor <;> decide
theorem cp0_ok : okB cp0 = true := by decide +kernel
theorem awk_maths : (stF cp0 memA 1).1.jam = false ∧ (stF cp0 memA 1).1.t ≠ 0 ∧ (stF cp0 memA 2).1.t = 0 ∧ (stF cp0 memA 2).1.av = 5 := by decide +kernel
theorem mcA_row : RowG bcl 2 mcA 256 memA := ⟨by kernel_rfl, by rw [memA_len]; exact Nat.le_refl _, by unfold maxLen; omega, fun j u h => by
  unfold mcA
  rw [List.getElem?_toArray]
  exact h⟩
theorem make_by (W : World) : (Instr.makeSlice 29 (.int .i64 256) (.int .i64 256)).run Tryz.prog W = .ok (.slice (some ⟨W.heap.size, 0, none⟩) 256 256) (W.alloc (.cells (zcA 256) 23)) := by kernel_rfl
theorem make_bz (W : World) : (Instr.makeSlice 29 (.int .i64 300) (.int .i64 300)).run Tryz.prog W = .ok (.slice (some ⟨W.heap.size, 0, none⟩) 300 300) (W.alloc (.cells (zcA 300) 23)) := by kernel_rfl
end Go.Proofs.YtcgnnbgknaamdaaGreatDoor
namespace Go.Proofs.YtcgnnbgknaamdaaGreatDoor
open Go.RowKit
set_option linter.unusedSimpArgs false
set_option linter.unusedVariables false
set_option maxRecDepth 100000

theorem wpList_mmk {P : Program} {ops : Array Oper} {rest : List Oper} {o : Oper} {a : Act} {w : World} {Q : Exit → Act → World → Prop} {n : Nat} {X : List Nat} {w0 : World} {l : List (Nat × Array Value)} (hgd : Region.wanted o (yielded ops a.tmps) = true) (t : TypeId) (x y : Operand) (ho : o.op = .makeSlice t x y) (H : Mem n X w0 w l) (v u : Value) (hx : a.eval x = v) (hy : a.eval y = u) {cs : Array Value} {T : TypeId} {N : Nat}
    (hr : ∀ w : World, (Instr.makeSlice t v u).run P w = .ok (.slice (some ⟨w.heap.size, 0, none⟩) N N) (w.alloc (.cells cs T)))
    (h : ∀ R w1, w.heap.size ≤ R → Mem n X w0 w1 ((R, cs) :: l) → wpList P ops Q rest (a.put o.dst (.slice (some ⟨R, 0, none⟩) N N)) w1) : wpList P ops Q (o :: rest) a w :=
  wpList_want' hgd fun _ hK => by
    unfold Oper.wp execOp
    simp only [ho, hx, hy, Sem.run_bind, hr, Result.andThen_ok, Sem.run_pure]
    exact hK _ _ (h _ _ (Nat.le_refl _) (H.new _ _))
theorem awk_run (sv : Value) (w : World) (G : GlobO w) (hr : Rd w sv memA) : Calls Tryz.prog 7 #[.agg #[.int .u8 0, .bool false, .int .u8 0, .bool false, .int .u8 0, .bool false, .int .u8 0, .bool false, .int .u8 0, .int .u8 0, .int .u16 0, .bool false, .int .u8 0, .int .i64 0, .int .u16 0, .bool false, .int .u8 0, .bool false, .bool false, .int .i64 0, .bool false, .bool false, .int .i64 0, .bool false, .bool false], sv, .int .i64 2] w fun e w' =>
    ∃ c2 g cap q cp, c2.av = 5 ∧ e = .returned (.tuple #[.agg (cpC c2), .slice (some ⟨g, 0, none⟩) 256 cap, .slice (some ⟨q, 0, none⟩) 2 cp, .int .i64 0]) ∧ Below w.heap.size w w' := by
  refine (run_yes cp0 sv memA 2 cp0_fit cp0_ok memA_ok memA_may (by omega) w G hr).mono ?_
  rintro e w' ⟨k, g, cap, cs, v, hE, rfl, _, hM, hO, _⟩
  have hk : k = 2 := by
    obtain ⟨h1, h2, h3⟩ := hE
    rcases h3 with h3 | ⟨h3, h4⟩
    · exact h3
    · have : k ≠ 1 := fun e => by
        rw [e, awk_maths.1] at h4
        cases h4
      omega
  subst hk
  obtain ⟨q, cp, rfl⟩ := ownsRow_succ hO
  exact ⟨_, g, cap, q, cp, awk_maths.2.2.2, by rw [memA_len], hM.toBelow⟩
theorem awk_until (sv : Value) (w : World) (G : GlobO w) (hr : Rd w sv memA) : Calls Tryz.prog 20 #[.agg #[.int .u8 0, .bool false, .int .u8 0, .bool false, .int .u8 0, .bool false, .int .u8 0, .bool false, .int .u8 0, .int .u8 0, .int .u16 0, .bool false, .int .u8 0, .int .i64 0, .int .u16 0, .bool false, .int .u8 0, .bool false, .bool false, .int .i64 0, .bool false, .bool false, .int .i64 0, .bool false, .bool false], sv, .int .i64 9] w fun e w' =>
    ∃ c2 g cap, e = .returned (.tuple #[.agg (cpC c2), .slice (some ⟨g, 0, none⟩) 256 cap, .int .i64 2, .int .i64 0]) ∧ Below w.heap.size w w' := by
  refine (until_yes cp0 sv memA 9 cp0_fit cp0_ok memA_ok memA_may (by omega) w G hr).mono ?_
  rintro e w' ⟨k, g, cap, cs, hU, rfl, _, hM⟩
  have hk : k = 2 := by
    obtain ⟨h1, h2, h3⟩ := hU
    have a1 : k ≠ 1 := fun e => by
      subst e
      rcases h3 with h3 | ⟨_, h3 | h3⟩
      · cases h3
      · rw [awk_maths.1] at h3
        cases h3
      · exact awk_maths.2.1 h3
    have a2 : ¬ 2 < k := fun e => (h2 2 (by omega) e).2 awk_maths.2.2.1
    have a3 : k ≠ 0 := fun e => by
      subst e
      rcases h3 with h3 | ⟨h3, _⟩
      · cases h3
      · omega
    omega
  subst hk
  exact ⟨_, g, cap, by rw [memA_len]; rfl, hM.toBelow⟩
attribute [local irreducible] wpList
set_option maxHeartbeats 8000000 in
theorem awake11_ct (w : World) (G : GlobO w) : Calls Tryz.prog 8 #[] w fun e w' => e = .returned (.bool true) ∧ Below w.heap.size w w' := by
  have QR := Lib.hid (fun sv wr g h => awk_run sv wr g h)
  have QU := Lib.hid (fun sv wr g h => awk_until sv wr g h)
  have QC := Lib.hid (fun R wr => (show Calls Tryz.prog 11 #[.slice (some ⟨R, 0, none⟩) 300 300] wr fun e w' => e = .returned (.int .i64 1) ∧ Below wr.heap.size wr w' by
    have h := fcheck_ct (.slice (some ⟨R, 0, none⟩) 300 300) 300 wr ⟨_, _, rfl⟩ (by omega)
    rw [show (if memB 300 = true then (0 : Int) else 1) = 1 by decide +kernel] at h
    exact h))
  have GG := Lib.hid G
  have HZC := Lib.hid alloc_cpu
  have HM1 := Lib.hid make_by
  have HM2 := Lib.hid make_bz
  have H := Mem.start w
  clear G
  go_enter Tryz.func8, Tryz.ntmps8
  go_wp2_with (first | (refine wpList_mmk rfl _ _ _ rfl H _ _ rfl rfl HM1.out ?_; clear H; intro Rm w1 _ H) | (refine gate_store _ _ _ rfl ?_; refine wpList_mstore rfl 5 _ _ rfl rfl _ _ rfl 0 H _ _ rfl (.int _ _) rfl (by kernel_rfl) (of_decide_eq_true (by kernel_rfl)) (by kernel_rfl) rfl ?_; clear H; intro w1 H; simp only [List.set_cons_zero] at H) | fail)
  rw [show (splice (splice (zcA 256).toList 0 (Value.int IntKind.u8 169).cells.toList) 2 (Value.int IntKind.u8 5).cells.toList).toArray = mcA by kernel_rfl] at H
  have RW := Lib.hid mcA_row
  go_wp2_with (first | (go_at_call 7; (with_reducible refine (QR.out _ _ (GG.out.mem H) (rd_row (i := 0) H rfl RW.out memA_len)).mono ?_); rintro e w2 ⟨c2, g2, cap2, q2, cp2, h5, rfl, hB⟩; replace H := H.next hB; clear hB) | (go_at_call 20; (with_reducible refine (QU.out _ _ (GG.out.mem H) (rd_row (i := 1) H rfl RW.out memA_len)).mono ?_); rintro e w2 ⟨c3, g3, cap3, rfl, hB⟩; replace H := H.next hB; clear hB) | (go_at_call 11; (with_reducible refine (QC.out _ _).mono ?_); rintro e w2 ⟨rfl, hB⟩; replace H := H.next hB; clear hB) | (refine wpList_mnew rfl _ rfl H _ HZC.out ?_; clear H; intro _ w1 _ H) | (refine gate_store _ _ _ rfl ?_; refine wpList_mstoreA rfl 28 _ _ rfl rfl _ rfl 0 H (cpC _) _ rfl rfl (by kernel_rfl) (by kernel_rfl) (by kernel_rfl) ?_; clear H; intro w1 H; simp only [List.set_cons_zero, List.set_cons_succ] at H) | (refine gate_load _ _ rfl ?_; refine wpList_mload1 rfl 5 _ rfl _ _ rfl 1 H _ (.int _ _) rfl rfl (by decide +kernel) ?_) | (refine wpList_mmk rfl _ _ _ rfl H _ _ rfl rfl HM2.out ?_; clear H; intro Rn w1 _ H) | fail)
  go_ret
  exact ⟨rfl, H.toBelow⟩
end Go.Proofs.YtcgnnbgknaamdaaGreatDoor
namespace Go.Proofs.YtcgnnbgknaamdaaGreatDoor
open Go.RowKit
set_option linter.unusedSimpArgs false
set_option linter.unusedVariables false
set_option maxRecDepth 20000

attribute [local irreducible] wpList
end Go.Proofs.YtcgnnbgknaamdaaGreatDoor
namespace Go.Proofs.YtcgnnbgknaamdaaGreatDoor
open Go.RowKit
set_option linter.unusedSimpArgs false
set_option linter.unusedVariables false
set_option maxRecDepth 20000

attribute [local irreducible] wpList
end Go.Proofs.YtcgnnbgknaamdaaGreatDoor
namespace Go.Proofs.YtcgnnbgknaamdaaGreatDoor
open Go.ChangeShapes Go.WideShapes Go.ChangeAt Go.RowKit Go.Deep Go.Sort
set_option linter.unusedSimpArgs false
set_option linter.unusedVariables false
set_option maxRecDepth 20000

theorem fc_ask : Tryz.prog.cellsOf 33 = 6 := by kernel_rfl
theorem fc_lines : Tryz.prog.cellsOf 31 = 3 := by kernel_rfl
theorem fc_int : Tryz.prog.cellsOf 3 = 1 := by kernel_rfl
section
variable {H : Type} {enc : TypeId × Value → H} {w : World} {base : Nat} {spare : Nat → Bool} {held : Bool}
theorem open_fask {r : Reach} {b0 : Nat} {v : Value} {d : DataW H} {p : List MemPlace} (hv : Value.okWide Tryz.prog w r b0 33 v) (h : DataW.Trod enc Tryz.prog w base spare held 33 v d p) :
    ∃ (n k a : Int) (i j l : Bool), v = .agg #[.int .i64 n, .int .i64 k, .int .u8 a, .bool i, .bool j, .bool l] ∧ (0 ≤ a ∧ a < 256) := by
  obtain ⟨cs, fuel, x, rfl, hl, hf⟩ := open_cells Tryz.underlying33 hv h
  rw [fc_ask] at hl
  match cs, hl with
  | [c0, c1, c2, c3, c4, c5], _ =>
    obtain ⟨n0, y0, h0⟩ := open_field Tryz.underlying33 hf 0 rfl 3 0 1 rfl rfl fc_int
    obtain ⟨n1, y1, h1⟩ := open_field Tryz.underlying33 hf 1 rfl 3 1 1 rfl rfl fc_int
    obtain ⟨n2, y2, h2⟩ := open_field Tryz.underlying33 hf 2 rfl 5 2 1 rfl rfl c_u8
    obtain ⟨n3, y3, h3⟩ := open_field Tryz.underlying33 hf 3 rfl 31 3 3 rfl rfl fc_lines
    obtain ⟨m0, z0, g0⟩ := open_field Tryz.underlying31 h3 0 rfl 4 0 1 rfl rfl c_bool
    obtain ⟨m1, z1, g1⟩ := open_field Tryz.underlying31 h3 1 rfl 4 1 1 rfl rfl c_bool
    obtain ⟨m2, z2, g2⟩ := open_field Tryz.underlying31 h3 2 rfl 4 2 1 rfl rfl c_bool
    obtain ⟨v0, e0, _⟩ := DataW.trod_int Tryz.underlying3 h0
    obtain ⟨v1, e1, _⟩ := DataW.trod_int Tryz.underlying3 h1
    obtain ⟨v2, e2, b2⟩ := open_u8 h2
    obtain ⟨v3, e3⟩ := open_boolc g0
    obtain ⟨v4, e4⟩ := open_boolc g1
    obtain ⟨v5, e5⟩ := open_boolc g2
    simp at e0 e1 e2 e3 e4 e5
    exact ⟨v0, v1, v2, v3, v4, v5, by rw [e0, e1, e2, e3, e4, e5], b2⟩
end
theorem okM_of {l : List (Int × Bool)} (h : ∀ k, k < l.length → 0 ≤ (nth l k).1 ∧ (nth l k).1 < 256) : okM l := fun x hx => by
  obtain ⟨k, hk, rfl⟩ := List.mem_iff_getElem.1 hx
  have := h k hk
  unfold nth at this
  rw [List.getD_eq_getElem?_getD, List.getElem?_eq_getElem hk] at this
  exact this
def cutF : Value → Value
  | .slice a n cap => .slice a (min n 1024) cap
  | v => v
theorem rd_cutF {w : World} {sv : Value} {l : List (Int × Bool)} (hr : Rd w sv l) : Rd w (cutF sv) (l.take 1024) := by
  obtain ⟨a, cap, rfl, hcap, hn, hr⟩ := hr
  refine ⟨a, cap, by simp [cutF, Nat.min_comm], by rw [List.length_take]; omega, hn, ?_⟩
  rcases hr with rfl | ⟨b, off, rfl, hb, hc⟩
  · exact .inl (by simp)
  · refine .inr ⟨b, off, rfl, hb, fun k hk => ?_⟩
    rw [List.length_take] at hk
    have e : nth (l.take 1024) k = nth l k := by
      unfold nth
      rw [List.getD_eq_getElem?_getD, List.getD_eq_getElem?_getD, List.getElem?_take, if_pos (by omega)]
    rw [e]
    exact hc k (by omega)
theorem few_cut (sv : Value) (l : List (Int × Bool)) (w : World) (hr : Rd w sv l) : Calls Tryz.prog 6 #[sv] w fun e w' => e = .returned (cutF sv) ∧ w = w' := by
  obtain ⟨a, cap, rfl, hcap, hn, hr⟩ := hr
  by_cases h : 1024 < l.length
  · rcases hr with rfl | ⟨b, off, rfl, hb, hc⟩
    · simp at h
    have E := Lib.hid (show cutF (.slice (some ⟨b, off, none⟩) l.length cap) = .slice (some ⟨b, off, none⟩) 1024 cap by simp only [cutF]; rw [Nat.min_eq_right (by omega)])
    unfold maxLen at hn
    clear hc hb
    go_enter Tryz.func6, Tryz.ntmps6
    go_wp2
    go_ret
    exact ⟨by rw [E.out]; rfl, rfl⟩
  · have E := Lib.hid (show cutF (.slice a l.length cap) = .slice a l.length cap by simp only [cutF]; rw [Nat.min_eq_left (by omega)])
    unfold maxLen at hn
    clear hr
    go_enter Tryz.func6, Tryz.ntmps6
    go_wp2
    go_ret
    exact ⟨by rw [E.out]; rfl, rfl⟩
section
variable {P : Program} {ops : Array Oper} {rest : List Oper} {o : Oper} {a : Act} {w : World} {Q : Exit → Act → World → Prop}
end
end Go.Proofs.YtcgnnbgknaamdaaGreatDoor
