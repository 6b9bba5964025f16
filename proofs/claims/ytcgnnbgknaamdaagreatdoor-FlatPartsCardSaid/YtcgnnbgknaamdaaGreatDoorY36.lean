/-
  Several texts in one: what is read and written by the functions on the way to the statements. Conditions stand in each theorem.
-/
import Derived.Test.YtcgnnbgknaamdaaGreatDoorY35
import Derived.Test.YtcgnnbgknaamdaaGreatDoorY03
import Derived.Laws.OwnMore
import Derived.Test.YtcgnnbgknaamdaaGreatDoorY06
namespace Go.Proofs.YtcgnnbgknaamdaaGreatDoor
open Go.RowKit
set_option linter.unusedSimpArgs false
set_option linter.unusedVariables false
set_option maxRecDepth 20000

attribute [local irreducible] wpList
set_option maxHeartbeats 4000000 in
theorem run_no (c : Cp) (sv : Value) (l : List (Int × Bool)) (N : Nat) (k : Int) (F : Oct c) (hN : l.length = N) (hn : N ≤ 100000) (no : playB c N k = false) (w : World) (G : GlobO w) (hr : Rd w sv l) :
    Calls Tryz.prog 7 #[.agg (cpC c), sv, .int .i64 k] w fun e w' => ∃ a cap blk, e = .returned (.tuple #[.agg (cpC c), .slice a N cap, .slice none 0 0, .int .i64 1]) ∧ RowAt bcl 2 (.slice a N cap) l blk ∧ Mem w.heap.size [] w w' blk := by
  have QS := Lib.hid (fun wr gr h => start_no c sv l N k F hN hn no wr gr h)
  have GG := Lib.hid G
  have HR := Lib.hid hr
  have HZC := Lib.hid alloc_cpu
  have H := Mem.start w
  clear F G hr hN no hn
  refine (callsIn_wide (n := 5)).1 ?_
  refine callsIn_of_wp_marks Tryz.func7 rfl trivial ?_ rfl
  simp only [Tryz.ntmps7, List.size_toArray, List.length_cons, List.length_nil, Nat.reduceAdd, Nat.reduceSub, Array.replicate_succ, Array.replicate_zero, List.push_toArray, List.append_toArray, List.nil_append, List.cons_append]
  refine wpIn_wide.2 ?_
  go_wp2_with (first | (refine wpList_mboxA rfl _ _ rfl H _ rfl ?_; clear H; intro R3 w1 _ H) | (refine wpList_mnew rfl _ rfl H _ HZC.out ?_; clear H; intro R6 w1 _ H) | (refine gate_load _ _ rfl ?_; refine wpList_mloadA rfl 28 _ rfl _ rfl 1 H (cpC _) rfl (by decide +kernel) (by kernel_rfl) ?_) | (go_at_call 18; (with_reducible refine (QS.out _ (GG.out.mem H) (HR.out.below H.toBelow)).mono ?_); rintro e w2 ⟨R, a, cap, blk, rfl, hG, hM⟩; replace H := (Mem.join H hM).perm (List.Perm.cons _ List.perm_append_comm); clear hM; simp only [List.cons_append, List.nil_append] at H) | fail)
  (try simp only [Act.put, List.setIfInBounds_toArray, List.set_cons_succ, List.set_cons_zero])
  refine wp_region_x (by kernel_rfl) (by kernel_rfl) [(some 23, fun _ => .pointer (some ⟨R, 0, none⟩)), (some 24, fun _ => .pointer (some ⟨R, 0, none⟩)), (some 25, fun _ => .pointer (some ⟨R, 0, none⟩)), (some 26, fun _ => .agg (cpC c)), (some 27, fun _ => .pointer (some ⟨R, 0, none⟩)), (some 28, fun _ => .pointer (some ⟨R, 0, none⟩)), (some 29, fun _ => .pointer (some ⟨R, 25, none⟩)), (some 30, fun _ => .slice a N cap), (some 31, fun _ => .int .i64 1), (none, fun _ => undef), (some 7, fun _ => .slice a N cap), (some 8, fun _ => .slice none 0 0), (some 9, fun _ => .int .i64 1)] (fun D bq wv => Mem w.heap.size [] w wv ((R, plA c a N cap) :: (R6, cond (D 9) (cpC c) (cpC cp0)) :: (R3, cpC c) :: blk)) 49 (by rfl) (by rfl) (by rfl) H.drew ⟨⟨rfl, ?p0⟩, ⟨rfl, ?p1⟩, ⟨rfl, ?p2⟩, ⟨rfl, ?p3⟩, ⟨rfl, ?p4⟩, ⟨rfl, ?p5⟩, ⟨rfl, ?p6⟩, ⟨rfl, ?p7⟩, ⟨rfl, ?p8⟩, ⟨rfl, ?p9⟩, ⟨rfl, ?p10⟩, ⟨rfl, ?p11⟩, ⟨rfl, ?p12⟩, trivial⟩ ?_
  case p0 =>
    intro D bq a' w' hk hc he hl hW
    (try dsimp only at hW)
    have f10 : a'.tmps.getD 10 undef = .pointer (some ⟨R, 0, none⟩) := (hl 10).trans ((vsx_no rfl).trans rfl)
    exact wp_val (.pointer (some ⟨R, 0, none⟩)) (by simp only [execOp, Act.eval, List.map_toArray, List.map_cons, List.map_nil]; rw [f10]; kernel_rfl) ⟨0, rfl, hW⟩
  case p1 =>
    intro D bq a' w' hk hc he hl hW
    (try dsimp only at hW)
    have e0 : a'.tmps.getD 23 undef = .pointer (some ⟨R, 0, none⟩) := (hl 23).trans (vsx_at (f := fun _ => .pointer (some ⟨R, 0, none⟩)) rfl (he ⟨0, .data⟩ (by simp) rfl) rfl)
    exact wp_val (.pointer (some ⟨R, 0, none⟩)) (by simp only [execOp, Act.eval, List.map_toArray, List.map_cons, List.map_nil]; rw [e0]; kernel_rfl) ⟨0, rfl, hW⟩
  case p2 =>
    intro D bq a' w' hk hc he hl hW
    (try dsimp only at hW)
    have e1 : a'.tmps.getD 24 undef = .pointer (some ⟨R, 0, none⟩) := (hl 24).trans (vsx_at (f := fun _ => .pointer (some ⟨R, 0, none⟩)) rfl (he ⟨1, .data⟩ (by simp) rfl) rfl)
    exact wp_val (.pointer (some ⟨R, 0, none⟩)) (by simp only [execOp, Act.eval, List.map_toArray, List.map_cons, List.map_nil]; rw [e1]; kernel_rfl) ⟨0, rfl, hW⟩
  case p3 =>
    intro D bq a' w' hk hc he hl hW
    (try dsimp only at hW)
    have e2 : a'.tmps.getD 25 undef = .pointer (some ⟨R, 0, none⟩) := (hl 25).trans (vsx_at (f := fun _ => .pointer (some ⟨R, 0, none⟩)) rfl (he ⟨2, .data⟩ (by simp) rfl) rfl)
    exact wp_sload _ _ rfl R 0 e2 0 hW (plA c a N cap) (cpC c) rfl (by decide +kernel) (by kernel_rfl) (plA_cpu _ _ _ _) ⟨0, rfl, hW⟩
  case p4 =>
    intro D bq a' w' hk hc he hl hW
    (try dsimp only at hW)
    have f10 : a'.tmps.getD 10 undef = .pointer (some ⟨R, 0, none⟩) := (hl 10).trans ((vsx_no rfl).trans rfl)
    exact wp_val (.pointer (some ⟨R, 0, none⟩)) (by simp only [execOp, Act.eval, List.map_toArray, List.map_cons, List.map_nil]; rw [f10]; kernel_rfl) ⟨0, rfl, hW⟩
  case p5 =>
    intro D bq a' w' hk hc he hl hW
    (try dsimp only at hW)
    have e4 : a'.tmps.getD 27 undef = .pointer (some ⟨R, 0, none⟩) := (hl 27).trans (vsx_at (f := fun _ => .pointer (some ⟨R, 0, none⟩)) rfl (he ⟨4, .data⟩ (by simp) rfl) rfl)
    exact wp_val (.pointer (some ⟨R, 0, none⟩)) (by simp only [execOp, Act.eval, List.map_toArray, List.map_cons, List.map_nil]; rw [e4]; kernel_rfl) ⟨0, rfl, hW⟩
  case p6 =>
    intro D bq a' w' hk hc he hl hW
    (try dsimp only at hW)
    have e5 : a'.tmps.getD 28 undef = .pointer (some ⟨R, 0, none⟩) := (hl 28).trans (vsx_at (f := fun _ => .pointer (some ⟨R, 0, none⟩)) rfl (he ⟨5, .data⟩ (by simp) rfl) rfl)
    exact wp_val (.pointer (some ⟨R, 25, none⟩)) (by simp only [execOp, Act.eval, List.map_toArray, List.map_cons, List.map_nil]; rw [e5]; kernel_rfl) ⟨0, rfl, hW⟩
  case p7 =>
    intro D bq a' w' hk hc he hl hW
    (try dsimp only at hW)
    have e6 : a'.tmps.getD 29 undef = .pointer (some ⟨R, 25, none⟩) := (hl 29).trans (vsx_at (f := fun _ => .pointer (some ⟨R, 25, none⟩)) rfl (he ⟨6, .data⟩ (by simp) rfl) rfl)
    exact wp_sload1 _ _ rfl R 25 e6 0 hW (plA c a N cap) (.slice a N cap) rfl (plA_at _ _ _ _) (by decide +kernel) ⟨0, rfl, hW⟩
  case p8 =>
    intro D bq a' w' hk hc he hl hW
    (try dsimp only at hW)
    have f11 : a'.tmps.getD 11 undef = .int .i64 1 := (hl 11).trans ((vsx_no rfl).trans rfl)
    exact wp_val (.int .i64 1) (by simp only [execOp, Act.eval, List.map_toArray, List.map_cons, List.map_nil]; rw [f11]; kernel_rfl) ⟨0, rfl, hW⟩
  case p9 =>
    intro D bq a' w' hk hc he hl hW
    (try dsimp only at hW)
    have f6 : a'.tmps.getD 6 undef = .pointer (some ⟨R6, 0, none⟩) := (hl 6).trans ((vsx_no rfl).trans rfl)
    have e3 : a'.tmps.getD 26 undef = .agg (cpC c) := (hl 26).trans (vsx_at (f := fun _ => .agg (cpC c)) rfl (he ⟨3, .data⟩ (by simp) rfl) rfl)
    have hM := hW
    simp only [hk, cond_false] at hM
    exact wp_sstoreA _ _ _ rfl rfl R6 f6 1 hM (cpC cp0) (cpC c) rfl e3 (by kernel_rfl) (by kernel_rfl) (by kernel_rfl) fun w1 hM1 => ⟨0, rfl, hM1⟩
  case p10 =>
    intro D bq a' w' hk hc he hl hW
    (try dsimp only at hW)
    have e7 : a'.tmps.getD 30 undef = .slice a N cap := (hl 30).trans (vsx_at (f := fun _ => .slice a N cap) rfl (he ⟨7, .data⟩ (by simp) rfl) rfl)
    exact wp_val (.slice a N cap) (by simp only [execOp, Act.eval, List.map_toArray, List.map_cons, List.map_nil]; rw [e7]; kernel_rfl) ⟨0, rfl, hW⟩
  case p11 =>
    intro D bq a' w' hk hc he hl hW
    (try dsimp only at hW)
    exact wp_val (.slice none 0 0) (by kernel_rfl) ⟨0, rfl, hW⟩
  case p12 =>
    intro D bq a' w' hk hc he hl hW
    (try dsimp only at hW)
    have e8 : a'.tmps.getD 31 undef = .int .i64 1 := (hl 31).trans (vsx_at (f := fun _ => .int .i64 1) rfl (he ⟨8, .data⟩ (by simp) rfl) rfl)
    exact wp_val (.int .i64 1) (by simp only [execOp, Act.eval, List.map_toArray, List.map_cons, List.map_nil]; rw [e8]; kernel_rfl) ⟨0, rfl, hW⟩
  intro D bq wv hD hW
  (try dsimp only at hW)
  simp only [hD 9 (by decide), cond_true] at hW
  clear H hD
  have H := hW
  clear hW
  simp only [putAll, vsOf, Nat.reduceAdd, List.foldl_cons, List.foldl_nil, Act.put, List.setIfInBounds_toArray, List.set_cons_succ, List.set_cons_zero]
  go_wp2_with fail
  obtain ⟨T6, e6⟩ := H.get (i := 1) rfl
  refine ⟨_, res_cttt (v := .slice a N cap) (u := .slice none 0 0) (x := .int .i64 1) rfl R6 rfl e6 (by kernel_rfl) (by kernel_rfl) rfl rfl rfl, ?_⟩
  exact ⟨_, _, _, rfl, hG, H.sub (List.Sublist.cons _ (List.Sublist.cons _ (List.Sublist.cons _ (List.Sublist.refl _))))⟩
end Go.Proofs.YtcgnnbgknaamdaaGreatDoor
namespace Go.Proofs.YtcgnnbgknaamdaaGreatDoor
open Go.RowKit
set_option linter.unusedSimpArgs false
set_option linter.unusedVariables false
set_option maxRecDepth 20000

/-- A slice that reads what is told. -/
def RdB (w : World) (v : Value) (L : List Bs) : Prop := ∃ a cap, v = .slice a L.length cap ∧ (L = [] ∨ ∃ b off, a = some ⟨b, off, none⟩ ∧ b < w.heap.size ∧ ∀ k x, L[k]? = some x → Cells w b (off + k * 5) (bsC x))
theorem bsC_bscl (x : Bs) (j : Nat) (v : Value) (h : (bsC x)[j]? = some v) : j < 5 ∧ (bscl x)[j]? = some v := by
  rw [← Array.getElem?_toList] at h
  exact ⟨(List.getElem?_eq_some_iff.1 h).1, h⟩
section
variable {n : Nat} {X : List Nat} {w0 w : World} {l blk : List (Nat × Array Value)} {v : Value} {L : List Bs}
theorem rdb_at (H : Mem n X w0 w l) (h : RowAt bscl 5 v L blk) (hs : ∀ x ∈ blk, x ∈ l) : RdB w v L := by
  rcases h with ⟨rfl, rfl, rfl⟩ | ⟨R, cs, cap, rfl, rfl, hG⟩
  · exact ⟨none, 0, rfl, .inl rfl⟩
  · have hm := hs (R, cs) (List.mem_singleton.2 rfl)
    obtain ⟨T, e⟩ := H.row _ hm
    refine ⟨_, cap, rfl, .inr ⟨R, 0, rfl, H.lt hm, fun k x hk j v hj => ?_⟩⟩
    obtain ⟨h5, hb⟩ := bsC_bscl x j v hj
    rw [cell_of_row w R _ cs T _ e]
    refine hG.at_ _ v ?_
    rw [Nat.zero_add, flatG_get (cl := bscl) (sz := 5) (fun _ => rfl) L k x hk j h5]
    exact hb
theorem rdb_own {B : Nat} (h : w.ownsRow B 46 5 v L.length (L.flatMap bscl)) : RdB w v L := by
  rcases h.2 with ⟨rfl, h0⟩ | ⟨g, cap, cur, rfl, hb, hg, hn, hm, hs, ht⟩
  · obtain rfl := List.length_eq_zero_iff.1 h0
    exact ⟨none, 0, rfl, .inl rfl⟩
  · refine ⟨_, cap, rfl, .inr ⟨g, 0, rfl, (Array.getElem?_eq_some_iff.1 hg).1, fun k x hk j v hj => ?_⟩⟩
    obtain ⟨h5, hb5⟩ := bsC_bscl x j v hj
    rw [cell_of_row w g _ cur _ _ hg, Nat.zero_add]
    have e : (L.flatMap bscl)[k * 5 + j]? = some v := by
      rw [flatG_get (cl := bscl) (sz := 5) (fun _ => rfl) L k x hk j h5]
      exact hb5
    rw [← ht, List.getElem?_take] at e
    split at e
    · simpa using e
    · cases e
theorem Mem.grown {w' : World} {row : Option Nat} (H : Mem n X w0 w l) (hg : w.grownBy w' row) (hr : ∀ b, row = some b → n ≤ b ∧ ∀ x ∈ l, x.1 ≠ b) : Mem n X w0 w' l :=
  H.stay hg.os hg.tape hg.output hg.size
    (fun b hb => hg.block b (Nat.lt_of_lt_of_le hb (Nat.le_trans H.base H.size)) (fun e => by have := (hr b e.symm).1; omega))
    (fun x hx => hg.block x.1 (H.lt hx) (fun e => (hr x.1 e.symm).2 x hx rfl))
theorem bscl_one (M : List Bs) : ∀ u ∈ M.flatMap bscl, u.oneCell' = true := by
  intro u hu
  obtain ⟨x, _, hx⟩ := List.mem_flatMap.1 hu
  simp only [bscl, List.mem_cons, List.not_mem_nil, or_false] at hx
  rcases hx with rfl | rfl | rfl | rfl | rfl <;> rfl
theorem bscl_len : ∀ M : List Bs, (M.flatMap bscl).length = M.length * 5
  | [] => rfl
  | x :: M => by rw [List.flatMap_cons, List.length_append, bscl_len M, List.length_cons]; simp [bscl]; omega
theorem wp_bslB {P : Program} {Q : Exit → Act → World → Prop} {w : World} {o : Oper} {a : Act} {K : Act → World → Prop} (t e : TypeId) (ho : o.op = .buildSlice t 0 #[]) (ht : P.underlying t = some (.slice e)) (i : TypeInfo) (hi : P.info? e = some i)
    (h : K (a.put o.dst (.slice (some ⟨w.heap.size, 0, none⟩) 0 0)) (w.alloc (.cells #[] e))) : o.wp P a w K Q := by
  unfold Oper.wp execOp
  simp [ho, Instr.buildSlice, run_underlying ht, sizeOf, typeInfo, hi, Instr.fill, newRow, Result.andThen]
  have e : Array.map (fun x => default) (Array.range 0) = (#[] : Array Value) := Array.eq_empty_of_size_eq_zero (by simp)
  rw [e]
  exact h
/-- A literal with nothing in it. -/
theorem wpList_bsl {ops : Array Oper} {rest : List Oper} {o : Oper} {a : Act} {Q : Exit → Act → World → Prop} (hgd : Region.wanted o (yielded ops a.tmps) = true) (ho : o.op = .buildSlice 35 0 #[]) (H : Mem n X w0 w l)
    (h : ∀ B v w1, Mem n X w0 w1 l → n ≤ B → (∀ x ∈ l, x.1 < B) → B ≤ w1.heap.size → w1.ownsRow B 46 5 v ([] : List Bs).length (([] : List Bs).flatMap bscl) → wpList Tryz.prog ops Q rest (a.put o.dst v) w1) : wpList Tryz.prog ops Q (o :: rest) a w := by
  obtain ⟨i0, hi, hz0, hz1, hz2⟩ := info_parts info_bus
  refine wpList_want' hgd fun _ hK => wp_bslB 35 46 ho Tryz.underlying35 i0 hi (hK _ _ (h w.heap.size _ _ ((H.new #[] 46).sub (List.Sublist.cons _ (List.Sublist.refl _))) (Nat.le_trans H.base H.size) (fun x hx => H.lt hx) (by simp) ?_))
  exact World.ownsRow_made w #[] 0 (Nat.le_refl _) (Nat.zero_le _) rfl
/-- What is told is appended to a row of one's own. -/
theorem wpList_apd {ops : Array Oper} {rest : List Oper} {o : Oper} {a : Act} {Q : Exit → Act → World → Prop} (hgd : Region.wanted o (yielded ops a.tmps) = true) (s x : Operand) (ho : o.op = .call { callee := .builtin .append, args := #[s, x], argTypes := #[35, 35] })
    (H : Mem n X w0 w l) (B : Nat) (hnB : n ≤ B) (hlt : ∀ x ∈ l, x.1 < B) (hsz : B ≤ w.heap.size) (v u : Value) (L M : List Bs) (hs : a.eval s = v) (hx : a.eval x = u) (hO : w.ownsRow B 46 5 v L.length (L.flatMap bscl))
    {blk : List (Nat × Array Value)} (hR : RowAt bscl 5 u M blk) (hb : ∀ x ∈ blk, x ∈ l) (hnm : L.length + M.length ≤ 1000)
    (h : ∀ v' w', Mem n X w0 w' l → B ≤ w'.heap.size → w'.ownsRow B 46 5 v' (L ++ M).length ((L ++ M).flatMap bscl) → wpList Tryz.prog ops Q rest (a.put o.dst v') w') : wpList Tryz.prog ops Q (o :: rest) a w := by
  obtain ⟨i0, hi, hz0, hz1, hz2⟩ := info_parts info_bus
  rcases hR with ⟨rfl, rfl, rfl⟩ | ⟨R, cs, cap, rfl, rfl, hG⟩
  · refine wpList_want' hgd fun K hK => ?_
    unfold Oper.wp execOp
    simp only [ho, resolve, invoke, builtin, Sem.run_bind, Sem.run_pure, Result.andThen_ok, List.map_toArray, List.map_cons, List.map_nil, hs, hx, run_append_owned_none (P := Tryz.prog) w B _ _ _ i0 5 Tryz.underlying35 hi v _ _ hO]
    exact hK _ _ (h v w H hsz (by rw [List.append_nil]; exact hO))
  · have hm := hb (R, cs) (List.mem_singleton.2 rfl)
    obtain ⟨T, e⟩ := H.row _ hm
    refine wpList_want' hgd fun K hK => wp_append_own w s x _ ho B _ i0 _ 5 6 Tryz.underlying35 hi hz0 hz1 hz2 rfl (by decide) v _ _ hs hO ⟨R, 0, none⟩ _ cap (M.flatMap bscl) hx (bscl_len M) (fun j y hj => ?_) (bscl_one M) (by unfold maxLen; omega) (by omega) hsz fun v' w' h2 h3 _ => hK _ _ (h v' w' (H.grown h3 fun b hb2 => ?_) (Nat.le_trans hsz h3.size) ?_)
    · rw [addr_add, cell_of_row w R _ cs T _ e, Nat.zero_add]
      exact hG.at_ _ y hj
    · have := (hO.lt b hb2).1
      exact ⟨by omega, fun x hx => by have := hlt x hx; omega⟩
    · rw [List.length_append, List.flatMap_append]
      exact h2
end
theorem run_told (c : Cp) (sv : Value) (l : List (Int × Bool)) (n : Nat) (F : Fit c) (ok : okB c = true) (om : okM l) (hm : memB l.length = true) (hn : n ≤ 100000) (w : World) (G : GlobO w) (hr : Rd w sv l) :
    Calls Tryz.prog 7 #[.agg (cpC c), sv, .int .i64 (n : Int)] w fun e w' => ∃ g cap cs p cp blk, e = .returned (.tuple #[.agg (cpC (runM n c l).1), .slice (some ⟨g, 0, none⟩) l.length cap, .slice p (runM n c l).2.2.length cp, .int .i64 0]) ∧
      RowG bcl 2 cs cap (runM n c l).2.1 ∧ RowAt bscl 5 (.slice p (runM n c l).2.2.length cp) (runM n c l).2.2 blk ∧ Mem w.heap.size [] w w' ((g, cs) :: blk) := by
  refine (run_yes c sv l n F ok om hm hn w G hr).mono ?_
  rintro e w' ⟨k, g, cap, cs, v, hE, rfl, hG, hM, hO, hne⟩
  rw [run_ends n k c l hE]
  dsimp only
  rw [tells_len]
  rcases hO.2 with ⟨rfl, rfl⟩ | ⟨q, cp, cur, rfl, hb, hq, hle, hmx, hsz, htk⟩
  · exact ⟨g, cap, cs, none, 0, [], rfl, hG, .inl ⟨rfl, rfl, rfl⟩, hM⟩
  · refine ⟨g, cap, cs, _, cp, [(q, cur)], rfl, hG, .inr ⟨q, cur, cp, by rw [tells_len], rfl, ⟨hsz, by rw [tells_len]; exact hle, hmx, fun j u hj => ?_⟩⟩, ?_⟩
    · rw [← htk, List.getElem?_take] at hj
      split at hj
      · simpa using hj
      · cases hj
    · exact (hM.more hq hb (fun x hx => by
        simp only [List.mem_singleton] at hx
        subst hx
        exact fun e => hne (congrArg some e.symm))).perm (List.Perm.swap _ _ _)
theorem bs_eqi (ad : Int) (wr : Bool) (v : Int) (vb sc : Bool) (w : World) : (Op.equalIn 10000 46 (.agg #[.int .u16 ad, .bool wr, .int .u8 v, .bool vb, .bool sc]) (.agg #[.int .u16 ad, .bool wr, .int .u8 v, .bool vb, .bool sc])).run Tryz.prog w = .ok true w := by
  have hb := by_eqi v vb 9997
  simp only [Nat.reduceAdd] at hb
  have u3 := Tryz.underlying26
  have u4 := Tryz.underlying4
  have u5 := Tryz.underlying23
  have a5 := Tryz.isAgg23
  have z5 := Tryz.sizeOf23
  rw [show (10000 : Nat) = 9999 + 1 from rfl, run_equalIn_struct w 9999 46 _ _ (by kernel_rfl) (by kernel_rfl)]
  simp only [Program.fieldsOf, Tryz.underlying46, Op.eqFields]
  go_simp
theorem bs_neqG (ad : Int) (wr : Bool) (v : Int) (vb sc : Bool) (x y : Operand) (w : World) : (do eqGuard .neq 46 x y (.agg #[.int .u16 ad, .bool wr, .int .u8 v, .bool vb, .bool sc]) (.agg #[.int .u16 ad, .bool wr, .int .u8 v, .bool vb, .bool sc]); binOp .neq 46 (.agg #[.int .u16 ad, .bool wr, .int .u8 v, .bool vb, .bool sc]) (.agg #[.int .u16 ad, .bool wr, .int .u8 v, .bool vb, .bool sc]) : Sem Value).run Tryz.prog w = .ok (.bool false) w := by
  have e := run_eqGuard_agg (P := Tryz.prog) (w := w) .neq 46 x y #[.int .u16 ad, .bool wr, .int .u8 v, .bool vb, .bool sc] #[.int .u16 ad, .bool wr, .int .u8 v, .bool vb, .bool sc] (by kernel_rfl)
  have e2 : (binOp .neq 46 (.agg #[.int .u16 ad, .bool wr, .int .u8 v, .bool vb, .bool sc]) (.agg #[.int .u16 ad, .bool wr, .int .u8 v, .bool vb, .bool sc])).run Tryz.prog w = .ok (.bool false) w := by
    rw [run_neq_struct, bs_eqi]; rfl
  simp only [Sem.run_bind, e, Result.andThen_ok, e2]
attribute [local irreducible] wpList
set_option maxHeartbeats 4000000 in
theorem bsame_ct (sv tv : Value) (L : List Bs) (hL : L.length ≤ 1000) (w : World) (hr : RdB w sv L) (hs : RdB w tv L) :
    Calls Tryz.prog 10 #[sv, tv] w fun e w' => e = .returned (.bool true) ∧ Below w.heap.size w w' := by
  obtain ⟨a, cap, rfl, hr⟩ := hr
  obtain ⟨a2, cap2, rfl, hs⟩ := hs
  obtain ⟨N, hN⟩ : ∃ N, L.length = N := ⟨_, rfl⟩
  rw [hN] at hL
  rw [hN]
  have H := Mem.start w
  have HR := Lib.hid hr
  have HS := Lib.hid hs
  have HN := Lib.hid hN
  clear hr hs hN
  go_enter Tryz.func10, Tryz.ntmps10
  go_wp2
  go_loopw [5] (fun z wr => ∃ k : Nat, k ≤ N ∧ z = .int .i64 (k : Int) ∧ Mem w.heap.size [] w wr []) (fun z _ => N - (intOf z).toNat)
  case atStart => exact ⟨0, Nat.zero_le _, rfl, H⟩
  case round =>
    clear H
    obtain ⟨k, hk, rfl, H⟩ := hrel
    by_cases hlt : k < N
    · rcases HR.out with hz | ⟨b, off, rfl, hb, hc⟩
      · have := HN.out
        rw [hz] at this
        simp at this
        omega
      rcases HS.out with hz | ⟨b2, off2, rfl, hb2, hc2⟩
      · have := HN.out
        rw [hz] at this
        simp at this
        omega
      obtain ⟨x, hx⟩ : ∃ x, L[k]? = some x := ⟨_, List.getElem?_eq_getElem (by rw [HN.out]; exact hlt)⟩
      have h1 := hc k x hx
      have h2 := hc2 k x hx
      clear hc hc2 hx HR HS
      obtain ⟨ad, wr, v, vb, sc⟩ := x
      have h1' : Cells w b (off + k * 5) #[.int .u16 ad, .bool wr, .int .u8 v, .bool vb, .bool sc] := h1
      have h2' : Cells w b2 (off2 + k * 5) #[.int .u16 ad, .bool wr, .int .u8 v, .bool vb, .bool sc] := h2
      clear h1 h2
      go_wp2_with fail
      (try simp only [Act.put, List.setIfInBounds_toArray, List.set_cons_succ, List.set_cons_zero])
      (refine wp_region_quiet_below (by kernel_rfl) (by kernel_rfl) ?_)
      (repeat (first | (go_big_quiet_want; refine gate_qload _ _ rfl ?_; refine quiet_xload 46 _ rfl _ _ rfl H #[.int .u16 ad, .bool wr, .int .u8 v, .bool vb, .bool sc] h1' hb (by decide +kernel) (by kernel_rfl) ?_; simp only [Act.put, List.setIfInBounds_toArray, List.set_cons_succ, List.set_cons_zero]; go_big_quiet_on) | (go_big_quiet_want; refine gate_qload _ _ rfl ?_; refine quiet_xload 46 _ rfl _ _ rfl H #[.int .u16 ad, .bool wr, .int .u8 v, .bool vb, .bool sc] h2' hb2 (by decide +kernel) (by kernel_rfl) ?_; simp only [Act.put, List.setIfInBounds_toArray, List.set_cons_succ, List.set_cons_zero]; go_big_quiet_on) | (go_big_quiet_want; refine gate_qbin .neq 46 _ _ _ rfl ?_; refine quiet_mbin .neq 46 _ _ _ rfl (.agg #[.int .u16 ad, .bool wr, .int .u8 v, .bool vb, .bool sc]) (.agg #[.int .u16 ad, .bool wr, .int .u8 v, .bool vb, .bool sc]) _ rfl rfl (fun w => bs_neqG _ _ _ _ _ _ _ w) ?_; simp only [Act.put, List.setIfInBounds_toArray, List.set_cons_succ, List.set_cons_zero]; go_big_quiet_on) | go_big_quiet_step (fail)))
      (refine wpQuiet_nil ?_)
      intro _ hw9
      obtain ⟨⟨dq, osq⟩, hw8⟩ := hw9
      subst hw8
      replace H := H.next (below_regrown _ dq osq)
      go_wp2_with fail
      go_roundw
      case rel => exact ⟨k + 1, by omega, by go_num, H⟩
      case measure => simp [intOf]; omega
    · obtain rfl : k = N := by omega
      clear HR HS
      go_wp2
      go_ret
      exact ⟨rfl, H.toBelow⟩
end Go.Proofs.YtcgnnbgknaamdaaGreatDoor
namespace Go.Proofs.YtcgnnbgknaamdaaGreatDoor
open Go.RowKit
set_option linter.unusedSimpArgs false
set_option linter.unusedVariables false
set_option maxRecDepth 20000

theorem fitp_from {c : Cp} (O : Oct c) (h : okB c = true) : Fit c := by
  obtain ⟨_, _, _, h7, h8⟩ := (okB_iff _).1 h
  exact ⟨O.a0, O.a1, O.x0, O.x1, O.y0, O.y1, O.s0, O.s1, O.p0, O.p1, O.q0, O.q1, h7, h8, O.pc0, O.pc1, O.op0, O.op1, O.ad0, O.ad1, O.d0, O.d1⟩
theorem mod50 (q : Int) : ∃ n : Nat, n < 50 ∧ (wrap64 ((q.tmod 50) + 50)).tmod 50 = (n : Int) := by
  have h1 : -50 < q.tmod 50 := Int.lt_tmod_of_pos _ (by decide)
  have h2 : q.tmod 50 < 50 := Int.tmod_lt_of_pos _ (by decide)
  have h4 : wrap64 ((q.tmod 50) + 50) = (q.tmod 50) + 50 := by
    generalize q.tmod 50 = z at *
    unfold wrap64
    omega
  have h3 : (((q.tmod 50) + 50).tmod 50) = ((q.tmod 50) + 50) % 50 := Int.tmod_eq_emod_of_nonneg (by omega)
  exact ⟨(((q.tmod 50) + 50) % 50).toNat, by omega, by rw [h4, h3]; omega⟩
theorem rd_at {n : Nat} {X : List Nat} {w0 w : World} {L blk : List (Nat × Array Value)} {v : Value} {l : List (Int × Bool)} (H : Mem n X w0 w L) (h : RowAt bcl 2 v l blk) (hs : ∀ x ∈ blk, x ∈ L) : Rd w v l := by
  rcases h with ⟨rfl, rfl, rfl⟩ | ⟨R, cs, cap, rfl, rfl, hG⟩
  · exact ⟨none, 0, rfl, Nat.le_refl _, Nat.zero_le _, .inl rfl⟩
  · obtain ⟨i, hi⟩ := List.mem_iff_getElem?.1 (hs _ (List.mem_singleton.2 rfl))
    exact rd_row H hi hG rfl
theorem cp_jam (c : Cp) (b : Bool) (h : c.jam = b) : (cpC c)[24]? = some (.bool b) := by rw [← h]; rfl
attribute [local irreducible] wpList
set_option maxHeartbeats 16000000 in
theorem fparts_walk (c : Cp) (sv : Value) (l : List (Int × Bool)) (qn qk qv : Int) (i n r : Bool) (W : World) (G : GlobO W) (O : Oct c) (hr : Rd W sv l) (om : okM l) :
    Calls Tryz.prog 3 #[.agg (cpC c), sv, .agg #[.int .i64 qn, .int .i64 qk, .int .u8 qv, .bool i, .bool n, .bool r]] W fun e w' => e = .returned (.bool true) ∧ Below W.heap.size W w' := by
  have HR := Lib.hid hr
  have hr2 := rd_cutF hr
  have HR2' := hr2
  obtain ⟨a2, cap2, e2, hcp, hmx, hc2⟩ := hr2
  have om2 := okM_take om 1024
  have hN4 : (l.take 1024).length ≤ 1024 := by rw [List.length_take]; omega
  have QF0 := fun wr h => few_cut sv l wr h
  rw [e2] at QF0 HR2'
  obtain ⟨N, hN⟩ : ∃ N, (l.take 1024).length = N := ⟨_, rfl⟩
  rw [hN] at QF0 HR2' hcp hN4
  generalize l.take 1024 = l2 at *
  have HC2 := Lib.hid hc2
  have HR2 := Lib.hid HR2'
  have QF := Lib.hid QF0
  have QW := Lib.hid (fun wr g => awake11_ct wr g)
  have GG := Lib.hid G
  have HZC := Lib.hid alloc_cpu
  have HB := Lib.hid alloc_bus
  have H := Mem.start W
  clear hc2 HR2' QF0 hr e2 G
  obtain ⟨kn, hkn, hn0⟩ := mod50 qn
  obtain ⟨kk, hkk, hk0⟩ := mod50 qk
  have HN0 := Lib.hid hn0
  have HK0 := Lib.hid hk0
  clear hn0 hk0
  cases hpl : (okB c && memB N)
  case false =>
    have QR := Lib.hid (fun sv (k : Int) wr gr h => run_no c sv l2 N k O hN (by omega) (by simp only [playB, hpl, Bool.false_and]) wr gr h)
    clear O om om2 hpl hcp hmx hN4
    have M9 : True := trivial
    have M13 : True := trivial
    have M17 : True := trivial
    have MA : True := trivial
    have MB : True := trivial
    go_enter Tryz.func3, Tryz.ntmps3
    go_wp2_with (first | (refine wpList_mboxA rfl _ _ rfl H (cpC c) rfl ?_; clear H; intro Rc w1 _ H) | (refine wpList_mboxA rfl _ _ rfl H #[.int .i64 qn, .int .i64 qk, .int .u8 qv, .bool i, .bool n, .bool r] rfl ?_; clear H; intro Rq w1 _ H) | (go_at_call 6; (with_reducible refine (QF.out _ (HR.out.below H.toBelow)).mono ?_); rintro e w2 ⟨rfl, rfl⟩) | fail)
    (try simp only [Act.put, List.setIfInBounds_toArray, List.set_cons_succ, List.set_cons_zero])
    (refine wp_region_quiet_below (by kernel_rfl) (by kernel_rfl) ?_)
    (repeat (first | (go_big_quiet_want; refine gate_qload _ _ rfl ?_; refine quiet_mload1 _ _ rfl _ _ rfl 0 H _ (.int _ _) rfl rfl (by decide +kernel) ?_; simp only [Act.put, List.setIfInBounds_toArray, List.set_cons_succ, List.set_cons_zero]; go_big_quiet_on) | go_big_quiet_step (fail)))
    (refine wpQuiet_nil ?_)
    intro _ hw9
    obtain ⟨⟨dq, osq⟩, hw8⟩ := hw9
    subst hw8
    replace H := H.next (below_regrown _ dq osq)
    rw [HN0.out, HK0.out]
    go_wp2_with (first | (refine gate_load _ _ rfl ?_; refine wpList_mloadA rfl 28 _ rfl _ rfl 1 H (cpC c) rfl (by decide +kernel) (by kernel_rfl) ?_) | (refine gate_load _ _ rfl ?_; refine wpList_mloadA rfl 28 _ rfl _ rfl 0 H (cpC c) rfl (by decide +kernel) (by kernel_rfl) ?_) | (refine gate_load _ _ rfl ?_; refine wpList_mloadA rfl 28 _ rfl _ rfl 3 H (cpC c) rfl (by decide +kernel) (by kernel_rfl) ?_) | (go_at_call 7; (with_reducible refine (QR.out (.slice a2 N cap2) _ _ (GG.out.mem H) (HR2.out.below H.toBelow)).mono ?_); clear MA; rintro e w2 ⟨a3, cap3, blk3, rfl, hA3, hM⟩; replace H := (Mem.join H hM).perm List.perm_append_comm; clear hM; simp only [List.cons_append, List.nil_append] at H) | (go_at_call 7; (with_reducible refine (QR.out (.slice a3 N cap3) _ _ (GG.out.mem H) (rd_at H hA3 (fun x hx => by simp only [List.mem_cons, List.mem_append, hx, true_or, or_true]))).mono ?_); clear MB; rintro e w2 ⟨a4, cap4, blk4, rfl, hA4, hM⟩; replace H := (Mem.join H hM).perm List.perm_append_comm; clear hM; simp only [List.cons_append, List.nil_append] at H) | (go_at_call 7; (with_reducible refine (QR.out (.slice a2 N cap2) _ _ (GG.out.mem H) (HR2.out.below H.toBelow)).mono ?_); rintro e w2 ⟨a5, cap5, blk5, rfl, hA5, hM⟩; replace H := (Mem.join H hM).perm List.perm_append_comm; clear hM; simp only [List.cons_append, List.nil_append] at H) | (refine wpList_mnew rfl _ rfl H _ HZC.out ?_; clear H; (first | (clear M9; intro R9 w1 _ H) | (clear M13; intro R13 w1 _ H) | (clear M17; intro R17 w1 _ H))) | (refine gate_store _ _ _ rfl ?_; refine wpList_mstoreA rfl 28 _ _ rfl rfl _ rfl 0 H (cpC _) _ rfl rfl (by kernel_rfl) (by kernel_rfl) (by kernel_rfl) ?_; clear H; intro w1 H; simp only [List.set_cons_zero, List.set_cons_succ] at H) | (go_at_call 8; (with_reducible refine (QW.out _ (GG.out.mem H)).mono ?_); rintro e w2 ⟨rfl, hB⟩; replace H := H.next hB; clear hB) | fail)
    go_ret
    exact ⟨rfl, H.toBelow⟩
  case true =>
    have ok : okB c = true := by
      simp only [Bool.and_eq_true] at hpl
      exact hpl.1
    have hmN : memB N = true := by
      simp only [Bool.and_eq_true] at hpl
      exact hpl.2
    have hm : memB l2.length = true := by rw [hN]; exact hmN
    have F := fitp_from O ok
    have hN0 : 256 ≤ N := by
      have hm' := hmN
      simp only [memB, Bool.and_eq_true, decide_eq_true_eq] at hm'
      exact hm'.1.1
    have o1 := run_ok kn c l2 F ok om2 (by omega)
    have QR10 := fun wr gr h => run_told c (.slice a2 N cap2) l2 kn F ok om2 hm (by omega) wr gr h
    have QR30 := fun wr gr h => run_told c (.slice a2 N cap2) l2 (kn + kk) F ok om2 hm (by omega) wr gr h
    have pj := parts_jam kk kn c l2
    have pg := parts_go kk kn c l2
    rw [hN, Int.natCast_add] at QR30
    rw [hN] at QR10 o1
    generalize runM (kn + kk) c l2 = d3 at *
    generalize runM kn c l2 = d1 at *
    obtain ⟨a, x, L1⟩ := d1
    dsimp only at o1 QR10 pj pg
    obtain ⟨ok1, F1, om1, hx, hL1⟩ := o1
    have o2 := (run_ok kk a x F1 ok1 om1 (by omega)).2.2.2
    have QR20 := fun g cap wr gr h => run_told a (.slice (some ⟨g, 0, none⟩) N cap) x kk F1 ok1 om1 (by rw [hx]; exact hmN) (by omega) wr gr h
    rw [hx] at QR20
    generalize runM kk a x = d2 at *
    obtain ⟨b, y, L2⟩ := d2
    dsimp only at o2 QR20 pg
    obtain ⟨hy, hL2⟩ := o2
    rw [hx] at hy
    have QR1 := Lib.hid QR10
    have QR2 := Lib.hid QR20
    clear QR10 QR20 F1 ok1 om1 ok hpl F hm hmN hN0 O om om2 hcp hmx hN4
    have HX := Lib.hid hx
    have HY := Lib.hid hy
    clear hx hy
    by_cases hj : a.jam = true ∧ 0 < L1.length
    · have e3 := pj hj.1 hj.2
      rw [e3] at QR30
      dsimp only at QR30
      have QR3 := Lib.hid QR30
      have HJ := Lib.hid (cp_jam a true hj.1)
      have h0 := hj.2
      have QSM := Lib.hid (fun sv tv wr h1 h2 => rsame_ct sv tv x x wr h1 h2)
      rw [eqL_self] at QSM
      clear QR30 e3 hj pj pg
      have M9 : True := trivial
      have M13 : True := trivial
      have M17 : True := trivial
      go_enter Tryz.func3, Tryz.ntmps3
      go_wp2_with (first | (refine wpList_mboxA rfl _ _ rfl H (cpC c) rfl ?_; clear H; intro Rc w1 _ H) | (refine wpList_mboxA rfl _ _ rfl H #[.int .i64 qn, .int .i64 qk, .int .u8 qv, .bool i, .bool n, .bool r] rfl ?_; clear H; intro Rq w1 _ H) | (go_at_call 6; (with_reducible refine (QF.out _ (HR.out.below H.toBelow)).mono ?_); rintro e w2 ⟨rfl, rfl⟩) | fail)
      (try simp only [Act.put, List.setIfInBounds_toArray, List.set_cons_succ, List.set_cons_zero])
      (refine wp_region_quiet_below (by kernel_rfl) (by kernel_rfl) ?_)
      (repeat (first | (go_big_quiet_want; refine gate_qload _ _ rfl ?_; refine quiet_mload1 _ _ rfl _ _ rfl 0 H _ (.int _ _) rfl rfl (by decide +kernel) ?_; simp only [Act.put, List.setIfInBounds_toArray, List.set_cons_succ, List.set_cons_zero]; go_big_quiet_on) | go_big_quiet_step (fail)))
      (refine wpQuiet_nil ?_)
      intro _ hw9
      obtain ⟨⟨dq, osq⟩, hw8⟩ := hw9
      subst hw8
      replace H := H.next (below_regrown _ dq osq)
      rw [HN0.out, HK0.out]
      go_wp2_with (first | (refine gate_load _ _ rfl ?_; refine wpList_mloadA rfl 28 _ rfl _ rfl 1 H (cpC c) rfl (by decide +kernel) (by kernel_rfl) ?_) | (refine gate_load _ _ rfl ?_; refine wpList_mloadA rfl 28 _ rfl _ rfl 5 H (cpC c) rfl (by decide +kernel) (by kernel_rfl) ?_) | (refine gate_load _ _ rfl ?_; refine wpList_mloadA rfl 28 _ rfl _ rfl 0 H (cpC a) rfl (by decide +kernel) (by kernel_rfl) ?_) | (go_at_call 7; (with_reducible refine (QR1.out _ (GG.out.mem H) (HR2.out.below H.toBelow)).mono ?_); rintro e w2 ⟨g1, cap3, cs1, p1, cp1, blk1, rfl, hG1, hT1, hM⟩; replace H := (Mem.join H hM).perm (List.Perm.cons _ List.perm_append_comm); clear hM; simp only [List.cons_append, List.nil_append] at H) | (go_at_call 7; (with_reducible refine (QR2.out _ _ _ (GG.out.mem H) (rd_row (i := 1) H rfl hG1 HX.out)).mono ?_); rintro e w2 ⟨g2, cap4, cs2, p2, cp2, blk2, rfl, hG2, hT2, hM⟩; replace H := (Mem.join H hM).perm (List.Perm.cons _ List.perm_append_comm); clear hM; simp only [List.cons_append, List.nil_append] at H) | (go_at_call 7; (with_reducible refine (QR3.out _ (GG.out.mem H) (HR2.out.below H.toBelow)).mono ?_); rintro e w2 ⟨g3, cap5, cs3, p3, cp3, blk3, rfl, hG3, hT3, hM⟩; replace H := (Mem.join H hM).perm (List.Perm.cons _ List.perm_append_comm); clear hM; simp only [List.cons_append, List.nil_append] at H) | (refine wpList_mnew rfl _ rfl H _ HZC.out ?_; clear H; (first | (clear M9; intro R9 w1 _ H) | (clear M13; intro R13 w1 _ H) | (clear M17; intro R17 w1 _ H))) | (refine gate_store _ _ _ rfl ?_; refine wpList_mstoreA rfl 28 _ _ rfl rfl _ rfl 0 H (cpC _) _ rfl rfl (by kernel_rfl) (by kernel_rfl) (by kernel_rfl) ?_; clear H; intro w1 H; simp only [List.set_cons_zero, List.set_cons_succ] at H) | (refine gate_load _ _ rfl ?_; refine wpList_mload1 rfl _ _ rfl _ _ rfl 4 H _ (.bool true) rfl HJ.out (by decide +kernel) ?_) | (refine gate_load _ _ rfl ?_; refine wpList_mloadA rfl 28 _ rfl _ rfl 4 H (cpC a) rfl (by decide +kernel) (by kernel_rfl) ?_) | (refine gate_fbin .eql 28 _ _ _ rfl ?_; refine wpList_fbin rfl .eql 28 _ _ _ rfl (.agg (cpC a)) (.agg (cpC a)) _ rfl rfl (fun w => cp_eqlG _ _ _ w) ?_) | (go_at_call 9; (with_reducible refine (QSM.out _ _ _ (rd_row (i := 1) H rfl hG3 HX.out) (rd_row (i := 5) H rfl hG1 HX.out)).mono ?_); rintro e w2 ⟨rfl, hB⟩; replace H := H.next hB; clear hB) | (go_at_call 8; (with_reducible refine (QW.out _ (GG.out.mem H)).mono ?_); rintro e w2 ⟨rfl, hB⟩; replace H := H.next hB; clear hB) | fail)
      go_ret
      exact ⟨rfl, H.toBelow⟩
    · have e3 := pg (fun h => by
        by_cases h0 : L1.length = 0
        · exact h0
        · exact absurd ⟨h, by omega⟩ hj)
      rw [e3] at QR30
      dsimp only at QR30
      rw [List.length_append] at QR30
      have QR3 := Lib.hid QR30
      have QSM := Lib.hid (fun sv tv wr h1 h2 => rsame_ct sv tv y y wr h1 h2)
      rw [eqL_self] at QSM
      have hL12 : (L1 ++ L2).length ≤ 1000 := by rw [List.length_append]; omega
      have QB := Lib.hid (fun sv tv wr h1 h2 => bsame_ct sv tv (L1 ++ L2) hL12 wr h1 h2)
      clear QR30 e3 pj pg hL12
      have hj2 : a.jam = false ∨ (a.jam = true ∧ L1.length = 0) := by
        cases h : a.jam with
        | false => exact .inl rfl
        | true =>
          by_cases h0 : L1.length = 0
          · exact .inr ⟨rfl, h0⟩
          · exact absurd ⟨h, by omega⟩ hj
      clear hj
      rcases hj2 with hj | ⟨hj, h0⟩
      · have HJ := Lib.hid (cp_jam a false hj)
        clear hj
        have M9 : True := trivial
        have M13 : True := trivial
        have M17 : True := trivial
        go_enter Tryz.func3, Tryz.ntmps3
        go_wp2_with (first | (refine wpList_mboxA rfl _ _ rfl H (cpC c) rfl ?_; clear H; intro Rc w1 _ H) | (refine wpList_mboxA rfl _ _ rfl H #[.int .i64 qn, .int .i64 qk, .int .u8 qv, .bool i, .bool n, .bool r] rfl ?_; clear H; intro Rq w1 _ H) | (go_at_call 6; (with_reducible refine (QF.out _ (HR.out.below H.toBelow)).mono ?_); rintro e w2 ⟨rfl, rfl⟩) | fail)
        (try simp only [Act.put, List.setIfInBounds_toArray, List.set_cons_succ, List.set_cons_zero])
        (refine wp_region_quiet_below (by kernel_rfl) (by kernel_rfl) ?_)
        (repeat (first | (go_big_quiet_want; refine gate_qload _ _ rfl ?_; refine quiet_mload1 _ _ rfl _ _ rfl 0 H _ (.int _ _) rfl rfl (by decide +kernel) ?_; simp only [Act.put, List.setIfInBounds_toArray, List.set_cons_succ, List.set_cons_zero]; go_big_quiet_on) | go_big_quiet_step (fail)))
        (refine wpQuiet_nil ?_)
        intro _ hw9
        obtain ⟨⟨dq, osq⟩, hw8⟩ := hw9
        subst hw8
        replace H := H.next (below_regrown _ dq osq)
        rw [HN0.out, HK0.out]
        go_wp2_with (first | (refine gate_load _ _ rfl ?_; refine wpList_mloadA rfl 28 _ rfl _ rfl 1 H (cpC c) rfl (by decide +kernel) (by kernel_rfl) ?_) | (refine gate_load _ _ rfl ?_; refine wpList_mloadA rfl 28 _ rfl _ rfl 5 H (cpC c) rfl (by decide +kernel) (by kernel_rfl) ?_) | (refine gate_load _ _ rfl ?_; refine wpList_mloadA rfl 28 _ rfl _ rfl 0 H (cpC a) rfl (by decide +kernel) (by kernel_rfl) ?_) | (go_at_call 7; (with_reducible refine (QR1.out _ (GG.out.mem H) (HR2.out.below H.toBelow)).mono ?_); rintro e w2 ⟨g1, cap3, cs1, p1, cp1, blk1, rfl, hG1, hT1, hM⟩; replace H := (Mem.join H hM).perm (List.Perm.cons _ List.perm_append_comm); clear hM; simp only [List.cons_append, List.nil_append] at H) | (go_at_call 7; (with_reducible refine (QR2.out _ _ _ (GG.out.mem H) (rd_row (i := 1) H rfl hG1 HX.out)).mono ?_); rintro e w2 ⟨g2, cap4, cs2, p2, cp2, blk2, rfl, hG2, hT2, hM⟩; replace H := (Mem.join H hM).perm (List.Perm.cons _ List.perm_append_comm); clear hM; simp only [List.cons_append, List.nil_append] at H) | (go_at_call 7; (with_reducible refine (QR3.out _ (GG.out.mem H) (HR2.out.below H.toBelow)).mono ?_); rintro e w2 ⟨g3, cap5, cs3, p3, cp3, blk3, rfl, hG3, hT3, hM⟩; replace H := (Mem.join H hM).perm (List.Perm.cons _ List.perm_append_comm); clear hM; simp only [List.cons_append, List.nil_append] at H) | (refine wpList_mnew rfl _ rfl H _ HZC.out ?_; clear H; (first | (clear M9; intro R9 w1 _ H) | (clear M13; intro R13 w1 _ H) | (clear M17; intro R17 w1 _ H))) | (refine gate_store _ _ _ rfl ?_; refine wpList_mstoreA rfl 28 _ _ rfl rfl _ rfl 0 H (cpC _) _ rfl rfl (by kernel_rfl) (by kernel_rfl) (by kernel_rfl) ?_; clear H; intro w1 H; simp only [List.set_cons_zero, List.set_cons_succ] at H) | (refine gate_load _ _ rfl ?_; refine wpList_mload1 rfl _ _ rfl _ _ rfl 4 H _ (.bool false) rfl HJ.out (by decide +kernel) ?_) | (refine gate_load _ _ rfl ?_; refine wpList_mloadA rfl 28 _ rfl _ rfl 2 H (cpC b) rfl (by decide +kernel) (by kernel_rfl) ?_) | (refine gate_load _ _ rfl ?_; refine wpList_mloadA rfl 28 _ rfl _ rfl 0 H (cpC b) rfl (by decide +kernel) (by kernel_rfl) ?_) | (refine gate_fbin .eql 28 _ _ _ rfl ?_; refine wpList_fbin rfl .eql 28 _ _ _ rfl (.agg (cpC b)) (.agg (cpC b)) _ rfl rfl (fun w => cp_eqlG _ _ _ w) ?_) | (go_at_call 9; (with_reducible refine (QSM.out _ _ _ (rd_row (i := 3) H rfl hG2 HY.out) (rd_row (i := 1) H rfl hG3 HY.out)).mono ?_); rintro e w2 ⟨rfl, hB⟩; replace H := H.next hB; clear hB) | (refine wpList_bsl rfl rfl H ?_; clear H; intro B v0 w1 H hnB hlt hsz hO) | (refine wpList_apd rfl _ _ rfl H B hnB hlt hsz _ _ _ _ rfl rfl hO hT1 (fun x hx => by simp only [List.mem_cons, List.mem_append, hx, true_or, or_true]) (by first | omega | (simp only [List.length_nil]; omega)) ?_; clear H hsz hO; intro v1 w1 H hsz hO; (try rw [List.nil_append] at hO)) | (refine wpList_apd rfl _ _ rfl H B hnB hlt hsz _ _ _ _ rfl rfl hO hT2 (fun x hx => by simp only [List.mem_cons, List.mem_append, hx, true_or, or_true]) (by first | omega | (simp only [List.length_nil]; omega)) ?_; clear H hsz hO; intro v1 w1 H hsz hO; (try rw [List.nil_append] at hO)) | (go_at_call 10; (with_reducible refine (QB.out _ _ _ (rdb_own hO) (rdb_at H hT3 (fun x hx => by simp only [List.mem_cons, List.mem_append, hx, true_or, or_true]))).mono ?_); rintro e w2 ⟨rfl, hB⟩; replace H := H.next hB; clear hB) | (go_at_call 8; (with_reducible refine (QW.out _ (GG.out.mem H)).mono ?_); rintro e w2 ⟨rfl, hB⟩; replace H := H.next hB; clear hB) | fail)
        go_ret
        exact ⟨rfl, H.toBelow⟩
      · replace h0 : ¬ 0 < L1.length := by omega
        have HJ := Lib.hid (cp_jam a true hj)
        clear hj
        have M9 : True := trivial
        have M13 : True := trivial
        have M17 : True := trivial
        go_enter Tryz.func3, Tryz.ntmps3
        go_wp2_with (first | (refine wpList_mboxA rfl _ _ rfl H (cpC c) rfl ?_; clear H; intro Rc w1 _ H) | (refine wpList_mboxA rfl _ _ rfl H #[.int .i64 qn, .int .i64 qk, .int .u8 qv, .bool i, .bool n, .bool r] rfl ?_; clear H; intro Rq w1 _ H) | (go_at_call 6; (with_reducible refine (QF.out _ (HR.out.below H.toBelow)).mono ?_); rintro e w2 ⟨rfl, rfl⟩) | fail)
        (try simp only [Act.put, List.setIfInBounds_toArray, List.set_cons_succ, List.set_cons_zero])
        (refine wp_region_quiet_below (by kernel_rfl) (by kernel_rfl) ?_)
        (repeat (first | (go_big_quiet_want; refine gate_qload _ _ rfl ?_; refine quiet_mload1 _ _ rfl _ _ rfl 0 H _ (.int _ _) rfl rfl (by decide +kernel) ?_; simp only [Act.put, List.setIfInBounds_toArray, List.set_cons_succ, List.set_cons_zero]; go_big_quiet_on) | go_big_quiet_step (fail)))
        (refine wpQuiet_nil ?_)
        intro _ hw9
        obtain ⟨⟨dq, osq⟩, hw8⟩ := hw9
        subst hw8
        replace H := H.next (below_regrown _ dq osq)
        rw [HN0.out, HK0.out]
        go_wp2_with (first | (refine gate_load _ _ rfl ?_; refine wpList_mloadA rfl 28 _ rfl _ rfl 1 H (cpC c) rfl (by decide +kernel) (by kernel_rfl) ?_) | (refine gate_load _ _ rfl ?_; refine wpList_mloadA rfl 28 _ rfl _ rfl 5 H (cpC c) rfl (by decide +kernel) (by kernel_rfl) ?_) | (refine gate_load _ _ rfl ?_; refine wpList_mloadA rfl 28 _ rfl _ rfl 0 H (cpC a) rfl (by decide +kernel) (by kernel_rfl) ?_) | (go_at_call 7; (with_reducible refine (QR1.out _ (GG.out.mem H) (HR2.out.below H.toBelow)).mono ?_); rintro e w2 ⟨g1, cap3, cs1, p1, cp1, blk1, rfl, hG1, hT1, hM⟩; replace H := (Mem.join H hM).perm (List.Perm.cons _ List.perm_append_comm); clear hM; simp only [List.cons_append, List.nil_append] at H) | (go_at_call 7; (with_reducible refine (QR2.out _ _ _ (GG.out.mem H) (rd_row (i := 1) H rfl hG1 HX.out)).mono ?_); rintro e w2 ⟨g2, cap4, cs2, p2, cp2, blk2, rfl, hG2, hT2, hM⟩; replace H := (Mem.join H hM).perm (List.Perm.cons _ List.perm_append_comm); clear hM; simp only [List.cons_append, List.nil_append] at H) | (go_at_call 7; (with_reducible refine (QR3.out _ (GG.out.mem H) (HR2.out.below H.toBelow)).mono ?_); rintro e w2 ⟨g3, cap5, cs3, p3, cp3, blk3, rfl, hG3, hT3, hM⟩; replace H := (Mem.join H hM).perm (List.Perm.cons _ List.perm_append_comm); clear hM; simp only [List.cons_append, List.nil_append] at H) | (refine wpList_mnew rfl _ rfl H _ HZC.out ?_; clear H; (first | (clear M9; intro R9 w1 _ H) | (clear M13; intro R13 w1 _ H) | (clear M17; intro R17 w1 _ H))) | (refine gate_store _ _ _ rfl ?_; refine wpList_mstoreA rfl 28 _ _ rfl rfl _ rfl 0 H (cpC _) _ rfl rfl (by kernel_rfl) (by kernel_rfl) (by kernel_rfl) ?_; clear H; intro w1 H; simp only [List.set_cons_zero, List.set_cons_succ] at H) | (refine gate_load _ _ rfl ?_; refine wpList_mload1 rfl _ _ rfl _ _ rfl 4 H _ (.bool true) rfl HJ.out (by decide +kernel) ?_) | (refine gate_load _ _ rfl ?_; refine wpList_mloadA rfl 28 _ rfl _ rfl 2 H (cpC b) rfl (by decide +kernel) (by kernel_rfl) ?_) | (refine gate_load _ _ rfl ?_; refine wpList_mloadA rfl 28 _ rfl _ rfl 0 H (cpC b) rfl (by decide +kernel) (by kernel_rfl) ?_) | (refine gate_fbin .eql 28 _ _ _ rfl ?_; refine wpList_fbin rfl .eql 28 _ _ _ rfl (.agg (cpC b)) (.agg (cpC b)) _ rfl rfl (fun w => cp_eqlG _ _ _ w) ?_) | (go_at_call 9; (with_reducible refine (QSM.out _ _ _ (rd_row (i := 3) H rfl hG2 HY.out) (rd_row (i := 1) H rfl hG3 HY.out)).mono ?_); rintro e w2 ⟨rfl, hB⟩; replace H := H.next hB; clear hB) | (refine wpList_bsl rfl rfl H ?_; clear H; intro B v0 w1 H hnB hlt hsz hO) | (refine wpList_apd rfl _ _ rfl H B hnB hlt hsz _ _ _ _ rfl rfl hO hT1 (fun x hx => by simp only [List.mem_cons, List.mem_append, hx, true_or, or_true]) (by first | omega | (simp only [List.length_nil]; omega)) ?_; clear H hsz hO; intro v1 w1 H hsz hO; (try rw [List.nil_append] at hO)) | (refine wpList_apd rfl _ _ rfl H B hnB hlt hsz _ _ _ _ rfl rfl hO hT2 (fun x hx => by simp only [List.mem_cons, List.mem_append, hx, true_or, or_true]) (by first | omega | (simp only [List.length_nil]; omega)) ?_; clear H hsz hO; intro v1 w1 H hsz hO; (try rw [List.nil_append] at hO)) | (go_at_call 10; (with_reducible refine (QB.out _ _ _ (rdb_own hO) (rdb_at H hT3 (fun x hx => by simp only [List.mem_cons, List.mem_append, hx, true_or, or_true]))).mono ?_); rintro e w2 ⟨rfl, hB⟩; replace H := H.next hB; clear hB) | (go_at_call 8; (with_reducible refine (QW.out _ (GG.out.mem H)).mono ?_); rintro e w2 ⟨rfl, hB⟩; replace H := H.next hB; clear hB) | fail)
        go_ret
        exact ⟨rfl, H.toBelow⟩
end Go.Proofs.YtcgnnbgknaamdaaGreatDoor
