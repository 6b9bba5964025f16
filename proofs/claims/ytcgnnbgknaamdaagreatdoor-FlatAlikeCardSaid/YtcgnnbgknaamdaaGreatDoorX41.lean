/-
  Several texts in one: what is read and written by the functions on the way to the statements. Conditions stand in each theorem.
-/
import Derived.Test.YtcgnnbgknaamdaaGreatDoorX38
import Derived.Test.YtcgnnbgknaamdaaGreatDoorX39
import Derived.Test.YtcgnnbgknaamdaaGreatDoorX40
namespace Go.Proofs.YtcgnnbgknaamdaaGreatDoor
open Go.RowKit
set_option linter.unusedSimpArgs false
set_option linter.unusedVariables false
set_option maxRecDepth 20000

def blkOf : Option Addr → Nat
  | some a => a.block
  | none => 0
theorem wp_appB {P : Program} {Q : Exit → Act → World → Prop} {w : World} {o : Oper} {a : Act} {K : Act → World → Prop} {s x t1 t2 : Nat} (ho : o.op = .call { callee := .builtin .append, args := #[.tmp s, .tmp x], argTypes := #[t1, t2] }) {V X : Value} (hs : a.tmps.getD s undef = V) (hx : a.tmps.getD x undef = X) {v' : Value} {w' : World}
    (hrun : (Builtin.append_ #[t1, t2] o.type #[V, X]).run P w = .ok v' w') (h : K (a.put o.dst v') w') : o.wp P a w K Q := by
  have hs' : a.eval (.tmp s) = V := hs
  have hx' : a.eval (.tmp x) = X := hx
  unfold Oper.wp
  simp [execOp, ho, resolve, invoke, builtin, hs', hx', hrun, Result.andThen]
  exact h
theorem wp_aloB {P : Program} {Q : Exit → Act → World → Prop} {w : World} {o : Oper} {a : Act} {K : Act → World → Prop} (T : TypeId) (ho : o.op = .alloc T) (cs : Array Value)
    (hz : ∀ w : World, (Instr.alloc T true (.tuple #[])).run P w = .ok (.pointer (some ⟨w.heap.size, 0, none⟩)) (w.alloc (.cells cs T)))
    (h : K (a.put o.dst (.pointer (some ⟨w.heap.size, 0, none⟩))) (w.alloc (.cells cs T))) : o.wp P a w K Q := by
  unfold Oper.wp execOp
  simp only [ho, Sem.run_bind, hz, Result.andThen_ok, Sem.run_pure]
  exact h
/-- One cell of the other memory; and so many of them. -/
def ot (v : Int) (p : Int × Bool) : Int × Bool := if p.2 then ((p.1 + v) % 256, p.2) else p
def mixL (v : Int) : List (Int × Bool) → Nat → List (Int × Bool)
  | [], _ => []
  | p :: l, 0 => p :: l
  | p :: l, j + 1 => ot v p :: mixL v l j
theorem mix_zero (v : Int) (l : List (Int × Bool)) : mixL v l 0 = l := by cases l <;> rfl
theorem mix_len (v : Int) : ∀ (l : List (Int × Bool)) (j : Nat), (mixL v l j).length = l.length
  | [], _ => rfl
  | _ :: _, 0 => rfl
  | p :: l, j + 1 => congrArg (· + 1) (mix_len v l j)
theorem mix_at (v : Int) : ∀ (l : List (Int × Bool)) (j : Nat), j < l.length → nth (mixL v l j) j = nth l j
  | [], _, h => by cases h
  | _ :: _, 0, _ => rfl
  | p :: l, j + 1, h => mix_at v l j (Nat.lt_of_succ_lt_succ h)
theorem mix_succ (v : Int) : ∀ (l : List (Int × Bool)) (j : Nat), j < l.length → mixL v l (j + 1) = (mixL v l j).set j (ot v (nth l j))
  | [], _, h => by cases h
  | p :: l, 0, _ => by show ot v p :: mixL v l 0 = ot v p :: l; rw [mix_zero]
  | p :: l, j + 1, h => congrArg (ot v p :: ·) (mix_succ v l j (Nat.lt_of_succ_lt_succ h))
theorem mix_same (v : Int) : ∀ (l : List (Int × Bool)) (j : Nat), (nth l j).2 = false → mixL v l (j + 1) = mixL v l j
  | [], _, _ => rfl
  | p :: l, 0, h => by
    have h : p.2 = false := h
    show ot v p :: mixL v l 0 = p :: l
    rw [mix_zero, ot, h]
    rfl
  | p :: l, j + 1, h => congrArg (ot v p :: ·) (mix_same v l j h)
theorem mix_end (v : Int) : ∀ (l : List (Int × Bool)), mixL v l l.length = otherL v l
  | [] => rfl
  | p :: l => congrArg (ot v p :: ·) (mix_end v l)
theorem row_set1 {cs : Array Value} {cap : Nat} {l : List (Int × Bool)} (h : RowG bcl 2 cs cap l) (k : Nat) (v : Int) (hk : k < l.length) : RowG bcl 2 (splice cs.toList (k * 2) [.int .u8 v]).toArray cap (l.set k (v, (nth l k).2)) := by
  have h0 := row_set h k v (nth l k).2 hk
  have h1 := (row_get h k hk).2
  have hlt : k * 2 + 1 < cs.toList.length := by rw [Array.length_toList, h.size]; have := h.le; omega
  have e : cs.toList.drop (k * 2 + 1) = .bool (nth l k).2 :: cs.toList.drop (k * 2 + 2) := by
    rw [List.drop_eq_getElem_cons hlt]
    congr 1
    rw [Array.getElem_toList]
    exact (Array.getElem?_eq_some_iff.1 h1).2
  have e2 : splice cs.toList (k * 2) [.int .u8 v] = splice cs.toList (k * 2) [.int .u8 v, .bool (nth l k).2] := by
    unfold splice
    show _ ++ [_] ++ cs.toList.drop (k * 2 + 1) = _ ++ [_, _] ++ cs.toList.drop (k * 2 + 2)
    rw [e]
    simp
  rw [e2]
  exact h0
theorem if_t {b : Bool} {x y : Int} (h : b = true) : (if b then x else y) = x := by rw [h]; rfl
theorem if_f {b : Bool} {x y : Int} (h : b = false) : (if b then x else y) = y := by rw [h]; rfl
theorem cp_ax {c : Cp} {a a' x x' : Int} (h : a = a') (g : x = x') : ({ c with av := a, xv := x } : Cp) = { c with av := a', xv := x' } := by rw [h, g]
theorem l0 {d d' : Cp} {R : Nat} {l : List (Nat × Array Value)} (h : d = d') : (R, cpC d') :: l = (R, cpC d) :: l := by rw [h]
theorem Mem.eqv {n : Nat} {X : List Nat} {w0 w : World} {l l' : List (Nat × Array Value)} (h : Mem n X w0 w l) (e : l = l') : Mem n X w0 w l' := e ▸ h
theorem fit_start {c : Cp} (F : Fit c) (v : Int) (v0 : 0 ≤ v) (v1 : v < 256) : Fit { c with av := if c.ab then bits .xor .u8 c.av v else c.av, xv := if c.xb then (c.xv + v) % 256 else c.xv } := by
  have hx : 0 ≤ bits .xor .u8 c.av v ∧ bits .xor .u8 c.av v < 256 := xor_le c.av v F.a0 F.a1 v0 v1
  refine { F with a0 := ?_, a1 := ?_, x0 := ?_, x1 := ?_ }
  · show 0 ≤ if c.ab then _ else _
    split
    · exact hx.1
    · exact F.a0
  · show (if c.ab then _ else _) < (256 : Int)
    split
    · exact hx.2
    · exact F.a1
  · show 0 ≤ if c.xb then _ else _
    split
    · exact Int.emod_nonneg _ (by decide)
    · exact F.x0
  · show (if c.xb then _ else _) < (256 : Int)
    split
    · exact Int.emod_lt_of_pos _ (by decide)
    · exact F.x1
theorem mod60 (q : Int) : ∃ n : Nat, n < 60 ∧ (wrap64 ((q.tmod 60) + 60)).tmod 60 = (n : Int) := by
  have h1 : -60 < q.tmod 60 := Int.lt_tmod_of_pos _ (by decide)
  have h2 : q.tmod 60 < 60 := Int.tmod_lt_of_pos _ (by decide)
  have h4 : wrap64 ((q.tmod 60) + 60) = (q.tmod 60) + 60 := by
    generalize q.tmod 60 = z at *
    unfold wrap64
    omega
  have h3 : (((q.tmod 60) + 60).tmod 60) = ((q.tmod 60) + 60) % 60 := Int.tmod_eq_emod_of_nonneg (by omega)
  exact ⟨(((q.tmod 60) + 60) % 60).toNat, by omega, by rw [h4, h3]; omega⟩
theorem rdk {n : Nat} {X : List Nat} {w0 w : World} {L : List (Nat × Array Value)} {g cap N : Nat} {cs : Array Value} {l : List (Int × Bool)} (H : Mem n X w0 w L) (hm : (g, cs) ∈ L) (h : RowG bcl 2 cs cap l) (hN : l.length = N) : Rd w (.slice (some ⟨g, 0, none⟩) N cap) l := by
  obtain ⟨i, hi⟩ := List.mem_iff_getElem?.1 hm
  exact rd_row H hi h hN
theorem run_ixa (b N cap j : Nat) (hj : j < N) (w : World) : (Instr.indexAt 29 (.slice (some ⟨b, 0, none⟩) N cap) (.int .i64 (j : Int))).run Tryz.prog w = .ok (.pointer (some ⟨b, j * 2, none⟩)) w := by
  have u := Tryz.underlying29
  have hz : (Tryz.prog.info? 23).map (·.size) = some 2 := by kernel_rfl
  go_simp
theorem wp_ixa {Q : Exit → Act → World → Prop} {w : World} {o : Oper} {a : Act} {K : Act → World → Prop} {s x : Nat} (ho : o.op = .indexAddr 29 (.tmp s) (.tmp x)) (b N cap j : Nat) (hj : j < N) (hs : a.tmps.getD s undef = .slice (some ⟨b, 0, none⟩) N cap) (hx : a.tmps.getD x undef = .int .i64 (j : Int))
    (hk : K (a.put o.dst (.pointer (some ⟨b, j * 2, none⟩))) w) : o.wp Tryz.prog a w K Q := by
  have hs' : a.eval (.tmp s) = _ := hs
  have hx' : a.eval (.tmp x) = _ := hx
  unfold Oper.wp
  simp only [execOp, ho, hs', hx', Sem.run_bind, run_ixa b N cap j hj, Result.andThen_ok, Sem.run_pure]
  exact hk
attribute [local irreducible] wpList
set_option maxHeartbeats 8000000 in
theorem falike_yes (c : Cp) (sv : Value) (l : List (Int × Bool)) (qn qk qv : Int) (i n r : Bool) (W : World) (G : GlobO W) (F : Fit c) (hr : Rd W sv l) (om : okM l) (q0 : 0 ≤ qv) (q1 : qv < 256) (ok : okB c = true) (hmN : memB (l.take 1024).length = true) :
    Calls Tryz.prog 4 #[.agg (cpC c), sv, .agg #[.int .i64 qn, .int .i64 qk, .int .u8 qv, .bool i, .bool n, .bool r]] W fun e w' => e = .returned (.bool true) ∧ Below W.heap.size W w' := by
  have HR := Lib.hid hr
  have hr2 := rd_cutF hr
  have HR2' := hr2
  obtain ⟨a2, cap2, e2, hcp, hmx, hc2⟩ := hr2
  have om2 := okM_take om 1024
  have hN4 : (l.take 1024).length ≤ 1024 := by rw [List.length_take]; omega
  have QF0 := fun wr h => few_cut sv l wr h
  rw [e2] at QF0 HR2'
  obtain ⟨N, hN⟩ : ∃ N, (l.take 1024).length = N := ⟨_, rfl⟩
  rw [hN] at QF0 HR2' hcp hN4
  generalize l.take 1024 = l2 at *
  have HC2 := Lib.hid hc2
  have HR2 := Lib.hid HR2'
  have QF := Lib.hid QF0
  have QW := Lib.hid (fun wr g => awake11_ct wr g)
  have GG := Lib.hid G
  have HZC := Lib.hid alloc_cpu
  have HB := Lib.hid alloc_bus
  have H := Mem.start W
  clear hc2 HR2' QF0 hr e2 G
  obtain ⟨kn, hkn, hn60⟩ := mod60 qn
  have HINI : Hid (∀ d0 : Cp, d0 = { c with av := if c.ab then bits .xor .u8 c.av qv else c.av, xv := if c.xb then (c.xv + qv) % 256 else c.xv } → Hid (c.ctl = d0.ctl ∧ (c.ctl = false → ∃ z, (z = true → lateB c.op c.t = true) ∧ AC z c d0 ∧ AL l2 (otherL qv l2)) ∧ (Fit c ∧ Fit d0 ∧ okB c = true ∧ okB d0 = true) ∧ okM l2 ∧ okM (otherL qv l2) ∧ l2.length = N ∧ (otherL qv l2).length = N)) := Lib.hid (by
    rintro d0 rfl
    exact Lib.hid ⟨rfl, fun _ => ⟨false, (fun e => by cases e), ac_start c _ _, al_other qv l2⟩, ⟨F, fit_start F qv q0 q1, ok, ok⟩, om2, ok_other qv om2, hN, by unfold otherL; rw [List.length_map]; exact hN⟩)
  have HN := Lib.hid hN
  rw [hN] at hmN
  have hN0 : 256 ≤ N := by
    have hm' := hmN
    simp only [memB, Bool.and_eq_true, decide_eq_true_eq] at hm'
    exact hm'.1.1
  have QM := Lib.hid (fun wr => fcheck_ct (.slice a2 N cap2) N wr ⟨_, _, rfl⟩ (by omega))
  have QC := Lib.hid (fun wr (g : GlobO wr) => kcheck_ct c wr g F.p0 F.p1 F.q0 F.q1 F.op0 F.op1)
  simp only [hmN, if_true] at QM
  rw [ok, show errI true = 0 from rfl] at QC
  obtain ⟨ib, hib, _, _, _⟩ := info_parts info_byte
  go_enter Tryz.func4, Tryz.ntmps4
  go_wp2_with (first | (refine wpList_mboxA rfl _ _ rfl H (cpC c) rfl ?_; clear H; intro Rc w1 _ H) | (refine wpList_mboxA rfl _ _ rfl H #[.int .i64 qn, .int .i64 qk, .int .u8 qv, .bool i, .bool n, .bool r] rfl ?_; clear H; intro Rq w1 _ H) | (go_at_call 6; (with_reducible refine (QF.out _ (HR.out.below H.toBelow)).mono ?_); rintro e w2 ⟨rfl, rfl⟩) | (refine gate_load _ _ rfl ?_; refine wpList_mloadA rfl 28 _ rfl _ rfl 1 H (cpC c) rfl (by decide +kernel) (by kernel_rfl) ?_) | (go_at_call 11; (with_reducible refine (QM.out _).mono ?_); rintro e w2 ⟨rfl, hB⟩; replace H := H.next hB; clear hB) | (go_at_call 12; (with_reducible refine (QC.out _ (GG.out.mem H)).mono ?_); rintro e w2 ⟨rfl, hB⟩; replace H := H.next hB; clear hB) | fail)
  (try simp only [Act.put, List.setIfInBounds_toArray, List.set_cons_succ, List.set_cons_zero])
  refine wp_region_y ((none, 0, []) : Option Addr × Nat × List (Nat × Array Value)) (by kernel_rfl) (by kernel_rfl) [(some 30, fun _ => .agg (cpC c)), (some 31, fun R : Option Addr × Nat × List (Nat × Array Value) => .slice R.1 0 0), (some 32, fun _ => .slice a2 N cap2), (some 33, fun R : Option Addr × Nat × List (Nat × Array Value) => .slice R.1 N R.2.1), (some 7, fun R : Option Addr × Nat × List (Nat × Array Value) => .pointer R.1), (none, fun _ => undef), (some 8, fun R : Option Addr × Nat × List (Nat × Array Value) => .slice R.1 N R.2.1)] (fun D bq wv => (D 1 = true → ∃ B, (bq 1).1 = some ⟨B, 0, none⟩) ∧ (D 6 = true → bq 6 = bq 3) ∧ (D 3 = true → ∃ g cs cp, bq 3 = (some ⟨g, 0, none⟩, cp, [(g, cs)]) ∧ RowG bcl 2 cs cp l2) ∧ (D 4 = true → ∃ R, bq 4 = (some ⟨R, 0, none⟩, 0, [])) ∧ Mem W.heap.size [] W wv (cond (D 4) ((blkOf (bq 4).1, cond (D 5) (cpC c) (cpC cp0)) :: cond (D 3) ((bq 3).2.2 ++ [(Rq, #[.int .i64 qn, .int .i64 qk, .int .u8 qv, .bool i, .bool n, .bool r]), (Rc, cpC c)]) [(Rq, #[.int .i64 qn, .int .i64 qk, .int .u8 qv, .bool i, .bool n, .bool r]), (Rc, cpC c)]) (cond (D 3) ((bq 3).2.2 ++ [(Rq, #[.int .i64 qn, .int .i64 qk, .int .u8 qv, .bool i, .bool n, .bool r]), (Rc, cpC c)]) [(Rq, #[.int .i64 qn, .int .i64 qk, .int .u8 qv, .bool i, .bool n, .bool r]), (Rc, cpC c)]))) 174 (by rfl) (by rfl) (by rfl) ⟨(fun h => by cases h), (fun h => by cases h), (fun h => by cases h), (fun h => by cases h), H.drew⟩ ⟨⟨rfl, ?p0⟩, ⟨rfl, ?p1⟩, ⟨rfl, ?p2⟩, ⟨rfl, ?p3⟩, ⟨rfl, ?p4⟩, ⟨rfl, ?p5⟩, ⟨rfl, ?p6⟩, trivial⟩ ?_
  case p0 =>
    intro D bq a' w' hk hc he hl hW
    (try dsimp only at hW)
    obtain ⟨r1, r6, r3, r4, hM⟩ := hW
    have f3 : a'.tmps.getD 3 undef = .pointer (some ⟨Rc, 0, none⟩) := (hl 3).trans ((vsy_no rfl).trans rfl)
    have hx : (Rc, cpC c) ∈ (cond (D 4) ((blkOf (bq 4).1, cond (D 5) (cpC c) (cpC cp0)) :: cond (D 3) ((bq 3).2.2 ++ [(Rq, #[.int .i64 qn, .int .i64 qk, .int .u8 qv, .bool i, .bool n, .bool r]), (Rc, cpC c)]) [(Rq, #[.int .i64 qn, .int .i64 qk, .int .u8 qv, .bool i, .bool n, .bool r]), (Rc, cpC c)]) (cond (D 3) ((bq 3).2.2 ++ [(Rq, #[.int .i64 qn, .int .i64 qk, .int .u8 qv, .bool i, .bool n, .bool r]), (Rc, cpC c)]) [(Rq, #[.int .i64 qn, .int .i64 qk, .int .u8 qv, .bool i, .bool n, .bool r]), (Rc, cpC c)])) := by cases D 4 <;> cases D 3 <;> simp
    obtain ⟨q, hq⟩ := List.getElem?_of_mem hx
    exact wp_sloadA _ _ rfl Rc f3 q hM (cpC c) hq (by decide +kernel) (by kernel_rfl) ⟨(none, 0, []), rfl, r1, r6, r3, r4, hM⟩
  case p1 =>
    intro D bq a' w' hk hc he hl hW
    (try dsimp only at hW)
    obtain ⟨r1, r6, r3, r4, hM⟩ := hW
    exact wp_bslB 29 23 rfl Tryz.underlying29 ib hib ⟨(some ⟨w'.heap.size, 0, none⟩, 0, []), rfl, (fun _ => ⟨_, rfl⟩), r6, r3, r4, (hM.new #[] 23).sub (List.Sublist.cons _ (List.Sublist.refl _))⟩
  case p2 =>
    intro D bq a' w' hk hc he hl hW
    (try dsimp only at hW)
    obtain ⟨r1, r6, r3, r4, hM⟩ := hW
    have f1 : a'.tmps.getD 1 undef = .slice a2 N cap2 := (hl 1).trans ((vsy_no rfl).trans rfl)
    exact wp_val (.slice a2 N cap2) (by simp only [execOp, Act.eval]; rw [f1]; rfl) ⟨(none, 0, []), rfl, r1, r6, r3, r4, hM⟩
  case p3 =>
    intro D bq a' w' hk hc he hl hW
    (try dsimp only at hW)
    obtain ⟨r1, r6, r3, r4, hM⟩ := hW
    obtain ⟨B, hB⟩ := r1 (he ⟨1, .data⟩ (by simp) rfl)
    have e1 : a'.tmps.getD 31 undef = .slice (some ⟨B, 0, none⟩) 0 0 := (hl 31).trans ((vsy_at (f := fun R : Option Addr × Nat × List (Nat × Array Value) => .slice R.1 0 0) rfl (he ⟨1, .data⟩ (by simp) rfl) rfl).trans (by rw [hB]))
    have e2 : a'.tmps.getD 32 undef = .slice a2 N cap2 := (hl 32).trans (vsy_at (f := fun _ => .slice a2 N cap2) rfl (he ⟨2, .data⟩ (by simp) rfl) rfl)
    have n6 : D 6 = false := hc.no .data hk rfl (by simp) rfl
    obtain ⟨cs, cp, hrun, hG⟩ := run_apz w' B _ a2 cap2 l2 N HN.out (by omega) (by omega) (HR2.out.below hM.toBelow)
    simp only [hk, cond_false] at hM
    refine wp_appB rfl e1 e2 hrun ⟨(some ⟨w'.heap.size, 0, none⟩, cp, [(w'.heap.size, cs)]), rfl, r1, (fun h => by rw [show doneB D 3 6 = D 6 from rfl, n6] at h; cases h), (fun _ => ⟨_, cs, cp, rfl, hG⟩), r4, ?_⟩
    have hM2 : Mem W.heap.size [] W (w'.drew.alloc (.cells cs 23)) ((w'.heap.size, cs) :: cond (D 4) ((blkOf (bq 4).1, cond (D 5) (cpC c) (cpC cp0)) :: [(Rq, #[.int .i64 qn, .int .i64 qk, .int .u8 qv, .bool i, .bool n, .bool r]), (Rc, cpC c)]) [(Rq, #[.int .i64 qn, .int .i64 qk, .int .u8 qv, .bool i, .bool n, .bool r]), (Rc, cpC c)]) := (hM.next (Below.refl _ _).drew).new cs 23
    cases h4 : D 4 with
    | true =>
      rw [h4] at hM2
      show Mem _ _ _ _ (cond (D 4) _ _)
      rw [h4]
      exact hM2.perm (List.Perm.swap _ _ _)
    | false =>
      rw [h4] at hM2
      show Mem _ _ _ _ (cond (D 4) _ _)
      rw [h4]
      exact hM2
  case p4 =>
    intro D bq a' w' hk hc he hl hW
    (try dsimp only at hW)
    obtain ⟨r1, r6, r3, r4, hM⟩ := hW
    have n5 : D 5 = false := hc.no .data hk rfl (by simp) rfl
    rw [hk, n5] at hM
    refine wp_aloB 28 rfl (cpC cp0) HZC.out ⟨(some ⟨w'.heap.size, 0, none⟩, 0, []), rfl, r1, r6, r3, (fun _ => ⟨_, rfl⟩), ?_⟩
    show Mem _ _ _ _ (cond true ((w'.heap.size, cond (D 5) _ _) :: _) _)
    rw [n5]
    exact hM.new (cpC cp0) 28
  case p5 =>
    intro D bq a' w' hk hc he hl hW
    (try dsimp only at hW)
    obtain ⟨r1, r6, r3, r4, hM⟩ := hW
    have d4 : D 4 = true := he ⟨4, .data⟩ (by simp) rfl
    obtain ⟨R, hR⟩ := r4 d4
    have f7 : a'.tmps.getD 7 undef = .pointer (some ⟨R, 0, none⟩) := (hl 7).trans ((vsy_at (f := fun R : Option Addr × Nat × List (Nat × Array Value) => .pointer R.1) rfl d4 rfl).trans (by rw [hR]))
    have e0 : a'.tmps.getD 30 undef = .agg (cpC c) := (hl 30).trans (vsy_at (f := fun _ => .agg (cpC c)) rfl (he ⟨0, .data⟩ (by simp) rfl) rfl)
    rw [d4, hk] at hM
    refine wp_sstoreA _ _ _ rfl rfl R f7 0 hM (cpC cp0) (cpC c) (by rw [hR]; rfl) e0 (by kernel_rfl) (by kernel_rfl) (by kernel_rfl) fun w1 hM1 => ⟨(none, 0, []), rfl, r1, r6, r3, r4, ?_⟩
    show Mem _ _ _ _ (cond (D 4) ((blkOf (bq 4).1, cond true _ _) :: _) _)
    rw [d4, hR]
    exact hM1
  case p6 =>
    intro D bq a' w' hk hc he hl hW
    (try dsimp only at hW)
    obtain ⟨r1, r6, r3, r4, hM⟩ := hW
    have d3 : D 3 = true := he ⟨3, .data⟩ (by simp) rfl
    have e3 : a'.tmps.getD 33 undef = .slice (bq 3).1 N (bq 3).2.1 := (hl 33).trans (vsy_at (f := fun R : Option Addr × Nat × List (Nat × Array Value) => .slice R.1 N R.2.1) rfl d3 rfl)
    exact wp_val (.slice (bq 3).1 N (bq 3).2.1) (by simp only [execOp, Act.eval]; rw [e3]; rfl) ⟨bq 3, rfl, r1, (fun _ => rfl), r3, r4, hM⟩
  intro D bq wv hD hW
  (try dsimp only at hW)
  obtain ⟨_, r6, r3, r4, hM⟩ := hW
  obtain ⟨gk, csk, capk, h3, hGk⟩ := r3 (hD 3 (by decide))
  obtain ⟨R7, h4⟩ := r4 (hD 4 (by decide))
  have h6 := (r6 (hD 6 (by decide))).trans h3
  rw [hD 3 (by decide), hD 4 (by decide), hD 5 (by decide), h3, h4] at hM
  clear H hD r6 r3 r4
  have H : Mem W.heap.size [] W wv [(R7, cpC c), (gk, csk), (Rq, #[.int .i64 qn, .int .i64 qk, .int .u8 qv, .bool i, .bool n, .bool r]), (Rc, cpC c)] := hM
  clear hM
  simp only [putAll, vsYf, Nat.reduceAdd, List.foldl_cons, List.foldl_nil, Act.put, List.setIfInBounds_toArray, List.set_cons_succ, List.set_cons_zero]
  rw [h6, h3, h4]
  clear h6 h3 h4
  dsimp only
  generalize (bq 1).1 = b1 at *
  go_wp2_with fail
  go_loopw [9] (fun z wr => ∃ (j : Nat) (cs : Array Value), j ≤ N ∧ z = .int .i64 (j : Int) ∧ Hid (RowG bcl 2 cs capk (mixL qv l2 j)) ∧ Mem W.heap.size [] W wr [(R7, cpC c), (gk, cs), (Rq, #[.int .i64 qn, .int .i64 qk, .int .u8 qv, .bool i, .bool n, .bool r]), (Rc, cpC c)]) (fun z _ => N - (intOf z).toNat)
  case atStart => exact ⟨0, csk, Nat.zero_le _, rfl, Lib.hid (by rw [mix_zero]; exact hGk), H⟩
  case round =>
    clear H hGk
    obtain ⟨j, cs, hj, rfl, hRH, H⟩ := hrel
    have hRG := hRH.out
    have hml := mix_len qv l2 j
    rw [HN.out] at hml
    by_cases hlt : j < N
    · obtain ⟨hr1, hr2⟩ := row_get hRG j (by rw [hml]; exact hlt)
      have hjl : j < l2.length := by rw [HN.out]; exact hlt
      have mA := mix_at qv l2 j hjl
      have mS := mix_succ qv l2 j hjl
      have mE := mix_same qv l2 j
      rw [mA] at hr1 hr2
      have hset := fun v => row_set1 hRG j v (by rw [hml]; exact hlt)
      rw [mA] at hset
      have hcz : j * 2 + 1 ≤ cs.size := by have := hRG.size; have := hRG.le; omega
      obtain ⟨y0, yb, hy⟩ : ∃ y0 yb, nth l2 j = (y0, yb) := ⟨_, _, rfl⟩
      rw [hy] at hr1 hr2 mS mE hset
      dsimp only at hr1 hr2 mE hset
      have MS := Lib.hid mS
      have ME := Lib.hid mE
      have HST := Lib.hid hset
      clear mA mS mE hset hy hml
      cases yb
      · have hX := Lib.hid (show RowG bcl 2 cs capk (mixL qv l2 (j + 1)) by rw [ME.out rfl]; exact hRG)
        clear hRG ME MS HST hRH
        go_wp2_with (first | (refine gate_load _ _ rfl ?_; refine wpList_mload1 rfl _ _ rfl _ _ rfl 1 H _ (.bool _) rfl hr2 (by decide +kernel) ?_) | fail)
        go_wp2_with fail
        go_roundw
        case rel => exact ⟨j + 1, cs, by omega, by go_num, hX, H⟩
        case measure => simp [intOf]; omega
      · have hX := Lib.hid (show RowG bcl 2 ((splice cs.toList (j * 2) [.int .u8 ((y0 + qv) % 256)]).toArray) capk (mixL qv l2 (j + 1)) by rw [MS.out]; exact HST.out _)
        clear ME MS HST hRH
        go_wp2_with (first | (refine gate_load _ _ rfl ?_; refine wpList_mload1 rfl _ _ rfl _ _ rfl 1 H _ (.bool _) rfl hr2 (by decide +kernel) ?_) | fail)
        (try simp only [Act.put, List.setIfInBounds_toArray, List.set_cons_succ, List.set_cons_zero])
        refine wp_region_x (by kernel_rfl) (by kernel_rfl) [(some 45, fun _ => .slice (some ⟨gk, 0, none⟩) N capk), (some 46, fun _ => .int .i64 (j : Int)), (some 47, fun _ => .pointer (some ⟨gk, j * 2, none⟩)), (some 48, fun _ => .pointer (some ⟨gk, j * 2, none⟩)), (some 49, fun _ => .int .u8 y0), (some 50, fun _ => .pointer (some ⟨Rq, 2, none⟩)), (some 51, fun _ => .int .u8 qv), (some 52, fun _ => .int .u8 ((y0 + qv) % 256)), (some 53, fun _ => .pointer (some ⟨gk, j * 2, none⟩)), (some 54, fun _ => .pointer (some ⟨gk, j * 2, none⟩)), (none, fun _ => undef)] (fun D bq wv => Mem W.heap.size [] W wv [(R7, cpC c), (gk, cond (D 10) ((splice cs.toList (j * 2) [.int .u8 ((y0 + qv) % 256)]).toArray) cs), (Rq, #[.int .i64 qn, .int .i64 qk, .int .u8 qv, .bool i, .bool n, .bool r]), (Rc, cpC c)]) 174 (by rfl) (by rfl) (by rfl) H.drew ⟨⟨rfl, ?p0⟩, ⟨rfl, ?p1⟩, ⟨rfl, ?p2⟩, ⟨rfl, ?p3⟩, ⟨rfl, ?p4⟩, ⟨rfl, ?p5⟩, ⟨rfl, ?p6⟩, ⟨rfl, ?p7⟩, ⟨rfl, ?p8⟩, ⟨rfl, ?p9⟩, ⟨rfl, ?p10⟩, trivial⟩ ?_
        case p0 =>
          intro D bq a' w' hk hc he hl hW
          (try dsimp only at hW)
          have f8 : a'.tmps.getD 8 undef = .slice (some ⟨gk, 0, none⟩) N capk := (hl 8).trans ((vsx_no rfl).trans rfl)
          exact wp_val (.slice (some ⟨gk, 0, none⟩) N capk) (by simp only [execOp, Act.eval, List.map_toArray, List.map_cons, List.map_nil]; rw [f8]; kernel_rfl) ⟨0, rfl, hW⟩
        case p1 =>
          intro D bq a' w' hk hc he hl hW
          (try dsimp only at hW)
          have f9 : a'.tmps.getD 9 undef = .int .i64 (j : Int) := (hl 9).trans ((vsx_no rfl).trans rfl)
          exact wp_val (.int .i64 (j : Int)) (by simp only [execOp, Act.eval, List.map_toArray, List.map_cons, List.map_nil]; rw [f9]; kernel_rfl) ⟨0, rfl, hW⟩
        case p2 =>
          intro D bq a' w' hk hc he hl hW
          (try dsimp only at hW)
          have e0 : a'.tmps.getD 45 undef = .slice (some ⟨gk, 0, none⟩) N capk := (hl 45).trans (vsx_at (f := fun _ => .slice (some ⟨gk, 0, none⟩) N capk) rfl (he ⟨0, .data⟩ (by simp) rfl) rfl)
          have e1 : a'.tmps.getD 46 undef = .int .i64 (j : Int) := (hl 46).trans (vsx_at (f := fun _ => .int .i64 (j : Int)) rfl (he ⟨1, .data⟩ (by simp) rfl) rfl)
          exact wp_ixa rfl gk N capk j hlt e0 e1 ⟨0, rfl, hW⟩
        case p3 =>
          intro D bq a' w' hk hc he hl hW
          (try dsimp only at hW)
          have e2 : a'.tmps.getD 47 undef = .pointer (some ⟨gk, j * 2, none⟩) := (hl 47).trans (vsx_at (f := fun _ => .pointer (some ⟨gk, j * 2, none⟩)) rfl (he ⟨2, .data⟩ (by simp) rfl) rfl)
          exact wp_val (.pointer (some ⟨gk, j * 2, none⟩)) (by simp only [execOp, Act.eval, List.map_toArray, List.map_cons, List.map_nil]; rw [e2]; kernel_rfl) ⟨0, rfl, hW⟩
        case p4 =>
          intro D bq a' w' hk hc he hl hW
          (try dsimp only at hW)
          have e3 : a'.tmps.getD 48 undef = .pointer (some ⟨gk, j * 2, none⟩) := (hl 48).trans (vsx_at (f := fun _ => .pointer (some ⟨gk, j * 2, none⟩)) rfl (he ⟨3, .data⟩ (by simp) rfl) rfl)
          have n10 : D 10 = false := hc.no .phase hk rfl (by simp) rfl
          have hM := hW
          simp only [n10, cond_false] at hM
          exact wp_sload1 _ _ rfl gk (j * 2) e3 1 hM cs (.int .u8 y0) rfl hr1 (by decide +kernel) ⟨0, rfl, hW⟩
        case p5 =>
          intro D bq a' w' hk hc he hl hW
          (try dsimp only at hW)
          have f5 : a'.tmps.getD 5 undef = .pointer (some ⟨Rq, 0, none⟩) := (hl 5).trans ((vsx_no rfl).trans rfl)
          exact wp_val (.pointer (some ⟨Rq, 2, none⟩)) (by simp only [execOp, Act.eval, List.map_toArray, List.map_cons, List.map_nil]; rw [f5]; kernel_rfl) ⟨0, rfl, hW⟩
        case p6 =>
          intro D bq a' w' hk hc he hl hW
          (try dsimp only at hW)
          have e5 : a'.tmps.getD 50 undef = .pointer (some ⟨Rq, 2, none⟩) := (hl 50).trans (vsx_at (f := fun _ => .pointer (some ⟨Rq, 2, none⟩)) rfl (he ⟨5, .data⟩ (by simp) rfl) rfl)
          exact wp_sload1 _ _ rfl Rq 2 e5 2 hW #[.int .i64 qn, .int .i64 qk, .int .u8 qv, .bool i, .bool n, .bool r] (.int .u8 qv) rfl rfl (by decide +kernel) ⟨0, rfl, hW⟩
        case p7 =>
          intro D bq a' w' hk hc he hl hW
          (try dsimp only at hW)
          have e4 : a'.tmps.getD 49 undef = .int .u8 y0 := (hl 49).trans (vsx_at (f := fun _ => .int .u8 y0) rfl (he ⟨4, .data⟩ (by simp) rfl) rfl)
          have e6 : a'.tmps.getD 51 undef = .int .u8 qv := (hl 51).trans (vsx_at (f := fun _ => .int .u8 qv) rfl (he ⟨6, .data⟩ (by simp) rfl) rfl)
          exact wp_val (.int .u8 ((y0 + qv) % 256)) (by simp only [execOp, Act.eval, List.map_toArray, List.map_cons, List.map_nil]; rw [e4, e6]; kernel_rfl) ⟨0, rfl, hW⟩
        case p8 =>
          intro D bq a' w' hk hc he hl hW
          (try dsimp only at hW)
          have e0 : a'.tmps.getD 45 undef = .slice (some ⟨gk, 0, none⟩) N capk := (hl 45).trans (vsx_at (f := fun _ => .slice (some ⟨gk, 0, none⟩) N capk) rfl (he ⟨0, .data⟩ (by simp) rfl) rfl)
          have e1 : a'.tmps.getD 46 undef = .int .i64 (j : Int) := (hl 46).trans (vsx_at (f := fun _ => .int .i64 (j : Int)) rfl (he ⟨1, .data⟩ (by simp) rfl) rfl)
          exact wp_ixa rfl gk N capk j hlt e0 e1 ⟨0, rfl, hW⟩
        case p9 =>
          intro D bq a' w' hk hc he hl hW
          (try dsimp only at hW)
          have e8 : a'.tmps.getD 53 undef = .pointer (some ⟨gk, j * 2, none⟩) := (hl 53).trans (vsx_at (f := fun _ => .pointer (some ⟨gk, j * 2, none⟩)) rfl (he ⟨8, .data⟩ (by simp) rfl) rfl)
          exact wp_val (.pointer (some ⟨gk, j * 2, none⟩)) (by simp only [execOp, Act.eval, List.map_toArray, List.map_cons, List.map_nil]; rw [e8]; kernel_rfl) ⟨0, rfl, hW⟩
        case p10 =>
          intro D bq a' w' hk hc he hl hW
          (try dsimp only at hW)
          have e9 : a'.tmps.getD 54 undef = .pointer (some ⟨gk, j * 2, none⟩) := (hl 54).trans (vsx_at (f := fun _ => .pointer (some ⟨gk, j * 2, none⟩)) rfl (he ⟨9, .data⟩ (by simp) rfl) rfl)
          have e7 : a'.tmps.getD 52 undef = .int .u8 ((y0 + qv) % 256) := (hl 52).trans (vsx_at (f := fun _ => .int .u8 ((y0 + qv) % 256)) rfl (he ⟨7, .data⟩ (by simp) rfl) rfl)
          have hM := hW
          simp only [hk, cond_false] at hM
          exact wp_sstore1 _ _ _ rfl rfl gk (j * 2) e9 1 hM cs ((splice cs.toList (j * 2) [.int .u8 ((y0 + qv) % 256)]).toArray) rfl (.int .u8 ((y0 + qv) % 256)) e7 (by kernel_rfl) (by show j * 2 + 1 ≤ cs.size; exact hcz) (by kernel_rfl) rfl fun w1 hM1 => ⟨0, rfl, hM1⟩
        intro D bq wv hD hW
        (try dsimp only at hW)
        simp only [hD 10 (by decide), cond_true] at hW
        clear H hD
        have H := hW
        clear hW
        simp only [putAll, vsOf, Nat.reduceAdd, List.foldl_cons, List.foldl_nil, Act.put, List.setIfInBounds_toArray, List.set_cons_succ, List.set_cons_zero]
        go_wp2_with fail
        go_roundw
        case rel => exact ⟨j + 1, _, by omega, by go_num, hX, H⟩
        case measure => simp [intOf]; omega
    · obtain rfl : N = j := by omega
      have hX := Lib.hid (show RowG bcl 2 cs capk (otherL qv l2) by rw [← mix_end, HN.out]; exact hRG)
      clear hRG hRH hml
      have HA := Lib.hid (fun b (e : c.ab = b) => (show (cpC c)[1]? = some (.bool b) by rw [← e]; rfl))
      have HBX := Lib.hid (fun a b (e : c.xb = b) => (show (cpC { c with av := a })[3]? = some (.bool b) by rw [← e]; rfl))
      have HEX : Hid (∃ d0, d0 = { c with av := if c.ab then bits .xor .u8 c.av qv else c.av, xv := if c.xb then (c.xv + qv) % 256 else c.xv }) := ⟨_, rfl⟩
      obtain ⟨d0, hd0⟩ := HEX
      have HD0 := Lib.hid hd0
      cases hab : c.ab <;> cases hxb : c.xb
      all_goals
        go_wp2_with (first | (refine gate_load _ _ rfl ?_; refine wpList_mload1 rfl _ _ rfl R7 1 rfl 0 H _ (.bool _) rfl (HA.out _ hab) (by decide +kernel) ?_) | (refine gate_load _ _ rfl ?_; refine wpList_mload1 rfl _ _ rfl R7 3 rfl 0 H _ (.bool _) rfl (HBX.out _ _ hxb) (by decide +kernel) ?_) | (refine gate_load _ _ rfl ?_; refine wpList_mload1 rfl _ _ rfl R7 0 rfl 0 H _ (.int .u8 c.av) rfl rfl (by decide +kernel) ?_) | (refine gate_load _ _ rfl ?_; refine wpList_mload1 rfl _ _ rfl R7 2 rfl 0 H _ (.int .u8 c.xv) rfl rfl (by decide +kernel) ?_) | (refine gate_load _ _ rfl ?_; refine wpList_mload1 rfl _ _ rfl Rq 2 rfl 2 H _ (.int .u8 qv) rfl rfl (by decide +kernel) ?_) | (refine gate_store _ _ _ rfl ?_; refine wpList_mstore rfl 5 _ _ rfl rfl R7 0 rfl 0 H (cpC c) (cpC { c with av := bits .xor .u8 c.av qv }) rfl (.int .u8 _) rfl (by kernel_rfl) (of_decide_eq_true (by kernel_rfl)) (by kernel_rfl) rfl ?_; clear H; intro w1 H; simp only [List.set_cons_zero] at H) | (refine gate_store _ _ _ rfl ?_; refine wpList_mstore rfl 5 _ _ rfl rfl R7 2 rfl 0 H (cpC c) (cpC { c with xv := (c.xv + qv) % 256 }) rfl (.int .u8 _) rfl (by kernel_rfl) (of_decide_eq_true (by kernel_rfl)) (by kernel_rfl) rfl ?_; clear H; intro w1 H; simp only [List.set_cons_zero] at H) | (refine gate_store _ _ _ rfl ?_; refine wpList_mstore rfl 5 _ _ rfl rfl R7 2 rfl 0 H (cpC { c with av := bits .xor .u8 c.av qv }) (cpC { c with av := bits .xor .u8 c.av qv, xv := (c.xv + qv) % 256 }) rfl (.int .u8 _) rfl (by kernel_rfl) (of_decide_eq_true (by kernel_rfl)) (by kernel_rfl) rfl ?_; clear H; intro w1 H; simp only [List.set_cons_zero] at H) | fail)
        first | (have e0 : d0 = { c with av := bits .xor .u8 c.av qv, xv := (c.xv + qv) % 256 } := HD0.out.trans (cp_ax (if_t hab) (if_t hxb)); replace H := Mem.eqv H (l' := [(R7, cpC d0), (gk, cs), (Rq, #[.int .i64 qn, .int .i64 qk, .int .u8 qv, .bool i, .bool n, .bool r]), (Rc, cpC c)]) (l0 e0); clear e0) | (have e0 : d0 = { c with av := bits .xor .u8 c.av qv } := HD0.out.trans (cp_ax (if_t hab) (if_f hxb)); replace H := Mem.eqv H (l' := [(R7, cpC d0), (gk, cs), (Rq, #[.int .i64 qn, .int .i64 qk, .int .u8 qv, .bool i, .bool n, .bool r]), (Rc, cpC c)]) (l0 e0); clear e0) | (have e0 : d0 = { c with xv := (c.xv + qv) % 256 } := HD0.out.trans (cp_ax (if_f hab) (if_t hxb)); replace H := Mem.eqv H (l' := [(R7, cpC d0), (gk, cs), (Rq, #[.int .i64 qn, .int .i64 qk, .int .u8 qv, .bool i, .bool n, .bool r]), (Rc, cpC c)]) (l0 e0); clear e0) | (have e0 : d0 = c := HD0.out.trans (cp_ax (if_f hab) (if_f hxb)); replace H := Mem.eqv H (l' := [(R7, cpC d0), (gk, cs), (Rq, #[.int .i64 qn, .int .i64 qk, .int .u8 qv, .bool i, .bool n, .bool r]), (Rc, cpC c)]) (l0 e0); clear e0)
        replace H : Mem W.heap.size [] W _ ([(gk, cs)] ++ (([] : List (Nat × Array Value)) ++ [(R7, cpC d0), (Rq, #[.int .i64 qn, .int .i64 qk, .int .u8 qv, .bool i, .bool n, .bool r]), (Rc, cpC c)])) := H.perm (List.Perm.swap _ _ _)
        have hI := HINI.out _ HD0.out
        have hRows : Hid ((∃ p cp, (Value.slice a2 N cap2) = .slice p N cp ∧ ∀ w L, Mem W.heap.size [] W w L → (∀ x ∈ ([] : List (Nat × Array Value)), x ∈ L) → Rd w (.slice p N cp) l2) ∧ (∃ p cp, (Value.slice (some ⟨gk, 0, none⟩) N capk) = .slice p N cp ∧ ∀ w L, Mem W.heap.size [] W w L → (∀ x ∈ [(gk, cs)], x ∈ L) → Rd w (.slice p N cp) (otherL qv l2))) :=
          Lib.hid ⟨⟨_, _, rfl, fun w L H _ => HR2.out.below H.toBelow⟩, ⟨_, _, rfl, fun w L H hx => rdk H (hx _ (List.mem_singleton.2 rfl)) hX.out (by unfold otherL; rw [List.length_map]; exact HN.out)⟩⟩
        clear HA HBX HD0 hab hxb hX hd0
        go_wp2_with fail
        go_loopw [1, 8, 10] (fun vm vk z wr => ∃ (j : Nat) (c1 d1 : Cp) (la lb : List (Int × Bool)) (blka blkb : List (Nat × Array Value)), j ≤ kn ∧ z = .int .i64 (j : Int) ∧ Hid (c1.ctl = d1.ctl ∧ (c1.ctl = false → ∃ z, (z = true → lateB c1.op c1.t = true) ∧ AC z c1 d1 ∧ AL la lb) ∧ (Fit c1 ∧ Fit d1 ∧ okB c1 = true ∧ okB d1 = true) ∧ okM la ∧ okM lb ∧ la.length = N ∧ lb.length = N) ∧ Hid ((∃ p cp, vm = .slice p N cp ∧ ∀ w L, Mem W.heap.size [] W w L → (∀ x ∈ blka, x ∈ L) → Rd w (.slice p N cp) la) ∧ (∃ p cp, vk = .slice p N cp ∧ ∀ w L, Mem W.heap.size [] W w L → (∀ x ∈ blkb, x ∈ L) → Rd w (.slice p N cp) lb)) ∧ Mem W.heap.size [] W wr (blkb ++ (blka ++ [(R7, cpC d1), (Rq, #[.int .i64 qn, .int .i64 qk, .int .u8 qv, .bool i, .bool n, .bool r]), (Rc, cpC c1)]))) (fun _ _ z _ => kn - (intOf z).toNat)
        case atStart => exact ⟨0, c, d0, l2, otherL qv l2, [], [(gk, cs)], Nat.zero_le _, rfl, hI, hRows, H⟩
        case round =>
          clear H hI hRows
          obtain ⟨j, c1, d1, la, lb, blka, blkb, hj, rfl, hF, hRw, H⟩ := hrel
          obtain ⟨⟨pa, ca, rfl, hra⟩, ⟨pb, cb, rfl, hrb⟩⟩ := hRw.out
          obtain ⟨hct, hal, ⟨F1, G1, ok1, okd⟩, om1, om2, hla, hlb⟩ := hF.out
          have HRA := Lib.hid hra
          have HRB := Lib.hid hrb
          clear hra hrb hF hRw
          replace H : Mem W.heap.size [] W wr ((R7, cpC d1) :: (Rq, #[.int .i64 qn, .int .i64 qk, .int .u8 qv, .bool i, .bool n, .bool r]) :: (Rc, cpC c1) :: (blkb ++ blka)) := H.perm (by rw [← List.append_assoc]; exact List.perm_append_comm)
          by_cases hlt : j < kn
          · cases hc1 : c1.ctl
            case true =>
              have CT1 := Lib.hid (show (cpC c1)[23]? = some (.bool true) by rw [← hc1]; rfl)
              have CT2 := Lib.hid (show (cpC d1)[23]? = some (.bool true) by rw [← hc1, hct]; rfl)
              clear hal hct hc1 F1 G1 ok1 okd om1 om2 hla hlb
              go_wp2_with (first | (refine gate_load _ _ rfl ?_; refine wpList_mload1 rfl _ _ rfl _ 0 rfl 1 H _ (.int .i64 qn) rfl rfl (by decide +kernel) ?_) | (refine gate_load _ _ rfl ?_; refine wpList_mload1 rfl _ _ rfl _ 23 rfl 2 H _ (.bool true) rfl CT1.out (by decide +kernel) ?_) | (refine gate_load _ _ rfl ?_; refine wpList_mload1 rfl _ _ rfl _ 23 rfl 0 H _ (.bool true) rfl CT2.out (by decide +kernel) ?_) | (go_at_call 8; (with_reducible refine (QW.out _ (GG.out.mem H)).mono ?_); rintro e w2 ⟨rfl, hB⟩; replace H := H.next hB; clear hB) | fail)
              go_ret
              exact ⟨rfl, H.toBelow⟩
            case false =>
              obtain ⟨z, hz, hAC, hAL⟩ := hal hc1
              have hfin : (nextM c1 la false false false).ctl = (nextM d1 lb false false false).ctl ∧ ((nextM c1 la false false false).ctl = false → (toldM c1 la).ad = (toldM d1 lb).ad ∧ (toldM c1 la).wr = (toldM d1 lb).wr ∧ (toldM c1 la).vb = (toldM d1 lb).vb ∧ ((toldM c1 la).vb = false → (toldM c1 la).v = (toldM d1 lb).v) ∧
                  AL (wroteM c1 la) (wroteM d1 lb) ∧ ∃ y, (y = true → lateB (nextM c1 la false false false).op (nextM c1 la false false false).t = true) ∧ AC y (nextM c1 la false false false) (nextM d1 lb false false false)) := al_step hAC F1 G1 ok1 hz hAL om1 om2 (by omega) false false false
              have QS10 := fun wr gr h => step_ct c1 (.slice pa N ca) la false false false F1 ok1 om1 (by rw [hla]; exact hmN) wr gr h
              have QS20 := fun wr gr h => step_ct d1 (.slice pb N cb) lb false false false G1 okd om2 (by rw [hlb]; exact hmN) wr gr h
              have nx1 := next_ok false false false F1 ok1 om1 (by omega : 0 < la.length)
              have nx2 := next_ok false false false G1 okd om2 (by omega : 0 < lb.length)
              have ow1 := okM_wrote F1 om1
              have ow2 := okM_wrote G1 om2
              have ln1 := (wroteM_len c1 la).trans hla
              have ln2 := (wroteM_len d1 lb).trans hlb
              rw [hla] at QS10
              rw [hlb] at QS20
              have CT1 := Lib.hid (show (cpC c1)[23]? = some (.bool false) by rw [← hc1]; rfl)
              have CT2 := Lib.hid (show (cpC d1)[23]? = some (.bool false) by rw [← hc1, hct]; rfl)
              clear hAC hAL hz hal F1 G1 ok1 okd om1 om2 hct hc1 hla hlb
              generalize nextM c1 la false false false = x1 at *
              generalize nextM d1 lb false false false = r1 at *
              generalize toldM c1 la = b1 at *
              generalize toldM d1 lb = b2 at *
              generalize wroteM c1 la = l3 at *
              generalize wroteM d1 lb = l4 at *
              obtain ⟨hxr, hfin⟩ := hfin
              have HNF : Hid (x1.ctl = r1.ctl ∧ (x1.ctl = false → ∃ z, (z = true → lateB x1.op x1.t = true) ∧ AC z x1 r1 ∧ AL l3 l4) ∧ (Fit x1 ∧ Fit r1 ∧ okB x1 = true ∧ okB r1 = true) ∧ okM l3 ∧ okM l4 ∧ l3.length = N ∧ l4.length = N) := Lib.hid ⟨hxr, fun e => by
                obtain ⟨_, _, _, _, h5, y, h6, h7⟩ := hfin e
                exact ⟨y, h6, h7, h5⟩, ⟨nx1.2, nx2.2, nx1.1, nx2.1⟩, ow1, ow2, ln1, ln2⟩
              have HL1 := Lib.hid ln1
              have HL2 := Lib.hid ln2
              have QS1 := Lib.hid QS10
              have QS2 := Lib.hid QS20
              have fx := nx1.2
              have fr := nx2.2
              have cx := ((okB_iff _).1 nx1.1).2
              have cr := ((okB_iff _).1 nx2.1).2
              clear QS10 QS20 ow1 ow2 ln1 ln2 nx1 nx2
              cases hx : x1.ctl
              case true =>
                have CXQ := Lib.hid (show (cpC x1)[23]? = some (.bool true) by rw [← hx]; rfl)
                have CRQ := Lib.hid (show (cpC r1)[23]? = some (.bool true) by rw [← hx, hxr]; rfl)
                clear hfin hxr hx fx fr cx cr
                have M11 : True := trivial
                have M13 : True := trivial
                have M15 : True := trivial
                have M17 : True := trivial
                go_wp2_with (first | (refine gate_load _ _ rfl ?_; refine wpList_mload1 rfl _ _ rfl _ 0 rfl 1 H _ (.int .i64 qn) rfl rfl (by decide +kernel) ?_) | (refine gate_load _ _ rfl ?_; refine wpList_mload1 rfl _ _ rfl _ 23 rfl 2 H _ (.bool false) rfl CT1.out (by decide +kernel) ?_) | (refine gate_load _ _ rfl ?_; refine wpList_mload1 rfl _ _ rfl _ 23 rfl 0 H _ (.bool false) rfl CT2.out (by decide +kernel) ?_) | (refine gate_load _ _ rfl ?_; refine wpList_mloadA rfl 28 _ rfl _ rfl 2 H (cpC c1) rfl (by decide +kernel) (by kernel_rfl) ?_) | (go_at_call 13; (with_reducible refine (QS1.out _ (GG.out.mem H) (HRA.out _ _ H (fun x hx => by simp only [List.mem_cons, List.mem_append, hx, true_or, or_true]))).mono ?_); rintro e w2 ⟨g1, cap1, cs1, rfl, hG1, hM⟩; replace H := Mem.join H hM; clear hM; simp only [List.cons_append, List.nil_append] at H) | (go_at_call 13; (with_reducible refine (QS2.out _ (GG.out.mem H) (HRB.out _ _ H (fun x hx => by simp only [List.mem_cons, List.mem_append, hx, true_or, or_true]))).mono ?_); rintro e w2 ⟨g2, cap3, cs2, rfl, hG2, hM⟩; replace H := Mem.join H hM; clear hM; simp only [List.cons_append, List.nil_append] at H) | (refine wpList_mnew rfl _ rfl H _ HZC.out ?_; clear H; (first | (clear M11; intro R11 w1 _ H) | (clear M15; intro R15 w1 _ H))) | (refine wpList_mnew rfl _ rfl H _ HB.out ?_; clear H; (first | (clear M13; intro R13 w1 _ H) | (clear M17; intro R17 w1 _ H))) | (refine gate_store _ _ _ rfl ?_; refine wpList_mstoreA rfl 28 _ _ rfl rfl _ rfl 1 H (cpC cp0) _ rfl rfl (by kernel_rfl) (by kernel_rfl) (by kernel_rfl) ?_; clear H; intro w1 H; simp only [List.set_cons_zero, List.set_cons_succ] at H) | (refine gate_store _ _ _ rfl ?_; refine wpList_mstoreA rfl 46 _ _ rfl rfl _ rfl 0 H (bsC bs0) _ rfl rfl (by kernel_rfl) (by kernel_rfl) (by kernel_rfl) ?_; clear H; intro w1 H; simp only [List.set_cons_zero, List.set_cons_succ] at H) | (refine gate_load _ _ rfl ?_; refine wpList_mloadA rfl 28 _ rfl _ rfl 3 H (cpC d1) rfl (by decide +kernel) (by kernel_rfl) ?_) | (refine gate_load _ _ rfl ?_; refine wpList_mload1 rfl _ _ rfl _ 23 rfl 4 H _ (.bool true) rfl CXQ.out (by decide +kernel) ?_) | (refine gate_load _ _ rfl ?_; refine wpList_mload1 rfl _ _ rfl _ 23 rfl 1 H _ (.bool true) rfl CRQ.out (by decide +kernel) ?_) | fail)
                (try simp only [Act.put, List.setIfInBounds_toArray, List.set_cons_succ, List.set_cons_zero])
                refine wp_region_x (by kernel_rfl) (by kernel_rfl) [(some 169, fun _ => .agg (cpC x1)), (some 170, fun _ => .slice (some ⟨g1, 0, none⟩) N cap1), (some 171, fun _ => .agg (cpC r1)), (some 172, fun _ => .slice (some ⟨g2, 0, none⟩) N cap3), (none, fun _ => undef), (some 1, fun _ => .slice (some ⟨g1, 0, none⟩) N cap1), (none, fun _ => undef), (some 8, fun _ => .slice (some ⟨g2, 0, none⟩) N cap3)] (fun D bq wv => Mem W.heap.size [] W wv ((R17, bsC b2) :: (R15, cpC r1) :: (g2, cs2) :: (R13, bsC b1) :: (R11, cpC x1) :: (g1, cs1) :: (R7, cond (D 6) (cpC r1) (cpC d1)) :: (Rq, #[.int .i64 qn, .int .i64 qk, .int .u8 qv, .bool i, .bool n, .bool r]) :: (Rc, cond (D 4) (cpC x1) (cpC c1)) :: (blkb ++ blka))) 174 (by rfl) (by rfl) (by rfl) H.drew ⟨⟨rfl, ?p0⟩, ⟨rfl, ?p1⟩, ⟨rfl, ?p2⟩, ⟨rfl, ?p3⟩, ⟨rfl, ?p4⟩, ⟨rfl, ?p5⟩, ⟨rfl, ?p6⟩, ⟨rfl, ?p7⟩, trivial⟩ ?_
                case p0 =>
                  intro D bq a' w' hk hc he hl hW
                  (try dsimp only at hW)
                  have f11 : a'.tmps.getD 11 undef = .pointer (some ⟨R11, 0, none⟩) := (hl 11).trans ((vsx_no rfl).trans rfl)
                  exact wp_sloadA _ _ rfl R11 f11 4 hW (cpC x1) rfl (by decide +kernel) (by kernel_rfl) ⟨0, rfl, hW⟩
                case p1 =>
                  intro D bq a' w' hk hc he hl hW
                  (try dsimp only at hW)
                  have f12 : a'.tmps.getD 12 undef = .slice (some ⟨g1, 0, none⟩) N cap1 := (hl 12).trans ((vsx_no rfl).trans rfl)
                  exact wp_val (.slice (some ⟨g1, 0, none⟩) N cap1) (by simp only [execOp, Act.eval, List.map_toArray, List.map_cons, List.map_nil]; rw [f12]; kernel_rfl) ⟨0, rfl, hW⟩
                case p2 =>
                  intro D bq a' w' hk hc he hl hW
                  (try dsimp only at hW)
                  have f15 : a'.tmps.getD 15 undef = .pointer (some ⟨R15, 0, none⟩) := (hl 15).trans ((vsx_no rfl).trans rfl)
                  exact wp_sloadA _ _ rfl R15 f15 1 hW (cpC r1) rfl (by decide +kernel) (by kernel_rfl) ⟨0, rfl, hW⟩
                case p3 =>
                  intro D bq a' w' hk hc he hl hW
                  (try dsimp only at hW)
                  have f16 : a'.tmps.getD 16 undef = .slice (some ⟨g2, 0, none⟩) N cap3 := (hl 16).trans ((vsx_no rfl).trans rfl)
                  exact wp_val (.slice (some ⟨g2, 0, none⟩) N cap3) (by simp only [execOp, Act.eval, List.map_toArray, List.map_cons, List.map_nil]; rw [f16]; kernel_rfl) ⟨0, rfl, hW⟩
                case p4 =>
                  intro D bq a' w' hk hc he hl hW
                  (try dsimp only at hW)
                  have f3 : a'.tmps.getD 3 undef = .pointer (some ⟨Rc, 0, none⟩) := (hl 3).trans ((vsx_no rfl).trans rfl)
                  have e0 : a'.tmps.getD 169 undef = .agg (cpC x1) := (hl 169).trans (vsx_at (f := fun _ => .agg (cpC x1)) rfl (he ⟨0, .data⟩ (by simp) rfl) rfl)
                  have hM := hW
                  simp only [hk, cond_false] at hM
                  exact wp_sstoreA _ _ _ rfl rfl Rc f3 8 hM (cpC c1) (cpC x1) rfl e0 (by kernel_rfl) (by kernel_rfl) (by kernel_rfl) fun w1 hM1 => ⟨0, rfl, hM1⟩
                case p5 =>
                  intro D bq a' w' hk hc he hl hW
                  (try dsimp only at hW)
                  have e1 : a'.tmps.getD 170 undef = .slice (some ⟨g1, 0, none⟩) N cap1 := (hl 170).trans (vsx_at (f := fun _ => .slice (some ⟨g1, 0, none⟩) N cap1) rfl (he ⟨1, .data⟩ (by simp) rfl) rfl)
                  exact wp_val (.slice (some ⟨g1, 0, none⟩) N cap1) (by simp only [execOp, Act.eval, List.map_toArray, List.map_cons, List.map_nil]; rw [e1]; kernel_rfl) ⟨0, rfl, hW⟩
                case p6 =>
                  intro D bq a' w' hk hc he hl hW
                  (try dsimp only at hW)
                  have f7 : a'.tmps.getD 7 undef = .pointer (some ⟨R7, 0, none⟩) := (hl 7).trans ((vsx_no rfl).trans rfl)
                  have e2 : a'.tmps.getD 171 undef = .agg (cpC r1) := (hl 171).trans (vsx_at (f := fun _ => .agg (cpC r1)) rfl (he ⟨2, .data⟩ (by simp) rfl) rfl)
                  have hM := hW
                  simp only [hk, cond_false] at hM
                  exact wp_sstoreA _ _ _ rfl rfl R7 f7 6 hM (cpC d1) (cpC r1) rfl e2 (by kernel_rfl) (by kernel_rfl) (by kernel_rfl) fun w1 hM1 => ⟨0, rfl, hM1⟩
                case p7 =>
                  intro D bq a' w' hk hc he hl hW
                  (try dsimp only at hW)
                  have e3 : a'.tmps.getD 172 undef = .slice (some ⟨g2, 0, none⟩) N cap3 := (hl 172).trans (vsx_at (f := fun _ => .slice (some ⟨g2, 0, none⟩) N cap3) rfl (he ⟨3, .data⟩ (by simp) rfl) rfl)
                  exact wp_val (.slice (some ⟨g2, 0, none⟩) N cap3) (by simp only [execOp, Act.eval, List.map_toArray, List.map_cons, List.map_nil]; rw [e3]; kernel_rfl) ⟨0, rfl, hW⟩
                intro D bq wv hD hW
                (try dsimp only at hW)
                simp only [hD 4 (by decide), hD 6 (by decide), cond_true] at hW
                clear H hD
                have H := hW
                clear hW
                simp only [putAll, vsOf, Nat.reduceAdd, List.foldl_cons, List.foldl_nil, Act.put, List.setIfInBounds_toArray, List.set_cons_succ, List.set_cons_zero]
                go_wp2_with fail
                go_roundw
                case rel =>
                  refine ⟨j + 1, x1, r1, l3, l4, [(g1, cs1)], [(g2, cs2)], by omega, by go_num, HNF, Lib.hid ⟨⟨_, _, rfl, fun w L H hx => rdk H (hx _ (List.mem_singleton.2 rfl)) hG1 HL1.out⟩, ⟨_, _, rfl, fun w L H hx => rdk H (hx _ (List.mem_singleton.2 rfl)) hG2 HL2.out⟩⟩, ?_⟩
                  exact H.sub (List.Sublist.cons _ (List.Sublist.cons _ (List.Sublist.cons_cons _ (List.Sublist.cons _ (List.Sublist.cons _ (List.Sublist.cons_cons _ (List.Sublist.cons_cons _ (List.Sublist.cons_cons _ (List.Sublist.cons_cons _ (List.nil_sublist _))))))))))
                case measure => simp [intOf]; omega
              case false =>
                obtain ⟨e1, e2, e3, e4, hA, y, _, hC⟩ := hfin hx
                have QT := Lib.hid (fun wr => ralike10_ct y x1 r1 hC fx.p0 fx.p1 fr.p0 fr.p1 fx.q0 fx.q1 cx.2.2.1 cr.2.2.1 wr)
                have QL := Lib.hid (fun sv tv wr h1 h2 => ralikeL_ct sv tv l3 l4 wr h1 h2)
                rw [alikeL_of l3 l4 hA] at QL
                obtain ⟨ad, wr0, v, vb, sc⟩ := b1
                obtain ⟨ad', wr', v', vb', sc'⟩ := b2
                dsimp only at e1 e2 e3 e4
                subst e1 e2 e3
                have QA := Lib.hid (fun wr => ralike_ct v v' vb vb wr)
                rw [alike_yes e4] at QA
                have CXQ := Lib.hid (show (cpC x1)[23]? = some (.bool false) by rw [← hx]; rfl)
                have CRQ := Lib.hid (show (cpC r1)[23]? = some (.bool false) by rw [← hx, hxr]; rfl)
                clear hfin hxr hx fx fr cx cr e4 hA hC
                have M11 : True := trivial
                have M13 : True := trivial
                have M15 : True := trivial
                have M17 : True := trivial
                go_wp2_with (first | (refine gate_load _ _ rfl ?_; refine wpList_mload1 rfl _ _ rfl _ 0 rfl 1 H _ (.int .i64 qn) rfl rfl (by decide +kernel) ?_) | (refine gate_load _ _ rfl ?_; refine wpList_mload1 rfl _ _ rfl _ 23 rfl 2 H _ (.bool false) rfl CT1.out (by decide +kernel) ?_) | (refine gate_load _ _ rfl ?_; refine wpList_mload1 rfl _ _ rfl _ 23 rfl 0 H _ (.bool false) rfl CT2.out (by decide +kernel) ?_) | (refine gate_load _ _ rfl ?_; refine wpList_mloadA rfl 28 _ rfl _ rfl 2 H (cpC c1) rfl (by decide +kernel) (by kernel_rfl) ?_) | (go_at_call 13; (with_reducible refine (QS1.out _ (GG.out.mem H) (HRA.out _ _ H (fun x hx => by simp only [List.mem_cons, List.mem_append, hx, true_or, or_true]))).mono ?_); rintro e w2 ⟨g1, cap1, cs1, rfl, hG1, hM⟩; replace H := Mem.join H hM; clear hM; simp only [List.cons_append, List.nil_append] at H) | (go_at_call 13; (with_reducible refine (QS2.out _ (GG.out.mem H) (HRB.out _ _ H (fun x hx => by simp only [List.mem_cons, List.mem_append, hx, true_or, or_true]))).mono ?_); rintro e w2 ⟨g2, cap3, cs2, rfl, hG2, hM⟩; replace H := Mem.join H hM; clear hM; simp only [List.cons_append, List.nil_append] at H) | (refine wpList_mnew rfl _ rfl H _ HZC.out ?_; clear H; (first | (clear M11; intro R11 w1 _ H) | (clear M15; intro R15 w1 _ H))) | (refine wpList_mnew rfl _ rfl H _ HB.out ?_; clear H; (first | (clear M13; intro R13 w1 _ H) | (clear M17; intro R17 w1 _ H))) | (refine gate_store _ _ _ rfl ?_; refine wpList_mstoreA rfl 28 _ _ rfl rfl _ rfl 1 H (cpC cp0) _ rfl rfl (by kernel_rfl) (by kernel_rfl) (by kernel_rfl) ?_; clear H; intro w1 H; simp only [List.set_cons_zero, List.set_cons_succ] at H) | (refine gate_store _ _ _ rfl ?_; refine wpList_mstoreA rfl 46 _ _ rfl rfl _ rfl 0 H (bsC bs0) _ rfl rfl (by kernel_rfl) (by kernel_rfl) (by kernel_rfl) ?_; clear H; intro w1 H; simp only [List.set_cons_zero, List.set_cons_succ] at H) | (refine gate_load _ _ rfl ?_; refine wpList_mloadA rfl 28 _ rfl _ rfl 3 H (cpC d1) rfl (by decide +kernel) (by kernel_rfl) ?_) | (refine gate_load _ _ rfl ?_; refine wpList_mload1 rfl _ _ rfl _ 23 rfl 4 H _ (.bool false) rfl CXQ.out (by decide +kernel) ?_) | (refine gate_load _ _ rfl ?_; refine wpList_mload1 rfl _ _ rfl _ 23 rfl 1 H _ (.bool false) rfl CRQ.out (by decide +kernel) ?_) | (refine gate_load _ _ rfl ?_; refine wpList_mload1 rfl _ _ rfl _ 0 rfl 3 H _ (.int .u16 ad) rfl rfl (by decide +kernel) ?_) | (refine gate_load _ _ rfl ?_; refine wpList_mload1 rfl _ _ rfl _ 0 rfl 0 H _ (.int .u16 ad) rfl rfl (by decide +kernel) ?_) | (refine gate_load _ _ rfl ?_; refine wpList_mload1 rfl _ _ rfl _ 1 rfl 3 H _ (.bool wr0) rfl rfl (by decide +kernel) ?_) | (refine gate_load _ _ rfl ?_; refine wpList_mload1 rfl _ _ rfl _ 1 rfl 0 H _ (.bool wr0) rfl rfl (by decide +kernel) ?_) | (refine gate_load _ _ rfl ?_; refine wpList_mload rfl 23 _ rfl _ _ rfl 3 H _ #[.int .u8 v, .bool vb] rfl (by decide +kernel) (by kernel_rfl) (part2 rfl rfl) ?_) | (refine gate_load _ _ rfl ?_; refine wpList_mload rfl 23 _ rfl _ _ rfl 0 H _ #[.int .u8 v', .bool vb] rfl (by decide +kernel) (by kernel_rfl) (part2 rfl rfl) ?_) | (refine gate_load _ _ rfl ?_; refine wpList_mloadA rfl 28 _ rfl _ rfl 4 H (cpC x1) rfl (by decide +kernel) (by kernel_rfl) ?_) | (refine gate_load _ _ rfl ?_; refine wpList_mloadA rfl 28 _ rfl _ rfl 1 H (cpC r1) rfl (by decide +kernel) (by kernel_rfl) ?_) | (go_at_call 14; (with_reducible refine (QA.out _).mono ?_); rintro e w2 ⟨rfl, hB⟩; replace H := H.next hB; clear hB) | (go_at_call 15; (with_reducible refine (QT.out _).mono ?_); rintro e w2 ⟨rfl, hB⟩; replace H := H.next hB; clear hB) | (go_at_call 16; (with_reducible refine (QL.out _ _ _ (rd_row (i := 5) H rfl hG1 HL1.out) (rd_row (i := 2) H rfl hG2 HL2.out)).mono ?_); rintro e w2 ⟨rfl, hB⟩; replace H := H.next hB; clear hB) | fail)
                (try simp only [Act.put, List.setIfInBounds_toArray, List.set_cons_succ, List.set_cons_zero])
                refine wp_region_x (by kernel_rfl) (by kernel_rfl) [(some 169, fun _ => .agg (cpC x1)), (some 170, fun _ => .slice (some ⟨g1, 0, none⟩) N cap1), (some 171, fun _ => .agg (cpC r1)), (some 172, fun _ => .slice (some ⟨g2, 0, none⟩) N cap3), (none, fun _ => undef), (some 1, fun _ => .slice (some ⟨g1, 0, none⟩) N cap1), (none, fun _ => undef), (some 8, fun _ => .slice (some ⟨g2, 0, none⟩) N cap3)] (fun D bq wv => Mem W.heap.size [] W wv ((R17, bsC ⟨ad, wr0, v', vb, sc'⟩) :: (R15, cpC r1) :: (g2, cs2) :: (R13, bsC ⟨ad, wr0, v, vb, sc⟩) :: (R11, cpC x1) :: (g1, cs1) :: (R7, cond (D 6) (cpC r1) (cpC d1)) :: (Rq, #[.int .i64 qn, .int .i64 qk, .int .u8 qv, .bool i, .bool n, .bool r]) :: (Rc, cond (D 4) (cpC x1) (cpC c1)) :: (blkb ++ blka))) 174 (by rfl) (by rfl) (by rfl) H.drew ⟨⟨rfl, ?p0⟩, ⟨rfl, ?p1⟩, ⟨rfl, ?p2⟩, ⟨rfl, ?p3⟩, ⟨rfl, ?p4⟩, ⟨rfl, ?p5⟩, ⟨rfl, ?p6⟩, ⟨rfl, ?p7⟩, trivial⟩ ?_
                case p0 =>
                  intro D bq a' w' hk hc he hl hW
                  (try dsimp only at hW)
                  have f11 : a'.tmps.getD 11 undef = .pointer (some ⟨R11, 0, none⟩) := (hl 11).trans ((vsx_no rfl).trans rfl)
                  exact wp_sloadA _ _ rfl R11 f11 4 hW (cpC x1) rfl (by decide +kernel) (by kernel_rfl) ⟨0, rfl, hW⟩
                case p1 =>
                  intro D bq a' w' hk hc he hl hW
                  (try dsimp only at hW)
                  have f12 : a'.tmps.getD 12 undef = .slice (some ⟨g1, 0, none⟩) N cap1 := (hl 12).trans ((vsx_no rfl).trans rfl)
                  exact wp_val (.slice (some ⟨g1, 0, none⟩) N cap1) (by simp only [execOp, Act.eval, List.map_toArray, List.map_cons, List.map_nil]; rw [f12]; kernel_rfl) ⟨0, rfl, hW⟩
                case p2 =>
                  intro D bq a' w' hk hc he hl hW
                  (try dsimp only at hW)
                  have f15 : a'.tmps.getD 15 undef = .pointer (some ⟨R15, 0, none⟩) := (hl 15).trans ((vsx_no rfl).trans rfl)
                  exact wp_sloadA _ _ rfl R15 f15 1 hW (cpC r1) rfl (by decide +kernel) (by kernel_rfl) ⟨0, rfl, hW⟩
                case p3 =>
                  intro D bq a' w' hk hc he hl hW
                  (try dsimp only at hW)
                  have f16 : a'.tmps.getD 16 undef = .slice (some ⟨g2, 0, none⟩) N cap3 := (hl 16).trans ((vsx_no rfl).trans rfl)
                  exact wp_val (.slice (some ⟨g2, 0, none⟩) N cap3) (by simp only [execOp, Act.eval, List.map_toArray, List.map_cons, List.map_nil]; rw [f16]; kernel_rfl) ⟨0, rfl, hW⟩
                case p4 =>
                  intro D bq a' w' hk hc he hl hW
                  (try dsimp only at hW)
                  have f3 : a'.tmps.getD 3 undef = .pointer (some ⟨Rc, 0, none⟩) := (hl 3).trans ((vsx_no rfl).trans rfl)
                  have e0 : a'.tmps.getD 169 undef = .agg (cpC x1) := (hl 169).trans (vsx_at (f := fun _ => .agg (cpC x1)) rfl (he ⟨0, .data⟩ (by simp) rfl) rfl)
                  have hM := hW
                  simp only [hk, cond_false] at hM
                  exact wp_sstoreA _ _ _ rfl rfl Rc f3 8 hM (cpC c1) (cpC x1) rfl e0 (by kernel_rfl) (by kernel_rfl) (by kernel_rfl) fun w1 hM1 => ⟨0, rfl, hM1⟩
                case p5 =>
                  intro D bq a' w' hk hc he hl hW
                  (try dsimp only at hW)
                  have e1 : a'.tmps.getD 170 undef = .slice (some ⟨g1, 0, none⟩) N cap1 := (hl 170).trans (vsx_at (f := fun _ => .slice (some ⟨g1, 0, none⟩) N cap1) rfl (he ⟨1, .data⟩ (by simp) rfl) rfl)
                  exact wp_val (.slice (some ⟨g1, 0, none⟩) N cap1) (by simp only [execOp, Act.eval, List.map_toArray, List.map_cons, List.map_nil]; rw [e1]; kernel_rfl) ⟨0, rfl, hW⟩
                case p6 =>
                  intro D bq a' w' hk hc he hl hW
                  (try dsimp only at hW)
                  have f7 : a'.tmps.getD 7 undef = .pointer (some ⟨R7, 0, none⟩) := (hl 7).trans ((vsx_no rfl).trans rfl)
                  have e2 : a'.tmps.getD 171 undef = .agg (cpC r1) := (hl 171).trans (vsx_at (f := fun _ => .agg (cpC r1)) rfl (he ⟨2, .data⟩ (by simp) rfl) rfl)
                  have hM := hW
                  simp only [hk, cond_false] at hM
                  exact wp_sstoreA _ _ _ rfl rfl R7 f7 6 hM (cpC d1) (cpC r1) rfl e2 (by kernel_rfl) (by kernel_rfl) (by kernel_rfl) fun w1 hM1 => ⟨0, rfl, hM1⟩
                case p7 =>
                  intro D bq a' w' hk hc he hl hW
                  (try dsimp only at hW)
                  have e3 : a'.tmps.getD 172 undef = .slice (some ⟨g2, 0, none⟩) N cap3 := (hl 172).trans (vsx_at (f := fun _ => .slice (some ⟨g2, 0, none⟩) N cap3) rfl (he ⟨3, .data⟩ (by simp) rfl) rfl)
                  exact wp_val (.slice (some ⟨g2, 0, none⟩) N cap3) (by simp only [execOp, Act.eval, List.map_toArray, List.map_cons, List.map_nil]; rw [e3]; kernel_rfl) ⟨0, rfl, hW⟩
                intro D bq wv hD hW
                (try dsimp only at hW)
                simp only [hD 4 (by decide), hD 6 (by decide), cond_true] at hW
                clear H hD
                have H := hW
                clear hW
                simp only [putAll, vsOf, Nat.reduceAdd, List.foldl_cons, List.foldl_nil, Act.put, List.setIfInBounds_toArray, List.set_cons_succ, List.set_cons_zero]
                go_wp2_with fail
                go_roundw
                case rel =>
                  refine ⟨j + 1, x1, r1, l3, l4, [(g1, cs1)], [(g2, cs2)], by omega, by go_num, HNF, Lib.hid ⟨⟨_, _, rfl, fun w L H hx => rdk H (hx _ (List.mem_singleton.2 rfl)) hG1 HL1.out⟩, ⟨_, _, rfl, fun w L H hx => rdk H (hx _ (List.mem_singleton.2 rfl)) hG2 HL2.out⟩⟩, ?_⟩
                  exact H.sub (List.Sublist.cons _ (List.Sublist.cons _ (List.Sublist.cons_cons _ (List.Sublist.cons _ (List.Sublist.cons _ (List.Sublist.cons_cons _ (List.Sublist.cons_cons _ (List.Sublist.cons_cons _ (List.Sublist.cons_cons _ (List.nil_sublist _))))))))))
                case measure => simp [intOf]; omega
          · obtain rfl : j = kn := by omega
            clear hal
            go_wp2_with (first | (refine gate_load _ _ rfl ?_; refine wpList_mload1 rfl _ _ rfl _ 0 rfl 1 H _ (.int .i64 qn) rfl rfl (by decide +kernel) ?_) | (go_at_call 8; (with_reducible refine (QW.out _ (GG.out.mem H)).mono ?_); rintro e w2 ⟨rfl, hB⟩; replace H := H.next hB; clear hB) | fail)
            go_ret
            exact ⟨rfl, H.toBelow⟩
end Go.Proofs.YtcgnnbgknaamdaaGreatDoor
