/-
  The document's Join of policies. Over this seat's translation; of ranges that may be, at most 50000 each.
-/
import Derived.Test.YtdafilfnmdfacaaJob
import Derived.Test.YtdafilfnmdfacaaPck
namespace Go.Proofs.Ytdafilfnmdfacaa
open Go.RowKit
set_option linter.unusedSimpArgs false
set_option linter.unusedVariables false

section
variable {P : Program} {Q : Exit → Act → World → Prop} {w : World} {o : Oper} {a : Act} {K : Act → World → Prop}
theorem wp_app (s x : Operand) (t1 t2 : TypeId) (ho : o.op = .call { callee := .builtin .append, args := #[s, x], argTypes := #[t1, t2] }) (V X : Value) (hs : a.eval s = V) (hx : a.eval x = X) (v' : Value) (w' : World)
    (hrun : (Builtin.append_ #[t1, t2] o.type #[V, X]).run P w = .ok v' w') (h : K (a.put o.dst v') w') : o.wp P a w K Q := by
  unfold Oper.wp
  simp [execOp, ho, resolve, invoke, builtin, hs, hx, hrun, Result.andThen]
  exact h
theorem wp_bsl (t e : TypeId) (ho : o.op = .buildSlice t 0 #[]) (ht : P.underlying t = some (.slice e)) (i : TypeInfo) (hi : P.info? e = some i)
    (h : K (a.put o.dst (.slice (some ⟨w.heap.size, 0, none⟩) 0 0)) (w.alloc (.cells #[] e))) : o.wp P a w K Q := by
  unfold Oper.wp execOp
  simp [ho, Instr.buildSlice, run_underlying ht, sizeOf, typeInfo, hi, Instr.fill, newRow, Result.andThen]
  have e : Array.map (fun x => default) (Array.range 0) = (#[] : Array Value) := Array.eq_empty_of_size_eq_zero (by simp)
  rw [e]
  exact h
theorem wp_alo (T : TypeId) (ho : o.op = .alloc T) (cs : Array Value)
    (hz : ∀ w : World, (Instr.alloc T true (.tuple #[])).run P w = .ok (.pointer (some ⟨w.heap.size, 0, none⟩)) (w.alloc (.cells cs T)))
    (h : K (a.put o.dst (.pointer (some ⟨w.heap.size, 0, none⟩))) (w.alloc (.cells cs T))) : o.wp P a w K Q := by
  unfold Oper.wp execOp
  simp only [ho, Sem.run_bind, hz, Result.andThen_ok, Sem.run_pure]
  exact h
end
section
variable {n : Nat} {X : List Nat} {w0 w w2 : World} {l l2 : List (Nat × Array Value)}
theorem Mem.restart (h : Mem n X w0 w l) : Mem w.heap.size (l.map (·.1)) w w l :=
  ⟨rfl, rfl, rfl, Nat.le_refl _, Nat.le_refl _, fun _ _ _ => rfl, h.row, fun x hx => .inr (List.mem_map.2 ⟨x, hx, rfl⟩), h.nodup⟩
theorem Mem.below2 (h : Mem n [] w0 w l) (h2 : Mem w.heap.size (l.map (·.1)) w w2 l2) : Below n w0 w2 := by
  refine ⟨h2.os.trans h.os, h2.tape.trans h.tape, h2.output.trans h.output, Nat.le_trans h.size h2.size, fun k hk => ?_⟩
  rw [h2.block k (Nat.lt_of_lt_of_le hk (Nat.le_trans h.base h.size)) (fun hm => by
    obtain ⟨x, hx, e⟩ := List.mem_map.1 hm
    rcases h.mine x hx with h3 | h3
    · omega
    · cases h3)]
  exact h.block k hk (by simp)
def NoInts (cs : Array Value) : Prop := ∀ (j : Nat) (x : Int), cs[j]? ≠ some (Value.int .i64 x)
theorem noInts4 (p q : Bool) (a b : Option Addr) (n m c d : Nat) : NoInts #[.bool p, .bool q, .slice a n c, .slice b m d] := by
  intro j x
  match j with
  | 0 => simp
  | 1 => simp
  | 2 => simp
  | 3 => simp
  | j + 4 => simp
/-- What a slice reads stays, where only blocks have turned that hold no number. -/
theorem rg_mem {v : Value} {L : List (Int × Int)} (hr : Rg w v L) (h : Mem n X w0 w l) (hl : ∀ x ∈ l, NoInts x.2) (h2 : Mem w.heap.size (l.map (·.1)) w w2 l2) : Rg w2 v L := by
  have hr' := hr
  obtain ⟨a, cap, hv, hc, hm, h3⟩ := hr
  refine ⟨a, cap, hv, hc, hm, ?_⟩
  rcases h3 with h3 | ⟨b, off, rfl, hlt, hcell⟩
  · exact .inl h3
  · by_cases he : L = []
    · exact .inl he
    · have hb : b ∉ l.map (·.1) := fun hm => by
        obtain ⟨x, hx, e⟩ := List.mem_map.1 hm
        obtain ⟨T, hT⟩ := h.row x hx
        exact rg_off hr' hT (hl x hx) _ _ _ hv he e.symm
      have hbl := h2.block b hlt hb
      refine .inr ⟨b, off, rfl, Nat.lt_of_lt_of_le hlt h2.size, fun k hk => ?_⟩
      obtain ⟨h1, h2'⟩ := hcell k hk
      have c1 : ∀ o, w2.cell? ⟨b, o, none⟩ = w.cell? ⟨b, o, none⟩ := fun o => World.cell?_of_block (a := ⟨b, o, none⟩) hbl
      exact ⟨(c1 _).trans h1, (c1 _).trans h2'⟩
end
theorem alloc_pol (w : World) : (Instr.alloc 25 true (.tuple #[])).run Try.prog w = .ok (.pointer (some ⟨w.heap.size, 0, none⟩)) (w.alloc (.cells polZ 25)) := by kernel_rfl
theorem j_lt {B : Nat} {w w2 : World} (h : Below B w w2) : w.heap.size ≤ w2.heap.size := h.size
def JoinP (p q : Bool) (la lb : List (Int × Int)) (w : World) (e : Ending) (w' : World) : Prop := ∃ v3 v6 TA TB, e = .returned (polV p q v3 v6) ∧ Rg w' v3 TA ∧ Tidied la TA ∧ Rg w' v6 TB ∧ Tidied lb TB ∧ Below w.heap.size w w'
set_option maxRecDepth 20000
set_option maxHeartbeats 4000000 in
theorem rjoin_ct (p0 p1 q0 q1 : Bool) (sv tv sv2 tv2 : Value) (ra sa rb sb : List (Int × Int)) (w : World) (h1 : Rg w sv ra) (h2 : Rg w tv sa) (h3 : Rg w sv2 rb) (h4 : Rg w tv2 sb)
    (k1 : ra.all wholeB = true) (k2 : sa.all wholeB = true) (k3 : rb.all wholeB = true) (k4 : sb.all wholeB = true) (n1 : ra.length ≤ 50000) (n2 : sa.length ≤ 50000) (n3 : rb.length ≤ 50000) (n4 : sb.length ≤ 50000) :
    Calls Try.prog 11 #[polV p0 p1 sv tv, polV q0 q1 sv2 tv2] w (JoinP (p0 || q0) (p1 || q1) (ra ++ rb) (sa ++ sb) w) := by
  obtain ⟨i0, hi, _, _, _⟩ := info_parts info_range
  have r1 := Lib.hid h1
  have r2 := Lib.hid h2
  have r3 := Lib.hid h3
  have r4 := Lib.hid h4
  obtain ⟨x1, c1, rfl, _⟩ := h1
  obtain ⟨x2, c2, rfl, _⟩ := h2
  obtain ⟨x3, c3, rfl, _⟩ := h3
  obtain ⟨x4, c4, rfl, _⟩ := h4
  have HZ := Lib.hid alloc_pol
  have KT := Lib.hid (fun v l wr (hr : Rg wr v l) (hk : l.all wholeB = true) (hn : l.length ≤ 100000) => rtidy_ct v l wr hr hk hn)
  have kA : (ra ++ rb).all wholeB = true := by rw [List.all_append, k1, k3]; rfl
  have kB : (sa ++ sb).all wholeB = true := by rw [List.all_append, k2, k4]; rfl
  have nA : (ra ++ rb).length ≤ 100000 := by rw [List.length_append]; omega
  have nB : (sa ++ sb).length ≤ 100000 := by rw [List.length_append]; omega
  have H := Mem.start w
  unfold polV
  go_enter Try.func11, Try.ntmps11
  go_wp2_with (first
    | (refine wpList_mboxA rfl _ _ rfl H #[.bool p0, .bool p1, .slice x1 ra.length c1, .slice x2 sa.length c2] rfl ?_; clear H; intro Ra w1 _ H)
    | (refine wpList_mboxA rfl _ _ rfl H #[.bool q0, .bool q1, .slice x3 rb.length c3, .slice x4 sb.length c4] rfl ?_; clear H; intro Rb w1 _ H)
    | (refine wpList_mnew rfl _ rfl H _ HZ.out ?_; clear H; intro R4 w1 _ H))
  (try simp only [Act.put, List.setIfInBounds_toArray, List.set_cons_succ, List.set_cons_zero])
  replace H : Mem w.heap.size [] w w1 [(R4, polZ), (Rb, #[.bool q0, .bool q1, .slice x3 rb.length c3, .slice x4 sb.length c4]), (Ra, #[.bool p0, .bool p1, .slice x1 ra.length c1, .slice x2 sa.length c2])] := H
  have r1 := Lib.hid (r1.out.below H.toBelow)
  have r2 := Lib.hid (r2.out.below H.toBelow)
  have r3 := Lib.hid (r3.out.below H.toBelow)
  have r4 := Lib.hid (r4.out.below H.toBelow)
  refine wp_region_settledG _ (by kernel_rfl) (by kernel_rfl) (fun b : JB => [(some 6, b.r0), (some 7, .pointer (some ⟨Ra, 2, none⟩)), (some 8, .slice x1 ra.length c1), (some 9, b.r1), (some 10, .pointer (some ⟨Rb, 2, none⟩)), (some 11, .slice x3 rb.length c3), (some 12, b.r2), (some 13, b.r3), (some 14, b.r8), (some 15, .pointer (some ⟨Ra, 3, none⟩)), (some 16, .slice x2 sa.length c2), (some 17, b.r4), (some 18, .pointer (some ⟨Rb, 3, none⟩)), (some 19, .slice x4 sb.length c4), (some 20, b.r5), (some 21, b.r6), (some 22, .agg (polJ b)), (some 5, .pointer (some ⟨b.q, 0, none⟩)), (none, undef)]) (JW w1.heap.size w1 ra rb sa sb) 44 (by rfl) (fun _ => by rfl) (fun _ => by rfl) (fun _ => by rfl) (JW.start w1) ⟨?p0, ?p1, ?p2, ?p3, ?p4, ?p5, ?p6, ?p7, ?p8, ?p9, ?p10, ?p11, ?p12, ?p13, ?p14, ?p15, ?p16, ?p17, ?p18, trivial⟩ ?_
  case p0 =>
    intro D q a' w' hk he hl hW
    exact wp_bsl _ _ rfl Try.underlying23 i0 hi ⟨{ q with r0 := _ }, fun j => by simp only [lookS, polJ, hk, Bool.false_eq_true, if_false, Nat.zero_add, Nat.reduceAdd], ⟨_, rfl, rfl⟩, hW.op0 ((Below.refl _ _).alloc (Nat.le_refl _) _) ⟨w'.heap.size, rfl, hW.hB, heap_alloc_new w' _⟩⟩
  case p8 =>
    intro D q a' w' hk he hl hW
    exact wp_bsl _ _ rfl Try.underlying23 i0 hi ⟨{ q with r8 := _ }, fun j => by simp only [lookS, polJ, hk, Bool.false_eq_true, if_false, Nat.zero_add, Nat.reduceAdd], ⟨_, rfl, rfl⟩, hW.op8 ((Below.refl _ _).alloc (Nat.le_refl _) _) ⟨w'.heap.size, rfl, hW.hB, heap_alloc_new w' _⟩⟩
  case p1 =>
    intro D q a' w' hk he hl hW
    have f2 : a'.tmps.getD 2 undef = .pointer (some ⟨Ra, 0, none⟩) := (hl 2).trans ((lookS_absent _ 0 (by simp)).trans rfl)
    exact wp_val (.pointer (some ⟨Ra, 2, none⟩)) (by simp only [execOp, Act.eval]; rw [f2]; kernel_rfl) ⟨q, fun _ => rfl, ⟨_, rfl, rfl⟩, hW.keep (by decide)⟩
  case p4 =>
    intro D q a' w' hk he hl hW
    have f3 : a'.tmps.getD 3 undef = .pointer (some ⟨Rb, 0, none⟩) := (hl 3).trans ((lookS_absent _ 0 (by simp)).trans rfl)
    exact wp_val (.pointer (some ⟨Rb, 2, none⟩)) (by simp only [execOp, Act.eval]; rw [f3]; kernel_rfl) ⟨q, fun _ => rfl, ⟨_, rfl, rfl⟩, hW.keep (by decide)⟩
  case p9 =>
    intro D q a' w' hk he hl hW
    have f2 : a'.tmps.getD 2 undef = .pointer (some ⟨Ra, 0, none⟩) := (hl 2).trans ((lookS_absent _ 0 (by simp)).trans rfl)
    exact wp_val (.pointer (some ⟨Ra, 3, none⟩)) (by simp only [execOp, Act.eval]; rw [f2]; kernel_rfl) ⟨q, fun _ => rfl, ⟨_, rfl, rfl⟩, hW.keep (by decide)⟩
  case p12 =>
    intro D q a' w' hk he hl hW
    have f3 : a'.tmps.getD 3 undef = .pointer (some ⟨Rb, 0, none⟩) := (hl 3).trans ((lookS_absent _ 0 (by simp)).trans rfl)
    exact wp_val (.pointer (some ⟨Rb, 3, none⟩)) (by simp only [execOp, Act.eval]; rw [f3]; kernel_rfl) ⟨q, fun _ => rfl, ⟨_, rfl, rfl⟩, hW.keep (by decide)⟩
  case p2 =>
    intro D q a' w' hk he hl hW
    have e1 := (hl 7).trans (lookS_at rfl (he ⟨1, .data⟩ (by simp) rfl) rfl)
    exact wp_sload1 _ _ rfl _ _ e1 2 (H.next hW.below) _ (.slice x1 ra.length c1) rfl rfl (by decide +kernel) ⟨q, fun _ => rfl, ⟨_, rfl, rfl⟩, hW.keep (by decide)⟩
  case p5 =>
    intro D q a' w' hk he hl hW
    have e4 := (hl 10).trans (lookS_at rfl (he ⟨4, .data⟩ (by simp) rfl) rfl)
    exact wp_sload1 _ _ rfl _ _ e4 1 (H.next hW.below) _ (.slice x3 rb.length c3) rfl rfl (by decide +kernel) ⟨q, fun _ => rfl, ⟨_, rfl, rfl⟩, hW.keep (by decide)⟩
  case p10 =>
    intro D q a' w' hk he hl hW
    have e9 := (hl 15).trans (lookS_at rfl (he ⟨9, .data⟩ (by simp) rfl) rfl)
    exact wp_sload1 _ _ rfl _ _ e9 2 (H.next hW.below) _ (.slice x2 sa.length c2) rfl rfl (by decide +kernel) ⟨q, fun _ => rfl, ⟨_, rfl, rfl⟩, hW.keep (by decide)⟩
  case p13 =>
    intro D q a' w' hk he hl hW
    have e12 := (hl 18).trans (lookS_at rfl (he ⟨12, .data⟩ (by simp) rfl) rfl)
    exact wp_sload1 _ _ rfl _ _ e12 1 (H.next hW.below) _ (.slice x4 sb.length c4) rfl rfl (by decide +kernel) ⟨q, fun _ => rfl, ⟨_, rfl, rfl⟩, hW.keep (by decide)⟩
  case p3 =>
    intro D q a' w' hk he hl hW
    have e0 := (hl 6).trans (lookS_at rfl (he ⟨0, .data⟩ (by simp) rfl) rfl)
    have e2 := (hl 8).trans (lookS_at rfl (he ⟨2, .data⟩ (by simp) rfl) rfl)
    have hz := hW.f0 (he ⟨0, .data⟩ (by simp) rfl) hk
    obtain ⟨v', w2, hr, hb, hc⟩ := app_zero 23 _ hz (r1.out.below hW.below) (by omega) hW.hB
    exact wp_app _ _ _ _ rfl _ _ e0 e2 v' w2 hr ⟨{ q with r1 := v' }, fun j => by simp only [lookS, polJ, hk, Bool.false_eq_true, if_false, Nat.zero_add, Nat.reduceAdd], ⟨_, rfl, rfl⟩, hW.op3 hb (hc.imp id (fun h => ⟨h.1, h.2.1⟩))⟩
  case p11 =>
    intro D q a' w' hk he hl hW
    have e8 := (hl 14).trans (lookS_at rfl (he ⟨8, .data⟩ (by simp) rfl) rfl)
    have e10 := (hl 16).trans (lookS_at rfl (he ⟨10, .data⟩ (by simp) rfl) rfl)
    have hz := hW.f8 (he ⟨8, .data⟩ (by simp) rfl) hk
    obtain ⟨v', w2, hr, hb, hc⟩ := app_zero 23 _ hz (r2.out.below hW.below) (by omega) hW.hB
    have n14 : D 14 = false := Bool.eq_false_iff.2 fun h => by rw [hW.o14 h] at hk; cases hk
    exact wp_app _ _ _ _ rfl _ _ e8 e10 v' w2 hr ⟨{ q with r4 := v' }, fun j => by simp only [lookS, polJ, hk, Bool.false_eq_true, if_false, Nat.zero_add, Nat.reduceAdd], ⟨_, rfl, rfl⟩, hW.op11 hb (he ⟨7, .chain⟩ (by simp) rfl) n14 hc⟩
  case p6 =>
    intro D q a' w' hk he hl hW
    have e3 := (hl 9).trans (lookS_at rfl (he ⟨3, .data⟩ (by simp) rfl) rfl)
    have e5 := (hl 11).trans (lookS_at rfl (he ⟨5, .data⟩ (by simp) rfl) rfl)
    rcases hW.f3 (he ⟨3, .data⟩ (by simp) rfl) hk with ⟨h0, hz⟩ | ⟨hne, hrow⟩
    · obtain ⟨v', w2, hr, hb, hc⟩ := app_zero 23 _ hz (r3.out.below hW.below) (by omega) hW.hB
      have hv : Rg w2 v' (ra ++ rb) := by
        rw [h0, List.nil_append]
        rcases hc with ⟨e, z⟩ | ⟨_, z, _⟩
        · rw [e]; exact z.row.rg
        · exact z.rg
      exact wp_app _ _ _ _ rfl _ _ e3 e5 v' w2 hr ⟨{ q with r2 := v' }, fun j => by simp only [lookS, polJ, hk, Bool.false_eq_true, if_false, Nat.zero_add, Nat.reduceAdd], ⟨_, rfl, rfl⟩, hW.op6 (he ⟨3, .data⟩ (by simp) rfl) hk (.inl hb) hv⟩
    · obtain ⟨v', w2, hr, hv, hg⟩ := app_row 23 _ hrow (r3.out.below hW.below) n1 n3 hW.hB
      exact wp_app _ _ _ _ rfl _ _ e3 e5 v' w2 hr ⟨{ q with r2 := v' }, fun j => by simp only [lookS, polJ, hk, Bool.false_eq_true, if_false, Nat.zero_add, Nat.reduceAdd], ⟨_, rfl, rfl⟩, hW.op6 (he ⟨3, .data⟩ (by simp) rfl) hk (.inr ⟨hne, hrow, hg⟩) hv.rg⟩
  case p14 =>
    intro D q a' w' hk he hl hW
    have e11 := (hl 17).trans (lookS_at rfl (he ⟨11, .data⟩ (by simp) rfl) rfl)
    have e13 := (hl 19).trans (lookS_at rfl (he ⟨13, .data⟩ (by simp) rfl) rfl)
    rcases hW.f11 (he ⟨11, .data⟩ (by simp) rfl) hk with ⟨h0, hz⟩ | ⟨hne, hrow, hcl⟩
    · obtain ⟨v', w2, hr, hb, hc⟩ := app_zero 23 _ hz (r4.out.below hW.below) (by omega) hW.hB
      have hv : Rg w2 v' (sa ++ sb) := by
        rw [h0, List.nil_append]
        rcases hc with ⟨e, z⟩ | ⟨_, z, _⟩
        · rw [e]; exact z.row.rg
        · exact z.rg
      exact wp_app _ _ _ _ rfl _ _ e11 e13 v' w2 hr ⟨{ q with r5 := v' }, fun j => by simp only [lookS, polJ, hk, Bool.false_eq_true, if_false, Nat.zero_add, Nat.reduceAdd], ⟨_, rfl, rfl⟩, hW.op14 (he ⟨11, .data⟩ (by simp) rfl) hk (.inl hb) hv⟩
    · obtain ⟨v', w2, hr, hv, hg⟩ := app_row 23 _ hrow (r4.out.below hW.below) n2 n4 hW.hB
      exact wp_app _ _ _ _ rfl _ _ e11 e13 v' w2 hr ⟨{ q with r5 := v' }, fun j => by simp only [lookS, polJ, hk, Bool.false_eq_true, if_false, Nat.zero_add, Nat.reduceAdd], ⟨_, rfl, rfl⟩, hW.op14 (he ⟨11, .data⟩ (by simp) rfl) hk (.inr ⟨hne, hrow, hcl, hg⟩) hv.rg⟩
  case p7 =>
    intro D q a' w' hk he hl hW
    have e6 := (hl 12).trans (lookS_at rfl (he ⟨6, .data⟩ (by simp) rfl) rfl)
    refine wp_callp (vals := #[q.r2]) rfl rfl (by simp only [List.map_toArray, List.map_cons, List.map_nil, Act.eval, e6]) (by kernel_rfl) (KT.out _ _ _ (hW.f6 (he ⟨6, .data⟩ (by simp) rfl) hk) kA nA) ?_
    rintro e w2 ⟨v', T, rfl, hv, hT, hb⟩
    have n16 : D 16 = false := Bool.eq_false_iff.2 fun h => by rw [(hW.o16 h).1] at hk; cases hk
    exact ⟨v', rfl, { q with r3 := v', TA := T }, fun j => by simp only [lookS, polJ, hk, n16, Bool.false_eq_true, if_false, Nat.zero_add, Nat.reduceAdd], ⟨_, rfl, rfl⟩, hW.op7 hb (he ⟨6, .data⟩ (by simp) rfl) hk ⟨hv, hT⟩⟩
  case p15 =>
    intro D q a' w' hk he hl hW
    have e14 := (hl 20).trans (lookS_at rfl (he ⟨14, .data⟩ (by simp) rfl) rfl)
    refine wp_callp (vals := #[q.r5]) rfl rfl (by simp only [List.map_toArray, List.map_cons, List.map_nil, Act.eval, e14]) (by kernel_rfl) (KT.out _ _ _ (hW.f14 (he ⟨14, .data⟩ (by simp) rfl) hk) kB nB) ?_
    rintro e w2 ⟨v', T, rfl, hv, hT, hb⟩
    have n16 : D 16 = false := Bool.eq_false_iff.2 fun h => by rw [(hW.o16 h).2] at hk; cases hk
    exact ⟨v', rfl, { q with r6 := v', TB := T }, fun j => by simp only [lookS, polJ, hk, n16, Bool.false_eq_true, if_false, Nat.zero_add, Nat.reduceAdd], ⟨_, rfl, rfl⟩, hW.op15 hb (he ⟨14, .data⟩ (by simp) rfl) hk ⟨hv, hT⟩⟩
  case p16 =>
    intro D q a' w' hk he hl hW
    have e7 := (hl 13).trans (lookS_at rfl (he ⟨7, .data⟩ (by simp) rfl) rfl)
    have e15 := (hl 21).trans (lookS_at rfl (he ⟨15, .data⟩ (by simp) rfl) rfl)
    obtain ⟨y3, z3, hv3, _⟩ := (hW.f7 (he ⟨7, .data⟩ (by simp) rfl)).1
    obtain ⟨y6, z6, hv6, _⟩ := (hW.f15 (he ⟨15, .data⟩ (by simp) rfl)).1
    exact wp_val (.agg (polJ q)) (by simp only [execOp, Act.eval, polJ, List.map_toArray, List.map_cons, List.map_nil]; rw [e7, e15, hv3, hv6]; kernel_rfl) ⟨q, fun _ => rfl, ⟨_, rfl, rfl⟩, hW.op16 (he ⟨7, .data⟩ (by simp) rfl) (he ⟨15, .data⟩ (by simp) rfl)⟩
  case p17 =>
    intro D q a' w' hk he hl hW
    have n18 : D 18 = false := Bool.eq_false_iff.2 fun h => by rw [hW.o17 h] at hk; cases hk
    exact wp_alo _ rfl _ alloc_pol ⟨{ q with q := _ }, fun j => by simp only [lookS, polJ, hk, Bool.false_eq_true, if_false, Nat.zero_add, Nat.reduceAdd], ⟨_, rfl, rfl⟩, hW.op17 ((Below.refl _ _).alloc (Nat.le_refl _) _) n18 hW.hB (heap_alloc_new w' _)⟩
  case p18 =>
    intro D q a' w' hk he hl hW
    have e17 := (hl 5).trans (lookS_at rfl (he ⟨17, .data⟩ (by simp) rfl) rfl)
    have e16 := (hl 22).trans (lookS_at rfl (he ⟨16, .data⟩ (by simp) rfl) rfl)
    have h15 := he ⟨15, .chain⟩ (by simp) rfl
    have h17 := he ⟨17, .data⟩ (by simp) rfl
    have h7 := hW.o11 (hW.o14 (hW.o15 h15))
    obtain ⟨y3, z3, hv3, _⟩ := (hW.f7 (h7)).1
    obtain ⟨y6, z6, hv6, _⟩ := (hW.f15 (h15)).1
    have hone : (polJ q).all (·.oneCell') = true := by unfold polJ; rw [hv3, hv6]; kernel_rfl
    exact wp_sstoreA _ _ _ rfl rfl q.q e17 0 (Mem.begin ((hW.f17 h17).2.1 hk)) polZ (polJ q) rfl e16 (by kernel_rfl) (by rfl) hone fun w1 hM => ⟨q, fun _ => rfl, ⟨undef, rfl, rfl⟩, hW.op18 h15 h17 hk hM⟩
  intro D b w' hD hW
  have f7 := hW.f7 (hD 7 (by decide))
  have f15 := hW.f15 (hD 15 (by decide))
  obtain ⟨hq0, _, hq2⟩ := hW.f17 (hD 17 (by decide))
  obtain ⟨T, hq⟩ := hq2 (hD 18 (by decide))
  have H1 := H.add hW.below hq0 hq
  clear H hD hq hq0 hq2 hW r1 r2 r3 r4
  obtain ⟨b0, b8, b1, b2, b3, b4, b5, b6, TA, TB, Rq⟩ := b
  simp only [polJ] at H1 f7 f15
  obtain ⟨g3, t3⟩ := f7
  obtain ⟨g6, t6⟩ := f15
  have G3 := Lib.hid g3
  have G6 := Lib.hid g6
  obtain ⟨y3, z3, rfl, _⟩ := g3
  obtain ⟨y6, z6, rfl, _⟩ := g6
  have HN := Lib.hid (show ∀ x ∈ [(Rq, #[.bool false, .bool false, .slice y3 TA.length z3, .slice y6 TB.length z6]), (R4, polZ), (Rb, #[.bool q0, .bool q1, .slice x3 rb.length c3, .slice x4 sb.length c4]), (Ra, #[.bool p0, .bool p1, .slice x1 ra.length c1, .slice x2 sa.length c2])], NoInts x.2 from by
    intro x hx
    simp only [List.mem_cons, List.not_mem_nil, or_false] at hx
    rcases hx with rfl | rfl | rfl | rfl
    · exact noInts4 _ _ _ _ _ _ _ _
    · exact noInts4 _ _ _ _ _ _ _ _
    · exact noInts4 _ _ _ _ _ _ _ _
    · exact noInts4 _ _ _ _ _ _ _ _)
  have H0 := Lib.hid H1
  have H := H1.restart
  clear H1
  simp only [polJ, putAll, List.foldl_cons, List.foldl_nil, Act.put, List.setIfInBounds_toArray, List.set_cons_succ, List.set_cons_zero]
  cases p0 <;> cases p1
  all_goals
    go_wp2_with (first | go_skip | (refine wpList_mboxA rfl _ _ rfl H _ rfl ?_; clear H; intro _ w1 _ H) | (refine gate_load _ _ rfl ?_; first | (refine wpList_mloadA rfl _ _ rfl _ rfl 0 H _ rfl (by decide +kernel) (by kernel_rfl) ?_) | (refine wpList_mloadA rfl _ _ rfl _ rfl 1 H _ rfl (by decide +kernel) (by kernel_rfl) ?_) | (refine wpList_mloadA rfl _ _ rfl _ rfl 2 H _ rfl (by decide +kernel) (by kernel_rfl) ?_) | (refine wpList_mloadA rfl _ _ rfl _ rfl 3 H _ rfl (by decide +kernel) (by kernel_rfl) ?_) | (refine wpList_mload1 rfl _ _ rfl _ _ rfl 0 H _ (.int _ _) rfl rfl (by decide +kernel) ?_) | (refine wpList_mload1 rfl _ _ rfl _ _ rfl 1 H _ (.int _ _) rfl rfl (by decide +kernel) ?_) | (refine wpList_mload1 rfl _ _ rfl _ _ rfl 2 H _ (.int _ _) rfl rfl (by decide +kernel) ?_) | (refine wpList_mload1 rfl _ _ rfl _ _ rfl 3 H _ (.int _ _) rfl rfl (by decide +kernel) ?_) | (refine wpList_mload1 rfl _ _ rfl _ _ rfl 0 H _ (.bool _) rfl rfl (by decide +kernel) ?_) | (refine wpList_mload1 rfl _ _ rfl _ _ rfl 1 H _ (.bool _) rfl rfl (by decide +kernel) ?_) | (refine wpList_mload1 rfl _ _ rfl _ _ rfl 2 H _ (.bool _) rfl rfl (by decide +kernel) ?_) | (refine wpList_mload1 rfl _ _ rfl _ _ rfl 3 H _ (.bool _) rfl rfl (by decide +kernel) ?_) | (refine wpList_mload1 rfl _ _ rfl _ _ rfl 0 H _ (.pointer _) rfl rfl (by decide +kernel) ?_) | (refine wpList_mload1 rfl _ _ rfl _ _ rfl 1 H _ (.pointer _) rfl rfl (by decide +kernel) ?_) | (refine wpList_mload1 rfl _ _ rfl _ _ rfl 2 H _ (.pointer _) rfl rfl (by decide +kernel) ?_) | (refine wpList_mload1 rfl _ _ rfl _ _ rfl 3 H _ (.pointer _) rfl rfl (by decide +kernel) ?_) | (refine wpList_mload1 rfl _ _ rfl _ _ rfl 0 H _ (.string _) rfl rfl (by decide +kernel) ?_) | (refine wpList_mload1 rfl _ _ rfl _ _ rfl 1 H _ (.string _) rfl rfl (by decide +kernel) ?_) | (refine wpList_mload1 rfl _ _ rfl _ _ rfl 2 H _ (.string _) rfl rfl (by decide +kernel) ?_) | (refine wpList_mload1 rfl _ _ rfl _ _ rfl 3 H _ (.string _) rfl rfl (by decide +kernel) ?_) | (refine wpList_mload1 rfl _ _ rfl _ _ rfl 0 H _ (.slice _ _ _) rfl rfl (by decide +kernel) ?_) | (refine wpList_mload1 rfl _ _ rfl _ _ rfl 1 H _ (.slice _ _ _) rfl rfl (by decide +kernel) ?_) | (refine wpList_mload1 rfl _ _ rfl _ _ rfl 2 H _ (.slice _ _ _) rfl rfl (by decide +kernel) ?_) | (refine wpList_mload1 rfl _ _ rfl _ _ rfl 3 H _ (.slice _ _ _) rfl rfl (by decide +kernel) ?_)) | (refine gate_store _ _ _ rfl ?_; (first | (refine wpList_mstoreA rfl _ _ _ rfl rfl _ rfl 0 H _ _ rfl rfl (by kernel_rfl) (by kernel_rfl) (by kernel_rfl) ?_) | (refine wpList_mstoreA rfl _ _ _ rfl rfl _ rfl 1 H _ _ rfl rfl (by kernel_rfl) (by kernel_rfl) (by kernel_rfl) ?_) | (refine wpList_mstoreA rfl _ _ _ rfl rfl _ rfl 2 H _ _ rfl rfl (by kernel_rfl) (by kernel_rfl) (by kernel_rfl) ?_) | (refine wpList_mstoreA rfl _ _ _ rfl rfl _ rfl 3 H _ _ rfl rfl (by kernel_rfl) (by kernel_rfl) (by kernel_rfl) ?_) | (refine wpList_mstore rfl _ _ _ rfl rfl _ _ rfl 0 H _ _ rfl (.int _ _) rfl (by kernel_rfl) (of_decide_eq_true (by kernel_rfl)) (by kernel_rfl) rfl ?_) | (refine wpList_mstore rfl _ _ _ rfl rfl _ _ rfl 1 H _ _ rfl (.int _ _) rfl (by kernel_rfl) (of_decide_eq_true (by kernel_rfl)) (by kernel_rfl) rfl ?_) | (refine wpList_mstore rfl _ _ _ rfl rfl _ _ rfl 2 H _ _ rfl (.int _ _) rfl (by kernel_rfl) (of_decide_eq_true (by kernel_rfl)) (by kernel_rfl) rfl ?_) | (refine wpList_mstore rfl _ _ _ rfl rfl _ _ rfl 3 H _ _ rfl (.int _ _) rfl (by kernel_rfl) (of_decide_eq_true (by kernel_rfl)) (by kernel_rfl) rfl ?_) | (refine wpList_mstore rfl _ _ _ rfl rfl _ _ rfl 0 H _ _ rfl (.bool _) rfl (by kernel_rfl) (of_decide_eq_true (by kernel_rfl)) (by kernel_rfl) rfl ?_) | (refine wpList_mstore rfl _ _ _ rfl rfl _ _ rfl 1 H _ _ rfl (.bool _) rfl (by kernel_rfl) (of_decide_eq_true (by kernel_rfl)) (by kernel_rfl) rfl ?_) | (refine wpList_mstore rfl _ _ _ rfl rfl _ _ rfl 2 H _ _ rfl (.bool _) rfl (by kernel_rfl) (of_decide_eq_true (by kernel_rfl)) (by kernel_rfl) rfl ?_) | (refine wpList_mstore rfl _ _ _ rfl rfl _ _ rfl 3 H _ _ rfl (.bool _) rfl (by kernel_rfl) (of_decide_eq_true (by kernel_rfl)) (by kernel_rfl) rfl ?_) | (refine wpList_mstore rfl _ _ _ rfl rfl _ _ rfl 0 H _ _ rfl (.pointer _) rfl (by kernel_rfl) (of_decide_eq_true (by kernel_rfl)) (by kernel_rfl) rfl ?_) | (refine wpList_mstore rfl _ _ _ rfl rfl _ _ rfl 1 H _ _ rfl (.pointer _) rfl (by kernel_rfl) (of_decide_eq_true (by kernel_rfl)) (by kernel_rfl) rfl ?_) | (refine wpList_mstore rfl _ _ _ rfl rfl _ _ rfl 2 H _ _ rfl (.pointer _) rfl (by kernel_rfl) (of_decide_eq_true (by kernel_rfl)) (by kernel_rfl) rfl ?_) | (refine wpList_mstore rfl _ _ _ rfl rfl _ _ rfl 3 H _ _ rfl (.pointer _) rfl (by kernel_rfl) (of_decide_eq_true (by kernel_rfl)) (by kernel_rfl) rfl ?_) | (refine wpList_mstore rfl _ _ _ rfl rfl _ _ rfl 0 H _ _ rfl (.string _) rfl (by kernel_rfl) (of_decide_eq_true (by kernel_rfl)) (by kernel_rfl) rfl ?_) | (refine wpList_mstore rfl _ _ _ rfl rfl _ _ rfl 1 H _ _ rfl (.string _) rfl (by kernel_rfl) (of_decide_eq_true (by kernel_rfl)) (by kernel_rfl) rfl ?_) | (refine wpList_mstore rfl _ _ _ rfl rfl _ _ rfl 2 H _ _ rfl (.string _) rfl (by kernel_rfl) (of_decide_eq_true (by kernel_rfl)) (by kernel_rfl) rfl ?_) | (refine wpList_mstore rfl _ _ _ rfl rfl _ _ rfl 3 H _ _ rfl (.string _) rfl (by kernel_rfl) (of_decide_eq_true (by kernel_rfl)) (by kernel_rfl) rfl ?_) | (refine wpList_mstore rfl _ _ _ rfl rfl _ _ rfl 0 H _ _ rfl (.slice _ _ _) rfl (by kernel_rfl) (of_decide_eq_true (by kernel_rfl)) (by kernel_rfl) rfl ?_) | (refine wpList_mstore rfl _ _ _ rfl rfl _ _ rfl 1 H _ _ rfl (.slice _ _ _) rfl (by kernel_rfl) (of_decide_eq_true (by kernel_rfl)) (by kernel_rfl) rfl ?_) | (refine wpList_mstore rfl _ _ _ rfl rfl _ _ rfl 2 H _ _ rfl (.slice _ _ _) rfl (by kernel_rfl) (of_decide_eq_true (by kernel_rfl)) (by kernel_rfl) rfl ?_) | (refine wpList_mstore rfl _ _ _ rfl rfl _ _ rfl 3 H _ _ rfl (.slice _ _ _) rfl (by kernel_rfl) (of_decide_eq_true (by kernel_rfl)) (by kernel_rfl) rfl ?_)); clear H; intro w1 H; simp only [List.set_cons_zero, List.set_cons_succ] at H))
    refine ret_mem1 rfl _ rfl 1 H _ rfl (by kernel_rfl) (by kernel_rfl) rfl ?_
    exact ⟨_, _, TA, TB, rfl, rg_mem G3.out H0.out HN.out H, t3, rg_mem G6.out H0.out HN.out H, t6, H0.out.below2 H⟩
end Go.Proofs.Ytdafilfnmdfacaa
