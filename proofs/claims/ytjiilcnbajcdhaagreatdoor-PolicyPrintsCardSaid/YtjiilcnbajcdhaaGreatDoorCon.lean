/-
  slices.Concat at two lists of ranges: what comes back reads as the one and the other. Over this seat's translation; of at most 1000 ranges each.
-/
import Derived.Test.YtjiilcnbajcdhaaGreatDoorSeq
import Derived.Test.YtjiilcnbajcdhaaGreatDoorSlb
import Derived.Laws.AppendOwn
import Derived.Deep.AppendSrc
import Derived.LoopN
namespace Go.Proofs.YtjiilcnbajcdhaaGreatDoor
open Go.RowKit Go.Shelf

/-- What reads as a list, cell by cell, as the append law asks for it. -/
theorem rg_cells {w : World} {b off : Nat} {l : List (Int × Int)} (h : ∀ k, k < l.length → w.cell? ⟨b, off + k * 2, none⟩ = some (.int .i64 (nthR l k).1) ∧ w.cell? ⟨b, off + k * 2 + 1, none⟩ = some (.int .i64 (nthR l k).2)) :
    ∀ j u, (flatR l)[j]? = some u → w.cell? ((⟨b, off, none⟩ : Addr).add j) = some u := fun j u hu => by
  have hj : j < l.length * 2 := by
    have := (List.getElem?_eq_some_iff.1 hu).1
    rw [flatR_length] at this
    exact this
  obtain ⟨k, hk⟩ : ∃ k, j = k * 2 ∨ j = k * 2 + 1 := ⟨j / 2, by omega⟩
  have hkl : k < l.length := by omega
  obtain ⟨e1, e2⟩ := flatR_get l k hkl
  obtain ⟨g1, g2⟩ := h k hkl
  rw [show (⟨b, off, none⟩ : Addr).add j = ⟨b, off + j, none⟩ by unfold Addr.add; split <;> simp_all]
  rcases hk with rfl | rfl
  · rw [e1] at hu
    injection hu with hu
    rw [← hu]; exact g1
  · rw [e2] at hu
    injection hu with hu
    rw [← hu, ← Nat.add_assoc]; exact g2
theorem rg_own {w : World} {base : Nat} {v : Value} {l : List (Int × Int)} (ho : w.ownsRow base 51 2 v l.length (flatR l)) : Rg w v l := by
  rcases ho.2 with ⟨rfl, h0⟩ | ⟨g, cap, cur, rfl, hb, hg, hnc, hm, hs, ht⟩
  · obtain rfl := List.length_eq_zero_iff.1 h0
    exact rg0 w
  · refine ⟨_, _, rfl, hnc, hm, .inr ⟨g, 0, rfl, (Array.getElem?_eq_some_iff.1 hg).1, fun k hk => ?_⟩⟩
    obtain ⟨e1, e2⟩ := flatR_get l k hk
    rw [Nat.zero_add, World.ownsRow.cellAt ho (k * 2) (by omega), World.ownsRow.cellAt ho (k * 2 + 1) (by omega)]
    exact ⟨e1, e2⟩
theorem run_append_rg (w : World) (ty : TypeId) (i : TypeInfo) (hi : Tryz.prog.info? 51 = some i) (hz : i.zero = some (.agg #[.int .i64 0, .int .i64 0])) (hsz : i.size = 2) (hby : i.bytes = 16) (base : Nat)
    (v : Value) (n : Nat) (xs : List Value) (hown : w.ownsRow base 51 2 v n xs) (sv : Value) (l : List (Int × Int)) (hr : Rg w sv l) (hn : n ≤ 100000) (hl : l.length ≤ 100000) (hbase : base ≤ w.heap.size) :
    ∃ v' w', (Builtin.append_ #[23, 23] ty #[v, sv]).run Tryz.prog w = .ok v' w' ∧ w'.ownsRow base 51 2 v' (n + l.length) (xs ++ flatR l) ∧ w.grownBy w' v.ownBlock := by
  obtain ⟨a, c, rfl, h1, h2, h3⟩ := hr
  have own : ∀ (ad : Addr), (∀ j u, (flatR l)[j]? = some u → w.cell? (ad.add j) = some u) → a = some ad → ∃ v' w', (Builtin.append_ #[23, 23] ty #[v, .slice a l.length c]).run Tryz.prog w = .ok v' w' ∧ w'.ownsRow base 51 2 v' (n + l.length) (xs ++ flatR l) ∧ w.grownBy w' v.ownBlock := fun ad hc ha => by
    subst ha
    obtain ⟨v', w', hr, ho, hg, _⟩ := run_append_own (P := Tryz.prog) w base 23 ty 51 i (.agg #[.int .i64 0, .int .i64 0]) 2 16 Tryz.underlying23 hi hz hsz hby rfl (by decide) v n xs hown ad l.length c (flatR l) (flatR_length l) hc (flatR_one l) (by unfold maxLen; omega) (by omega) hbase
    exact ⟨v', w', hr, ho, hg⟩
  rcases h3 with rfl | ⟨b, off, rfl, hb, hc⟩
  · cases a with
    | some ad => exact own ad (fun j u h => by simp [flatR] at h) rfl
    | none =>
      refine ⟨v, w, ?_, by simpa [flatR] using hown, ⟨rfl, rfl, rfl, Nat.le_refl _, fun _ _ _ => rfl⟩⟩
      have hs := Go.Src.ofNil (P := Tryz.prog) (w := w) (size := i.size) (tx := 23) Tryz.underlying23 c
      rcases hown.2 with ⟨rfl, rfl⟩ | ⟨g, cap, cur, rfl, _, hg, hnc, _⟩
      · simp [Builtin.append_, run_underlying Tryz.underlying23, sizeOf, typeInfo, hi, Builtin.lenOf, Builtin.firstCells]
      · have := run_append_room_src (P := Tryz.prog) (w := w) 23 23 ty 51 i Tryz.underlying23 hi g 0 n cap (.slice none 0 c) 0 [] hs (by omega) (fun j h => by simp at h) (fun j h => by simp at h)
        simpa [World.setCells] using this
  · exact own ⟨b, off, none⟩ (rg_cells hc) rfl
theorem wpList_append_rg (w : World) {ops : Array Oper} {rest : List Oper} {o : Oper} {a : Act} {Q : Exit → Act → World → Prop} (hgd : o.guard = none) (s x : Operand)
    (ho : o.op = .call { callee := .builtin .append, args := #[s, x], argTypes := #[23, 23] })
    (i : TypeInfo) (hi : Tryz.prog.info? 51 = some i) (hz : i.zero = some (.agg #[.int .i64 0, .int .i64 0])) (hsz : i.size = 2) (hby : i.bytes = 16) (base : Nat)
    (v : Value) (n : Nat) (xs : List Value) (hs : a.eval s = v) (hown : w.ownsRow base 51 2 v n xs) (sv : Value) (l : List (Int × Int)) (hx : a.eval x = sv) (hr : Rg w sv l) (hn : n ≤ 100000) (hl : l.length ≤ 100000) (hbase : base ≤ w.heap.size)
    (h : ∀ v' w', w'.ownsRow base 51 2 v' (n + l.length) (xs ++ flatR l) → w.grownBy w' v.ownBlock → wpList Tryz.prog ops Q rest (a.put o.dst v') w') : wpList Tryz.prog ops Q (o :: rest) a w := by
  refine wpList_plain hgd fun K hK => ?_
  obtain ⟨v', w', hr', h2, h3⟩ := run_append_rg w o.type i hi hz hsz hby base v n xs hown sv l hr hn hl hbase
  unfold Oper.wp execOp
  simp only [ho, resolve, invoke, builtin, Sem.run_bind, Sem.run_pure, Result.andThen_ok, List.map_toArray, List.map_cons, List.map_nil, hs, hx, hr']
  exact hK _ _ (h v' w' h2 h3)
theorem grow_ct (n : Nat) (w : World) (hn : n ≤ 100000) :
    Calls Tryz.prog 57 #[.slice none 0 0, .int .i64 n] w fun e w' => ∃ v, e = .returned v ∧ w'.ownsRow w.heap.size 51 2 v 0 [] ∧ Below w.heap.size w w' := by
  obtain ⟨i0, hi, hz0, hz1, hz2⟩ := info_parts info_range
  by_cases h0 : n = 0
  · subst h0
    refine (Any8.slices_Grow_room Tryz.growR none 0 0 0 w (by omega) (by omega) (by omega) (by omega)).mono ?_
    rintro e w' ⟨rfl, rfl⟩
    exact ⟨_, rfl, World.ownsRow_nil _ _ _ _, Below.refl _ _⟩
  · refine (Any8.slices_Grow_grow Tryz.growR i0 (.agg #[.int .i64 0, .int .i64 0]) hi hz0 (by rw [hz1]; decide) none 0 0 n [] w (by omega) (by omega) (by rw [hz2]; omega) (by omega) (by simp) (fun _ => rfl) (fun a h => by cases h)).mono ?_
    rintro e w' ⟨rfl, rfl⟩
    have hge := grownCap_ge w (0 + n) 0 51
    have hcm := grownCap_le_maxLen w (0 + n) 0 51 (by unfold maxLen; omega)
    refine ⟨_, rfl, ⟨by simp, .inr ⟨w.heap.size, _, _, rfl, Nat.le_refl _, World.alloc_heap_new w.drew _, Nat.zero_le _, hcm, ?_, by simp⟩⟩, (by repeat' (first | exact Below.refl _ _ | (refine Below.setCell ?_ (by first | (simp; done) | (simp; omega) | omega) _) | (refine Below.drew ?_) | (refine Below.drewN ?_ _) | (refine Below.alloc ?_ (by first | (simp; done) | (simp; omega) | omega) _)))⟩
    simp only [Array.size_append, List.size_toArray, List.length_nil, size_zeroCells]
    show 0 + (0 + n - 0) * 2 + (_ - (0 + n)) * 2 = _ * 2
    have : Tryz.growR_ren.t 25 = 51 := rfl
    rw [this]
    omega
set_option maxRecDepth 100000 in
set_option maxHeartbeats 4000000 in
theorem concat_ct (S : Nat) (sv tv : Value) (l m : List (Int × Int)) (w : World) (hS : w.heap[S]? = some (.cells #[sv, tv] 23 (0, 0))) (hr : Rg w sv l) (hs : Rg w tv m) (hl : l.length ≤ 40000) (hm : m.length ≤ 40000) :
    Calls Tryz.prog 36 #[.slice (some ⟨S, 0, none⟩) 2 2] w fun e w' => ∃ v, e = .returned v ∧ Rg w' v (l ++ m) ∧ Below w.heap.size w w' := by
  obtain ⟨i0, hi, hz0, hz1, hz2⟩ := info_parts info_range
  have Hr := Lib.hid hr
  have Hs := Lib.hid hs
  have hSl : S < w.heap.size := (Array.getElem?_eq_some_iff.1 hS).1
  obtain ⟨a1, c1, rfl, _⟩ := hr
  obtain ⟨a2, c2, rfl, _⟩ := hs
  have c0 : w.cell? ⟨S, 0, none⟩ = some (.slice a1 l.length c1) := by rw [Lib.cell_of_heap hS]; rfl
  have c1' : w.cell? ⟨S, 1, none⟩ = some (.slice a2 m.length c2) := by rw [Lib.cell_of_heap hS]; rfl
  have ex : Hid (∀ wr, Below w.heap.size w wr → wr.cell? ⟨S, 0, none⟩ = some (.slice a1 l.length c1) ∧ wr.cell? ⟨S, 1, none⟩ = some (.slice a2 m.length c2)) := fun wr h => ⟨(h.cell (p := ⟨S, 0, none⟩) hSl).trans c0, (h.cell (p := ⟨S, 1, none⟩) hSl).trans c1'⟩
  go_enter Tryz.func36, Tryz.ntmps36
  go_wp2
  refine wp_loop_rounds (2 + 1) ?_
  rw [rounds_succ]
  go_wp2
  rw [rounds_succ]
  go_wp2
  rw [rounds_succ]
  go_wp2_with fail
  have hsum : (l.length : Int) + (m.length : Int) = ((l.length + m.length : Nat) : Int) := by omega
  rw [hsum]
  refine (grow_ct (l.length + m.length) w (by omega)).mono ?_
  rintro e w1 ⟨v, rfl, hO, hB⟩
  clear hsum
  obtain ⟨d0, d1⟩ := ex.out w1 hB
  have HO := Lib.hid hO
  have HB := Lib.hid hB
  clear c0 c1' hO hB
  go_wp2
  refine wp_loop_rounds (2 + 1) ?_
  rw [rounds_succ]
  go_wp2_with (at_builtin; refine wpList_append_rg _ rfl _ _ rfl i0 hi hz0 hz1 hz2 w.heap.size _ 0 [] rfl HO.out _ l rfl (Hr.out.below HB.out) (by omega) (by omega) HB.out.size ?_)
  intro v1 w2 hown1 hgrow1
  have hB2 : Below w.heap.size w w2 := HB.out.grown hgrow1 HB.out.size (fun k hk => (HO.out.lt k hk).1)
  obtain ⟨g0, g1⟩ := ex.out w2 hB2
  have HO1 := Lib.hid hown1
  have HB2 := Lib.hid hB2
  clear hown1 hgrow1 hB2 d0 d1
  go_wp2
  rw [rounds_succ]
  go_wp2_with (at_builtin; refine wpList_append_rg _ rfl _ _ rfl i0 hi hz0 hz1 hz2 w.heap.size _ l.length (flatR l) rfl HO1.out _ m rfl (Hs.out.below HB2.out) (by omega) (by omega) HB2.out.size ?_)
  intro v2 w3 hown2 hgrow2
  have hB3 : Below w.heap.size w w3 := HB2.out.grown hgrow2 HB2.out.size (fun k hk => (HO1.out.lt k hk).1)
  have HO2 := Lib.hid hown2
  clear hown2 hgrow2
  go_wp2
  rw [rounds_succ]
  go_wp2
  go_ret
  exact ⟨v2, rfl, rg_own (l := l ++ m) (by rw [flatR_append, List.length_append]; exact HO2.out), hB3⟩
end Go.Proofs.YtjiilcnbajcdhaaGreatDoor
