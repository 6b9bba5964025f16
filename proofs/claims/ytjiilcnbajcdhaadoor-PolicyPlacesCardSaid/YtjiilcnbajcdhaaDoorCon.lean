/-
  slices.Concat at two lists of ranges: what comes back reads as the one and the other. Over this seat's translation; of at most 1000 ranges each.
-/
import Derived.Test.YtjiilcnbajcdhaaDoorSeq
import Derived.Test.YtjiilcnbajcdhaaDoorSlb
import Derived.Laws.AppendOwn
import Derived.Deep.AppendSrc
import Derived.LoopN
namespace Go.Proofs.YtjiilcnbajcdhaaDoor
open Go.RowKit Go.Shelf

/-- What reads as a list, cell by cell, as the append law asks for it. -/
theorem rg_cells {w : World} {b off : Nat} {l : List (Int × Int)} (h : ∀ k, k < l.length → w.cell? ⟨b, off + k * 2, none⟩ = some (.int .i64 (nthR l k).1) ∧ w.cell? ⟨b, off + k * 2 + 1, none⟩ = some (.int .i64 (nthR l k).2)) :
    ∀ j u, (flatR l)[j]? = some u → w.cell? ((⟨b, off, none⟩ : Addr).add j) = some u := fun j u hu => by
  have hj : j < l.length * 2 := by
    have := (List.getElem?_eq_some_iff.1 hu).1
    rw [flatR_length] at this
    exact this
  obtain ⟨k, hk⟩ : ∃ k, j = k * 2 ∨ j = k * 2 + 1 := ⟨j / 2, by omega⟩
  have hkl : k < l.length := by omega
  obtain ⟨e1, e2⟩ := flatR_get l k hkl
  obtain ⟨g1, g2⟩ := h k hkl
  rw [show (⟨b, off, none⟩ : Addr).add j = ⟨b, off + j, none⟩ by unfold Addr.add; split <;> simp_all]
  rcases hk with rfl | rfl
  · rw [e1] at hu
    injection hu with hu
    rw [← hu]; exact g1
  · rw [e2] at hu
    injection hu with hu
    rw [← hu, ← Nat.add_assoc]; exact g2
theorem rg_own {w : World} {base : Nat} {v : Value} {l : List (Int × Int)} (ho : w.ownsRow base 44 2 v l.length (flatR l)) : Rg w v l := by
  rcases ho.2 with ⟨rfl, h0⟩ | ⟨g, cap, cur, rfl, hb, hg, hnc, hm, hs, ht⟩
  · obtain rfl := List.length_eq_zero_iff.1 h0
    exact rg0 w
  · refine ⟨_, _, rfl, hnc, hm, .inr ⟨g, 0, rfl, (Array.getElem?_eq_some_iff.1 hg).1, fun k hk => ?_⟩⟩
    obtain ⟨e1, e2⟩ := flatR_get l k hk
    rw [Nat.zero_add, World.ownsRow.cellAt ho (k * 2) (by omega), World.ownsRow.cellAt ho (k * 2 + 1) (by omega)]
    exact ⟨e1, e2⟩
theorem run_append_rg (w : World) (ty : TypeId) (i : TypeInfo) (hi : Tryd.prog.info? 44 = some i) (hz : i.zero = some (.agg #[.int .i64 0, .int .i64 0])) (hsz : i.size = 2) (hby : i.bytes = 16) (base : Nat)
    (v : Value) (n : Nat) (xs : List Value) (hown : w.ownsRow base 44 2 v n xs) (sv : Value) (l : List (Int × Int)) (hr : Rg w sv l) (hn : n ≤ 100000) (hl : l.length ≤ 100000) (hbase : base ≤ w.heap.size) :
    ∃ v' w', (Builtin.append_ #[27, 27] ty #[v, sv]).run Tryd.prog w = .ok v' w' ∧ w'.ownsRow base 44 2 v' (n + l.length) (xs ++ flatR l) ∧ w.grownBy w' v.ownBlock := by
  obtain ⟨a, c, rfl, h1, h2, h3⟩ := hr
  have own : ∀ (ad : Addr), (∀ j u, (flatR l)[j]? = some u → w.cell? (ad.add j) = some u) → a = some ad → ∃ v' w', (Builtin.append_ #[27, 27] ty #[v, .slice a l.length c]).run Tryd.prog w = .ok v' w' ∧ w'.ownsRow base 44 2 v' (n + l.length) (xs ++ flatR l) ∧ w.grownBy w' v.ownBlock := fun ad hc ha => by
    subst ha
    obtain ⟨v', w', hr, ho, hg, _⟩ := run_append_own (P := Tryd.prog) w base 27 ty 44 i (.agg #[.int .i64 0, .int .i64 0]) 2 16 Tryd.underlying27 hi hz hsz hby rfl (by decide) v n xs hown ad l.length c (flatR l) (flatR_length l) hc (flatR_one l) (by unfold maxLen; omega) (by omega) hbase
    exact ⟨v', w', hr, ho, hg⟩
  rcases h3 with rfl | ⟨b, off, rfl, hb, hc⟩
  · cases a with
    | some ad => exact own ad (fun j u h => by simp [flatR] at h) rfl
    | none =>
      refine ⟨v, w, ?_, by simpa [flatR] using hown, ⟨rfl, rfl, rfl, Nat.le_refl _, fun _ _ _ => rfl⟩⟩
      have hs := Go.Src.ofNil (P := Tryd.prog) (w := w) (size := i.size) (tx := 27) Tryd.underlying27 c
      rcases hown.2 with ⟨rfl, rfl⟩ | ⟨g, cap, cur, rfl, _, hg, hnc, _⟩
      · simp [Builtin.append_, run_underlying Tryd.underlying27, sizeOf, typeInfo, hi, Builtin.lenOf, Builtin.firstCells]
      · have := run_append_room_src (P := Tryd.prog) (w := w) 27 27 ty 44 i Tryd.underlying27 hi g 0 n cap (.slice none 0 c) 0 [] hs (by omega) (fun j h => by simp at h) (fun j h => by simp at h)
        simpa [World.setCells] using this
  · exact own ⟨b, off, none⟩ (rg_cells hc) rfl
theorem wpList_append_rg (w : World) {ops : Array Oper} {rest : List Oper} {o : Oper} {a : Act} {Q : Exit → Act → World → Prop} (hgd : o.guard = none) (s x : Operand)
    (ho : o.op = .call { callee := .builtin .append, args := #[s, x], argTypes := #[27, 27] })
    (i : TypeInfo) (hi : Tryd.prog.info? 44 = some i) (hz : i.zero = some (.agg #[.int .i64 0, .int .i64 0])) (hsz : i.size = 2) (hby : i.bytes = 16) (base : Nat)
    (v : Value) (n : Nat) (xs : List Value) (hs : a.eval s = v) (hown : w.ownsRow base 44 2 v n xs) (sv : Value) (l : List (Int × Int)) (hx : a.eval x = sv) (hr : Rg w sv l) (hn : n ≤ 100000) (hl : l.length ≤ 100000) (hbase : base ≤ w.heap.size)
    (h : ∀ v' w', w'.ownsRow base 44 2 v' (n + l.length) (xs ++ flatR l) → w.grownBy w' v.ownBlock → wpList Tryd.prog ops Q rest (a.put o.dst v') w') : wpList Tryd.prog ops Q (o :: rest) a w := by
  refine wpList_plain hgd fun K hK => ?_
  obtain ⟨v', w', hr', h2, h3⟩ := run_append_rg w o.type i hi hz hsz hby base v n xs hown sv l hr hn hl hbase
  unfold Oper.wp execOp
  simp only [ho, resolve, invoke, builtin, Sem.run_bind, Sem.run_pure, Result.andThen_ok, List.map_toArray, List.map_cons, List.map_nil, hs, hx, hr']
  exact hK _ _ (h v' w' h2 h3)
end Go.Proofs.YtjiilcnbajcdhaaDoor
