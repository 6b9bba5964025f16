/-
  What came in as a policy, as its cells: two bools, and two slices of ranges. Over this seat's translation; no condition.
-/
import Derived.Test.YtdafilfnmdfacaaOpr
import Derived.Test.YtdafilfnmdfacaaPck
namespace Go.Proofs.Ytdafilfnmdfacaa
open Go.ChangeShapes Go.WideShapes Go.ChangeAt Go.RowKit Go.Deep
section
variable {H : Type} {enc : TypeId × Value → H} {w : World} {base : Nat} {spare : Nat → Bool} {held : Bool}
set_option maxRecDepth 100000 in
/-- A slice of ranges that came in. -/
theorem open_rangesc {fuel : Nat} {v : Value} {x : DataW H × List MemPlace} (hf : DataW.trod enc Try.prog w base spare held fuel 23 [v] = some x) :
    ∃ l, Rg w v l := by
  rcases open_slice Try.underlying23 hf with ⟨hcs, _⟩ | ⟨a, len, cap, m, n, D, Pl, hcs, _, hl, hm, hmm, _, hi⟩
  · simp at hcs
    subst hcs
    exact ⟨[], rg0 _⟩
  · simp at hcs
    subst hcs
    have hlm : len ≤ m := by rw [hmm]; split <;> omega
    obtain ⟨l, hll, hq⟩ := list_of len ((0 : Int), (0 : Int)) (fun i q => w.cell? (a.add (i * 2)) = some (.int .i64 q.1) ∧ w.cell? (a.add (i * 2 + 1)) = some (.int .i64 q.2)) (fun i hil => by
      obtain ⟨cs', hc, ht⟩ := hi i (by omega)
      rw [c_range] at hc
      obtain ⟨_, hcl, hat⟩ := World.cells?_some hc
      obtain ⟨v, s, rfl⟩ := open_range hcl ht
      refine ⟨(v, s), ?_, ?_⟩
      · have := hat 0 (by omega)
        rw [Go.Deep.add_add] at this
        simpa using this
      · have := hat 1 (by omega)
        rw [Go.Deep.add_add] at this
        simpa using this)
    refine ⟨l, ⟨some a, cap, by rw [hll], by omega, hm, ?_⟩⟩
    by_cases h0 : l = []
    · exact .inl h0
    · have hpos : 0 < len := by
        rw [← hll]
        exact List.length_pos_iff.2 h0
      obtain ⟨b, off, spot⟩ := a
      have h1 := (hq 0 hpos).2
      have hspot : spot = none := by simpa [Addr.add] using World.cell?_spot (hq 0 hpos).1
      subst hspot
      refine .inr ⟨b, off, rfl, ?_, fun k hk => ?_⟩
      · exact World.block_lt_of_cell? w ⟨b, off + (0 * 2 + 1), none⟩ (by simpa [Addr.add] using h1)
      · obtain ⟨g1, g2⟩ := hq k (by omega)
        have e1 : Addr.add ⟨b, off, none⟩ (k * 2) = ⟨b, off + k * 2, none⟩ := by unfold Addr.add; split <;> simp_all
        have e2 : Addr.add ⟨b, off, none⟩ (k * 2 + 1) = ⟨b, off + k * 2 + 1, none⟩ := by unfold Addr.add; split <;> simp_all; omega
        rw [e1] at g1
        rw [e2] at g2
        exact ⟨g1, g2⟩
theorem c_pol : Try.prog.cellsOf 25 = 4 := by kernel_rfl
theorem c_ports : Try.prog.cellsOf 22 = 2 := by kernel_rfl
theorem c_slr : Try.prog.cellsOf 23 = 1 := by kernel_rfl
set_option maxRecDepth 100000 in
theorem open_two {fuel : Nat} {c0 c1 : Value} {x : DataW H × List MemPlace} (h : DataW.trod enc Try.prog w base spare held fuel 22 [c0, c1] = some x) : ∃ a b : Bool, c0 = .bool a ∧ c1 = .bool b := by
  obtain ⟨xs, k, _, hx, hl, hxl, hel⟩ := DataW.trod_array Try.underlying22 h
  have h0 := hel 0 (by decide)
  have h1 := hel 1 (by decide)
  rw [c_bool] at h0 h1
  match xs, hxl with
  | [x0, x1], _ =>
    obtain ⟨a, ha⟩ := open_boolc (show DataW.trod _ Try.prog w _ _ _ k 4 [c0] = some x0 from h0)
    obtain ⟨b, hb⟩ := open_boolc (show DataW.trod _ Try.prog w _ _ _ k 4 [c1] = some x1 from h1)
    simp at ha hb
    exact ⟨a, b, ha, hb⟩
set_option maxRecDepth 100000 in
theorem open_pol {r : Reach} {b0 : Nat} {v : Value} {d : DataW H} {p : List MemPlace} (hv : Value.okWide Try.prog w r b0 25 v) (h : DataW.Trod enc Try.prog w base spare held 25 v d p) :
    ∃ (a b : Bool) (s t : Value) (l m : List (Int × Int)), v = polV a b s t ∧ Rg w s l ∧ Rg w t m := by
  obtain ⟨cs, fuel, x, rfl, hl, hf⟩ := open_cells Try.underlying25 hv h
  rw [c_pol] at hl
  match cs, hl with
  | [c0, c1, c2, c3], _ =>
    obtain ⟨n0, y0, h0⟩ := open_field Try.underlying25 hf 0 rfl 22 0 2 rfl rfl c_ports
    obtain ⟨n1, y1, h1⟩ := open_field Try.underlying25 hf 1 rfl 23 2 1 rfl rfl c_slr
    obtain ⟨n2, y2, h2⟩ := open_field Try.underlying25 hf 2 rfl 23 3 1 rfl rfl c_slr
    obtain ⟨a, b, rfl, rfl⟩ := open_two h0
    obtain ⟨l, hl⟩ := open_rangesc h1
    obtain ⟨m, hm⟩ := open_rangesc h2
    exact ⟨a, b, c2, c3, l, m, rfl, hl, hm⟩
end
end Go.Proofs.Ytdafilfnmdfacaa
