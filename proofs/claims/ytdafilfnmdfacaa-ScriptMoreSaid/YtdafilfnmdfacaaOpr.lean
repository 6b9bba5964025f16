/-
  What a law's argument reads as: a slice of ranges, opened to its cells. Over this seat's translation; no condition.
-/
import Derived.Test.YtdafilfnmdfacaaOpn
import Derived.Test.YtdafilfnmdfacaaRng
namespace Go.Proofs.Ytdafilfnmdfacaa
open Go.ChangeShapes Go.WideShapes Go.ChangeAt Go.RowKit Go.Deep
section
variable {H : Type} {enc : TypeId × Value → H} {w : World} {base : Nat} {spare : Nat → Bool} {held : Bool}
theorem c_range : Try.prog.cellsOf 52 = 2 := by kernel_rfl
theorem c_int : Try.prog.cellsOf 3 = 1 := by kernel_rfl
theorem open_i64 {fuel : Nat} {cs : List Value} {x : DataW H × List MemPlace} (h : DataW.trod enc Try.prog w base spare held fuel 3 cs = some x) : ∃ v : Int, cs = [.int .i64 v] := by
  obtain ⟨v, hv, _, _⟩ := DataW.trod_int Try.underlying3 h
  exact ⟨v, hv⟩
/-- A range's two cells. -/
theorem open_range {fuel : Nat} {cs : List Value} {x : DataW H × List MemPlace} (hl : cs.length = 2) (h : DataW.trod enc Try.prog w base spare held fuel 52 cs = some x) : ∃ (a b : Int), cs = [.int .i64 a, .int .i64 b] := by
  match cs, hl with
  | [c0, c1], _ =>
    obtain ⟨n0, y0, h0⟩ := open_field Try.underlying52 h 0 rfl 3 0 1 rfl rfl c_int
    obtain ⟨n1, y1, h1⟩ := open_field Try.underlying52 h 1 rfl 3 1 1 rfl rfl c_int
    obtain ⟨v, hv⟩ := open_i64 h0
    obtain ⟨s, hs⟩ := open_i64 h1
    simp at hv hs
    exact ⟨v, s, by rw [hv, hs]⟩
set_option maxRecDepth 100000 in
/-- A slice of ranges that came in. -/
theorem open_ranges {r : Reach} {b0 : Nat} {v : Value} {d : DataW H} {p : List MemPlace} (hv : Value.okWide Try.prog w r b0 23 v) (h : DataW.Trod enc Try.prog w base spare held 23 v d p) :
    ∃ l, Rg w v l := by
  obtain ⟨a0, len0, cap0, rfl⟩ := okWide_slice Try.underlying23 hv
  obtain ⟨fuel, hf⟩ := h
  rcases open_slice Try.underlying23 hf with ⟨hcs, _⟩ | ⟨a, len, cap, m, n, D, Pl, hcs, _, hl, hm, hmm, _, hi⟩
  · simp [Value.cells] at hcs
    obtain ⟨rfl, rfl, rfl⟩ := hcs
    exact ⟨[], rg0 _⟩
  · simp [Value.cells] at hcs
    obtain ⟨rfl, rfl, rfl⟩ := hcs
    have hlm : len0 ≤ m := by rw [hmm]; split <;> omega
    obtain ⟨l, hll, hq⟩ := list_of len0 ((0 : Int), (0 : Int)) (fun i q => w.cell? (a.add (i * 2)) = some (.int .i64 q.1) ∧ w.cell? (a.add (i * 2 + 1)) = some (.int .i64 q.2)) (fun i hil => by
      obtain ⟨cs', hc, ht⟩ := hi i (by omega)
      rw [c_range] at hc
      obtain ⟨_, hcl, hat⟩ := World.cells?_some hc
      obtain ⟨v, s, rfl⟩ := open_range hcl ht
      refine ⟨(v, s), ?_, ?_⟩
      · have := hat 0 (by omega)
        rw [Go.Deep.add_add] at this
        simpa using this
      · have := hat 1 (by omega)
        rw [Go.Deep.add_add] at this
        simpa using this)
    refine ⟨l, ⟨some a, cap0, by rw [hll], by omega, hm, ?_⟩⟩
    by_cases h0 : l = []
    · exact .inl h0
    · have hpos : 0 < len0 := by
        rw [← hll]
        exact List.length_pos_iff.2 h0
      obtain ⟨b, off, spot⟩ := a
      have h1 := (hq 0 hpos).2
      have hspot : spot = none := by simpa [Addr.add] using World.cell?_spot (hq 0 hpos).1
      subst hspot
      refine .inr ⟨b, off, rfl, ?_, fun k hk => ?_⟩
      · exact World.block_lt_of_cell? w ⟨b, off + (0 * 2 + 1), none⟩ (by simpa [Addr.add] using h1)
      · obtain ⟨g1, g2⟩ := hq k (by omega)
        have e1 : Addr.add ⟨b, off, none⟩ (k * 2) = ⟨b, off + k * 2, none⟩ := by unfold Addr.add; split <;> simp_all
        have e2 : Addr.add ⟨b, off, none⟩ (k * 2 + 1) = ⟨b, off + k * 2 + 1, none⟩ := by unfold Addr.add; split <;> simp_all; omega
        rw [e1] at g1
        rw [e2] at g2
        exact ⟨g1, g2⟩
end
end Go.Proofs.Ytdafilfnmdfacaa
