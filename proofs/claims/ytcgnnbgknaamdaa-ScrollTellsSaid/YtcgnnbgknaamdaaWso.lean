/-
  What came in as a scroll, and as a slice of numbers of sixteen bits, as cells. Over this seat's translation; no condition.
-/
import Derived.Test.YtcgnnbgknaamdaaOpn
import Derived.Test.YtcgnnbgknaamdaaWsd
namespace Go.Proofs.Ytcgnnbgknaamdaa
open Go.ChangeShapes Go.WideShapes Go.ChangeAt Go.RowKit Go.Deep

theorem cs_u16 : Try.prog.cellsOf 22 = 1 := by kernel_rfl
theorem cs_scr : Try.prog.cellsOf 24 = 4 := by kernel_rfl
theorem wf_u16s {n : Int} (h : (Lit.int .u16 n).wf = true) : 0 ≤ n ∧ n < 65536 := by
  have := bounds_u16 h
  omega
def nthH (l : List Int) (k : Nat) : Int := l.getD k 0
/-- A slice of numbers reads as a list. -/
def Rh (w : World) (v : Value) (l : List Int) : Prop :=
  ∃ a cap, v = .slice a l.length cap ∧ l.length ≤ cap ∧ cap ≤ maxLen ∧ (l = [] ∨ ∃ b off, a = some ⟨b, off, none⟩ ∧ b < w.heap.size ∧
    ∀ k, k < l.length → w.cell? ⟨b, off + k, none⟩ = some (.int .u16 (nthH l k)))
theorem rh0 (w : World) : Rh w (.slice none 0 0) [] := ⟨_, _, rfl, by simp, by simp [maxLen], .inl rfl⟩
section
variable {H : Type} {enc : TypeId × Value → H} {w : World} {base : Nat} {spare : Nat → Bool} {held : Bool}
theorem open_scrl {r : Reach} {b0 : Nat} {v : Value} {d : DataW H} {p : List MemPlace} (hv : Value.okWide Try.prog w r b0 24 v) (h : DataW.Trod enc Try.prog w base spare held 24 v d p) :
    ∃ s : Sc, v = .agg (scC s) ∧ s.oct := by
  obtain ⟨cs, fuel, x, rfl, hl, hf⟩ := open_cells Try.underlying24 hv h
  rw [cs_scr] at hl
  match cs, hl with
  | [c0, c1, c2, c3], _ =>
    obtain ⟨n0, y0, h0⟩ := open_field Try.underlying24 hf 0 rfl 22 0 1 rfl rfl cs_u16
    obtain ⟨n1, y1, h1⟩ := open_field Try.underlying24 hf 1 rfl 22 1 1 rfl rfl cs_u16
    obtain ⟨n2, y2, h2⟩ := open_field Try.underlying24 hf 2 rfl 5 2 1 rfl rfl c_u8
    obtain ⟨n3, y3, h3⟩ := open_field Try.underlying24 hf 3 rfl 4 3 1 rfl rfl c_bool
    obtain ⟨v0, e0, _, b0⟩ := DataW.trod_int Try.underlying22 h0
    obtain ⟨v1, e1, _, b1⟩ := DataW.trod_int Try.underlying22 h1
    obtain ⟨v2, e2, b2⟩ := open_u8 h2
    obtain ⟨v3, e3⟩ := open_boolc h3
    have q0 := wf_u16s b0
    have q1 := wf_u16s b1
    simp at e0 e1 e2 e3
    exact ⟨⟨v0, v1, v2, v3⟩, by rw [e0, e1, e2, e3]; rfl, q0, q1, b2⟩
set_option maxRecDepth 100000 in
theorem open_u16l {r : Reach} {b0 : Nat} {v : Value} {d : DataW H} {p : List MemPlace} (hv : Value.okWide Try.prog w r b0 39 v) (h : DataW.Trod enc Try.prog w base spare held 39 v d p) :
    ∃ l, Rh w v l ∧ ∀ k, k < l.length → 0 ≤ nthH l k ∧ nthH l k < 65536 := by
  obtain ⟨a0, len0, cap0, rfl⟩ := okWide_slice Try.underlying39 hv
  obtain ⟨fuel, hf⟩ := h
  rcases open_slice Try.underlying39 hf with ⟨hcs, _⟩ | ⟨a, len, cap, m, n, D, Pl, hcs, _, hl, hm, hmm, _, hi⟩
  · simp [Value.cells] at hcs
    obtain ⟨rfl, rfl, rfl⟩ := hcs
    exact ⟨[], rh0 _, fun k hk => absurd hk (by simp)⟩
  · simp [Value.cells] at hcs
    obtain ⟨rfl, rfl, rfl⟩ := hcs
    have hlm : len0 ≤ m := by rw [hmm]; split <;> omega
    obtain ⟨l, hll, hq⟩ := list_of len0 (0 : Int) (fun i q => w.cell? (a.add i) = some (.int .u16 q) ∧ 0 ≤ q ∧ q < 65536) (fun i hil => by
      obtain ⟨cs', hc, ht⟩ := hi i (by omega)
      rw [cs_u16] at hc
      obtain ⟨_, hcl, hat⟩ := World.cells?_some hc
      obtain ⟨v, hv, _, hb⟩ := DataW.trod_int Try.underlying22 ht
      subst hv
      refine ⟨v, ?_, wf_u16s hb⟩
      have := hat 0 (by omega)
      rw [Go.Deep.add_add] at this
      simpa using this)
    refine ⟨l, ⟨some a, cap0, by rw [hll], by omega, hm, ?_⟩, fun k hk => (hq k (by omega)).2⟩
    by_cases h0 : l = []
    · exact .inl h0
    · have hpos : 0 < len0 := by
        rw [← hll]
        exact List.length_pos_iff.2 h0
      obtain ⟨b, off, spot⟩ := a
      have h1 := (hq 0 hpos).1
      have hspot : spot = none := by simpa [Addr.add] using World.cell?_spot h1
      subst hspot
      refine .inr ⟨b, off, rfl, ?_, fun k hk => ?_⟩
      · exact World.block_lt_of_cell? w ⟨b, off + 0, none⟩ (by simpa [Addr.add] using h1)
      · have g1 := (hq k (by omega)).1
        have e1 : Addr.add ⟨b, off, none⟩ k = ⟨b, off + k, none⟩ := by unfold Addr.add; split <;> simp_all
        rw [e1] at g1
        exact g1
end
end Go.Proofs.Ytcgnnbgknaamdaa
