/-
  What a law's argument reads as: a byte, and a slice of bytes, opened to its cells. Over this seat's translation; no condition.
-/
import Derived.Test.YtkmmmnoipgdedaaRows
import Derived.Test.YtkmmmnoipgdedaaLbl
import Derived.ProofKit
import Derived.Deep.Slices
import Derived.OpenShut
import Derived.ShutString
import Derived.ChangeOld
import Derived.Below
namespace Go.Proofs.Ytkmmmnoipgdedaa
open Go.ChangeShapes Go.WideShapes Go.ChangeAt Go.RowKit Go.Deep

theorem own : ownKnob Try.prog.godebug = none := by kernel_rfl
theorem laidOut : laidOutB Try.prog = true := by kernel_rfl

section
variable {H : Type} {enc : TypeId × Value → H} {P : Program} {w : World} {base : Nat} {spare : Nat → Bool} {held : Bool}
/-- A struct that came in, as its cells. -/
theorem open_cells {r : Reach} {b0 : Nat} {t : TypeId} {fs : Array Field} {v : Value} {d : DataW H} {p : List MemPlace} (hs : P.underlying t = some (.struct fs)) (hv : Value.okWide P w r b0 t v) (h : DataW.Trod enc P w base spare held t v d p) :
    ∃ (cs : List Value) (fuel : Nat) (x : DataW H × List MemPlace), v = .agg ⟨cs⟩ ∧ cs.length = P.cellsOf t ∧ DataW.trod enc P w base spare held fuel t cs = some x := by
  obtain ⟨cs, rfl, hsz⟩ := okWide_struct hs hv
  obtain ⟨fuel, hf⟩ := h
  obtain ⟨l⟩ := cs
  exact ⟨l, fuel, _, rfl, by simpa using hsz, by simpa [Value.cells] using hf⟩
/-- One field of a struct's cells. -/
theorem open_field {t : TypeId} {fs : Array Field} {fuel : Nat} {cs : List Value} {x : DataW H × List MemPlace} (hs : P.underlying t = some (.struct fs)) (h : DataW.trod enc P w base spare held fuel t cs = some x) (i : Nat) {f : Field} (hf : fs[i]? = some f) (T off m : Nat) (hT : f.type = T) (ho : f.offset = off) (hm : P.cellsOf T = m) :
    ∃ (n : Nat) (y : DataW H × List MemPlace), DataW.trod enc P w base spare held n T ((cs.drop off).take m) = some y := by
  obtain ⟨xs, n, _, _, _, hlen, hg⟩ := DataW.trod_struct hs h
  have hi : i < xs.length := by
    rw [hlen]
    exact (Array.getElem?_eq_some_iff.1 hf).1
  have h1 := hg i f hf
  rw [hT, ho, hm] at h1
  exact ⟨n, xs[i], by rw [h1, List.getElem?_eq_getElem hi]⟩
end

section
variable {H : Type} {enc : TypeId × Value → H} {w : World} {base : Nat} {spare : Nat → Bool} {held : Bool}
theorem c_byte : Try.prog.cellsOf 28 = 2 := by kernel_rfl
theorem c_u8 : Try.prog.cellsOf 5 = 1 := by kernel_rfl
theorem c_bool : Try.prog.cellsOf 4 = 1 := by kernel_rfl
theorem wf_u8 {n : Int} (h : (Lit.int .u8 n).wf = true) : 0 ≤ n ∧ n < 256 := by
  have := bounds_u8 h
  omega
theorem open_u8 {fuel : Nat} {cs : List Value} {x : DataW H × List MemPlace} (h : DataW.trod enc Try.prog w base spare held fuel 5 cs = some x) : ∃ v : Int, cs = [.int .u8 v] ∧ 0 ≤ v ∧ v < 256 := by
  obtain ⟨v, hv, _, hw⟩ := DataW.trod_int Try.underlying5 h
  exact ⟨v, hv, wf_u8 hw⟩
theorem open_boolc {fuel : Nat} {cs : List Value} {x : DataW H × List MemPlace} (h : DataW.trod enc Try.prog w base spare held fuel 4 cs = some x) : ∃ v : Bool, cs = [.bool v] := by
  obtain ⟨v, hv, _⟩ := DataW.trod_bool Try.underlying4 h
  exact ⟨v, hv⟩
/-- A byte's two cells. -/
theorem open_byte {fuel : Nat} {cs : List Value} {x : DataW H × List MemPlace} (hl : cs.length = 2) (h : DataW.trod enc Try.prog w base spare held fuel 28 cs = some x) : ∃ (v : Int) (s : Bool), cs = [.int .u8 v, .bool s] ∧ 0 ≤ v ∧ v < 256 := by
  match cs, hl with
  | [c0, c1], _ =>
    obtain ⟨n0, y0, h0⟩ := open_field Try.underlying28 h 0 rfl 5 0 1 rfl rfl c_u8
    obtain ⟨n1, y1, h1⟩ := open_field Try.underlying28 h 1 rfl 4 1 1 rfl rfl c_bool
    obtain ⟨v, hv, hb⟩ := open_u8 h0
    obtain ⟨s, hs⟩ := open_boolc h1
    simp at hv hs
    exact ⟨v, s, by rw [hv, hs], hb⟩
theorem list_of {α : Type} (n : Nat) (d : α) (Q : Nat → α → Prop) (h : ∀ i, i < n → ∃ q, Q i q) : ∃ l : List α, l.length = n ∧ ∀ i, i < n → Q i (l.getD i d) := by
  induction n with
  | zero => exact ⟨[], rfl, fun i hi => absurd hi (by omega)⟩
  | succ n ih =>
    obtain ⟨l, hl, hq⟩ := ih fun i hi => h i (by omega)
    obtain ⟨q, hqn⟩ := h n (by omega)
    refine ⟨l ++ [q], by simp [hl], fun i hi => ?_⟩
    by_cases e : i < n
    · rw [List.getD_eq_getElem?_getD, List.getElem?_append_left (by omega), ← List.getD_eq_getElem?_getD]
      exact hq i e
    · obtain rfl : i = n := by omega
      rw [List.getD_eq_getElem?_getD, List.getElem?_append_right (by omega), hl]
      simpa using hqn
set_option maxRecDepth 100000 in
/-- A slice of bytes that came in. -/
theorem open_bytes {r : Reach} {b0 : Nat} {v : Value} {d : DataW H} {p : List MemPlace} (hv : Value.okWide Try.prog w r b0 24 v) (h : DataW.Trod enc Try.prog w base spare held 24 v d p) :
    ∃ l, Rd w v l ∧ ∀ k, k < l.length → 0 ≤ (nth l k).1 ∧ (nth l k).1 < 256 := by
  obtain ⟨a0, len0, cap0, rfl⟩ := okWide_slice Try.underlying24 hv
  obtain ⟨fuel, hf⟩ := h
  rcases open_slice Try.underlying24 hf with ⟨hcs, _⟩ | ⟨a, len, cap, m, n, D, Pl, hcs, _, hl, hm, hmm, _, hi⟩
  · simp [Value.cells] at hcs
    obtain ⟨rfl, rfl, rfl⟩ := hcs
    exact ⟨[], rd0 _, fun k hk => absurd hk (by simp)⟩
  · simp [Value.cells] at hcs
    obtain ⟨rfl, rfl, rfl⟩ := hcs
    have hlm : len0 ≤ m := by rw [hmm]; split <;> omega
    obtain ⟨l, hll, hq⟩ := list_of len0 ((0 : Int), false) (fun i q => w.cell? (a.add (i * 2)) = some (.int .u8 q.1) ∧ w.cell? (a.add (i * 2 + 1)) = some (.bool q.2) ∧ 0 ≤ q.1 ∧ q.1 < 256) (fun i hil => by
      obtain ⟨cs', hc, ht⟩ := hi i (by omega)
      rw [c_byte] at hc
      obtain ⟨_, hcl, hat⟩ := World.cells?_some hc
      obtain ⟨v, s, rfl, hb⟩ := open_byte hcl ht
      refine ⟨(v, s), ?_, ?_, hb⟩
      · have := hat 0 (by omega)
        rw [Go.Deep.add_add] at this
        simpa using this
      · have := hat 1 (by omega)
        rw [Go.Deep.add_add] at this
        simpa using this)
    refine ⟨l, ⟨some a, cap0, by rw [hll], by omega, hm, ?_⟩, fun k hk => (hq k (by omega)).2.2⟩
    by_cases h0 : l = []
    · exact .inl h0
    · have hpos : 0 < len0 := by
        rw [← hll]
        exact List.length_pos_iff.2 h0
      obtain ⟨b, off, spot⟩ := a
      have h1 := (hq 0 hpos).2.1
      have hspot : spot = none := by simpa [Addr.add] using World.cell?_spot (hq 0 hpos).1
      subst hspot
      refine .inr ⟨b, off, rfl, ?_, fun k hk => ?_⟩
      · exact World.block_lt_of_cell? w ⟨b, off + (0 * 2 + 1), none⟩ (by simpa [Addr.add] using h1)
      · obtain ⟨g1, g2, _⟩ := hq k (by omega)
        have e1 : Addr.add ⟨b, off, none⟩ (k * 2) = ⟨b, off + k * 2, none⟩ := by unfold Addr.add; split <;> simp_all
        have e2 : Addr.add ⟨b, off, none⟩ (k * 2 + 1) = ⟨b, off + k * 2 + 1, none⟩ := by unfold Addr.add; split <;> simp_all; omega
        rw [e1] at g1
        rw [e2] at g2
        exact ⟨g1, g2⟩
end
end Go.Proofs.Ytkmmmnoipgdedaa
