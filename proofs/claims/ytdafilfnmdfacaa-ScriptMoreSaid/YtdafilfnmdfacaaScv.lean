/-
  A slice of numbers that reads as a list; a script's value, and what came in as one. Over this seat's translation; no condition.
-/
import Derived.Test.YtdafilfnmdfacaaOpp
import Derived.Test.YtdafilfnmdfacaaFew
import Derived.Test.YtdafilfnmdfacaaSma
namespace Go.Proofs.Ytdafilfnmdfacaa
open Go.ChangeShapes Go.WideShapes Go.ChangeAt Go.RowKit Go.Deep

/-- A slice of numbers that reads as a list. -/
def Ri (w : World) (v : Value) (l : List Int) : Prop :=
  ∃ a cap, v = .slice a l.length cap ∧ l.length ≤ cap ∧ cap ≤ maxLen ∧ (l = [] ∨ ∃ b off, a = some ⟨b, off, none⟩ ∧ b < w.heap.size ∧
    ∀ k, k < l.length → w.cell? ⟨b, off + k, none⟩ = some (.int .i64 (nthI l k)))
theorem ri0 (w : World) : Ri w (.slice none 0 0) [] := ⟨_, _, rfl, by simp, by simp [maxLen], .inl rfl⟩
theorem ri1 {w : World} {b : Nat} (hb : b = w.heap.size) (x : Int) (T : Nat) : Ri (w.alloc (.cells #[.int .i64 x] T)) (.slice (some ⟨b, 0, none⟩) 1 1) [x] := by
  subst hb
  refine ⟨_, _, rfl, by simp, by simp [maxLen], .inr ⟨_, _, rfl, by simp, fun k hk => ?_⟩⟩
  match k, hk with
  | 0, _ => simp [nthI, go_sem]
theorem Ri.below {w w' : World} {v : Value} {l : List Int} (h : Ri w v l) (hb : Below w.heap.size w w') : Ri w' v l := by
  obtain ⟨a, cap, hv, hl, hm, h⟩ := h
  refine ⟨a, cap, hv, hl, hm, ?_⟩
  rcases h with h | ⟨b, off, ha, hlt, hc⟩
  · exact .inl h
  · refine .inr ⟨b, off, ha, Nat.lt_of_lt_of_le hlt hb.size, fun k hk => ?_⟩
    rw [hb.cell (p := ⟨b, off + k, none⟩) hlt]
    exact hc k hk
theorem ri_cut20 {w : World} {sv : Value} {l : List Int} (hr : Ri w sv l) : Ri w (cut20 sv) (l.take 20) := by
  obtain ⟨a, cap, rfl, hcap, hn, hr⟩ := hr
  refine ⟨a, cap, by simp [cut20, Nat.min_comm], by simp; omega, hn, ?_⟩
  rcases hr with rfl | ⟨b, off, rfl, hb, hc⟩
  · exact .inl (by simp)
  · refine .inr ⟨b, off, rfl, hb, fun k hk => ?_⟩
    rw [List.length_take] at hk
    have e : nthI (l.take 20) k = nthI l k := by
      unfold nthI
      rw [List.getD_eq_getElem?_getD, List.getD_eq_getElem?_getD, List.getElem?_take, if_pos (by omega)]
    rw [e]
    exact hc k (by omega)
/-- A script's value. -/
def scrV (pads : ByteArray) (rv : Value) (save ram : ByteArray) : Value := .agg #[.string pads, rv, .string save, .string ram]
section
variable {H : Type} {enc : TypeId × Value → H} {w : World} {base : Nat} {spare : Nat → Bool} {held : Bool}
theorem c_int1 : Try.prog.cellsOf 3 = 1 := by kernel_rfl
theorem c_str : Try.prog.cellsOf 9 = 1 := by kernel_rfl
theorem c_sli : Try.prog.cellsOf 26 = 1 := by kernel_rfl
theorem c_scr : Try.prog.cellsOf 28 = 4 := by kernel_rfl
set_option maxRecDepth 100000 in
theorem open_intsc {fuel : Nat} {v : Value} {x : DataW H × List MemPlace} (hf : DataW.trod enc Try.prog w base spare held fuel 26 [v] = some x) :
    ∃ l, Ri w v l := by
  rcases open_slice1 Try.underlying26 c_int1 hf with ⟨hcs, _⟩ | ⟨a, len, cap, m, n, V, D, Pl, hcs, _, hl, hm, hmm, _, hi⟩
  · simp at hcs
    subst hcs
    exact ⟨[], ri0 _⟩
  · simp at hcs
    subst hcs
    have hlm : len ≤ m := by rw [hmm]; split <;> omega
    obtain ⟨l, hll, hq⟩ := list_of len (0 : Int) (fun i q => w.cell? (a.add i) = some (.int .i64 q)) (fun i hil => by
      obtain ⟨hc, ht⟩ := hi i (by omega)
      obtain ⟨n, hn, _⟩ := DataW.trod_int Try.underlying3 ht
      simp at hn
      exact ⟨n, by rw [hc, hn]⟩)
    refine ⟨l, ⟨some a, cap, by rw [hll], by omega, hm, ?_⟩⟩
    by_cases h0 : l = []
    · exact .inl h0
    · have hpos : 0 < len := by
        rw [← hll]
        exact List.length_pos_iff.2 h0
      obtain ⟨b, off, spot⟩ := a
      have h1 := hq 0 hpos
      have hspot : spot = none := by simpa [Addr.add] using World.cell?_spot h1
      subst hspot
      refine .inr ⟨b, off, rfl, ?_, fun k hk => ?_⟩
      · exact World.block_lt_of_cell? w ⟨b, off + 0, none⟩ (by simpa [Addr.add] using h1)
      · have g1 := hq k (by omega)
        have e1 : Addr.add ⟨b, off, none⟩ k = ⟨b, off + k, none⟩ := by unfold Addr.add; split <;> simp_all
        rw [e1] at g1
        exact g1
theorem open_strc {fuel : Nat} {v : Value} {x : DataW H × List MemPlace} (hf : DataW.trod enc Try.prog w base spare held fuel 9 [v] = some x) : ∃ s : ByteArray, v = .string s ∧ s.size ≤ maxLen := by
  obtain ⟨s, hs, _, hm⟩ := DataW.trod_string Try.underlying9 hf
  simp at hs
  exact ⟨s, hs, hm⟩
set_option maxRecDepth 100000 in
theorem open_scrc {fuel : Nat} {c0 c1 c2 c3 : Value} {x : DataW H × List MemPlace} (hf : DataW.trod enc Try.prog w base spare held fuel 28 [c0, c1, c2, c3] = some x) :
    ∃ (a s m : ByteArray) (l : List Int), c0 = .string a ∧ c2 = .string s ∧ c3 = .string m ∧ Ri w c1 l ∧ a.size ≤ maxLen ∧ s.size ≤ maxLen ∧ m.size ≤ maxLen := by
  obtain ⟨n0, y0, h0⟩ := open_field Try.underlying28 hf 0 rfl 9 0 1 rfl rfl c_str
  obtain ⟨n1, y1, h1⟩ := open_field Try.underlying28 hf 1 rfl 26 1 1 rfl rfl c_sli
  obtain ⟨n2, y2, h2⟩ := open_field Try.underlying28 hf 2 rfl 9 2 1 rfl rfl c_str
  obtain ⟨n3, y3, h3⟩ := open_field Try.underlying28 hf 3 rfl 9 3 1 rfl rfl c_str
  obtain ⟨a, rfl, ha⟩ := open_strc h0
  obtain ⟨l, hl⟩ := open_intsc h1
  obtain ⟨s, rfl, hs⟩ := open_strc h2
  obtain ⟨m, rfl, hm⟩ := open_strc h3
  exact ⟨a, s, m, l, rfl, rfl, rfl, hl, ha, hs, hm⟩
theorem open_scr {r : Reach} {b0 : Nat} {v : Value} {d : DataW H} {p : List MemPlace} (hv : Value.okWide Try.prog w r b0 28 v) (h : DataW.Trod enc Try.prog w base spare held 28 v d p) :
    ∃ (a s m : ByteArray) (rv : Value) (l : List Int), v = scrV a rv s m ∧ Ri w rv l ∧ a.size ≤ maxLen ∧ s.size ≤ maxLen ∧ m.size ≤ maxLen := by
  obtain ⟨cs, fuel, x, rfl, hl, hf⟩ := open_cells Try.underlying28 hv h
  rw [c_scr] at hl
  match cs, hl with
  | [c0, c1, c2, c3], _ =>
    obtain ⟨a, s, m, l, rfl, rfl, rfl, hl, ha, hs, hm⟩ := open_scrc hf
    exact ⟨a, s, m, c1, l, rfl, hl, ha, hs, hm⟩
end
end Go.Proofs.Ytdafilfnmdfacaa
