/-
  What came in as a Two of layer 4's statements, as its cells. Over this seat's translation.
-/
import Derived.Test.YtdafilfnmdfacaaOpp
import Derived.Test.YtdafilfnmdfacaaScv
namespace Go.Proofs.Ytdafilfnmdfacaa
open Go.ChangeShapes Go.WideShapes Go.ChangeAt Go.RowKit Go.Deep

def polA (p q : Bool) (sv tv : Value) : Array Value := #[.bool p, .bool q, sv, tv]
def scrA (a : ByteArray) (rv : Value) (s m : ByteArray) : Array Value := #[.string a, rv, .string s, .string m]
def twoC (p q : Bool) (sv tv : Value) (p2 q2 : Bool) (sv2 tv2 : Value) (a : ByteArray) (rv : Value) (s m : ByteArray) (b : ByteArray) (rv2 : Value) (t n : ByteArray) (f g : Value) : Array Value :=
  #[.bool p, .bool q, sv, tv, .bool p2, .bool q2, sv2, tv2, .string a, rv, .string s, .string m, .string b, rv2, .string t, .string n, f, g]
section
variable (p q : Bool) (sv tv : Value) (p2 q2 : Bool) (sv2 tv2 : Value) (a : ByteArray) (rv : Value) (s m : ByteArray) (b : ByteArray) (rv2 : Value) (t n : ByteArray) (f g : Value)
theorem two_p (j : Nat) (x : Value) (h : (polA p q sv tv)[j]? = some x) : (twoC p q sv tv p2 q2 sv2 tv2 a rv s m b rv2 t n f g)[0 + j]? = some x := by
  match j, h with
  | 0, h => exact h
  | 1, h => exact h
  | 2, h => exact h
  | 3, h => exact h
  | j + 4, h => simp [polA] at h
theorem two_q (j : Nat) (x : Value) (h : (polA p2 q2 sv2 tv2)[j]? = some x) : (twoC p q sv tv p2 q2 sv2 tv2 a rv s m b rv2 t n f g)[4 + j]? = some x := by
  match j, h with
  | 0, h => exact h
  | 1, h => exact h
  | 2, h => exact h
  | 3, h => exact h
  | j + 4, h => simp [polA] at h
theorem two_s (j : Nat) (x : Value) (h : (scrA a rv s m)[j]? = some x) : (twoC p q sv tv p2 q2 sv2 tv2 a rv s m b rv2 t n f g)[8 + j]? = some x := by
  match j, h with
  | 0, h => exact h
  | 1, h => exact h
  | 2, h => exact h
  | 3, h => exact h
  | j + 4, h => simp [scrA] at h
theorem two_o (j : Nat) (x : Value) (h : (scrA b rv2 t n)[j]? = some x) : (twoC p q sv tv p2 q2 sv2 tv2 a rv s m b rv2 t n f g)[12 + j]? = some x := by
  match j, h with
  | 0, h => exact h
  | 1, h => exact h
  | 2, h => exact h
  | 3, h => exact h
  | j + 4, h => simp [scrA] at h
end
section
variable {H : Type} {enc : TypeId × Value → H} {w : World} {base : Nat} {spare : Nat → Bool} {held : Bool}
theorem open_polc {fuel : Nat} {c0 c1 c2 c3 : Value} {x : DataW H × List MemPlace} (hf : DataW.trod enc Try.prog w base spare held fuel 25 [c0, c1, c2, c3] = some x) :
    ∃ (a b : Bool) (l m : List (Int × Int)), c0 = .bool a ∧ c1 = .bool b ∧ Rg w c2 l ∧ Rg w c3 m := by
  obtain ⟨n0, y0, h0⟩ := open_field Try.underlying25 hf 0 rfl 22 0 2 rfl rfl c_ports
  obtain ⟨n1, y1, h1⟩ := open_field Try.underlying25 hf 1 rfl 23 2 1 rfl rfl c_slr
  obtain ⟨n2, y2, h2⟩ := open_field Try.underlying25 hf 2 rfl 23 3 1 rfl rfl c_slr
  obtain ⟨a, b, rfl, rfl⟩ := open_two h0
  obtain ⟨l, hl⟩ := open_rangesc h1
  obtain ⟨m, hm⟩ := open_rangesc h2
  exact ⟨a, b, l, m, rfl, rfl, hl, hm⟩
theorem c_twos : Try.prog.cellsOf 30 = 18 := by kernel_rfl
set_option maxRecDepth 100000 in
theorem open_twos {r : Reach} {b0 : Nat} {v : Value} {d : DataW H} {pl : List MemPlace} (hv : Value.okWide Try.prog w r b0 30 v) (h : DataW.Trod enc Try.prog w base spare held 30 v d pl) :
    ∃ (p q : Bool) (sv tv : Value) (ra sa : List (Int × Int)) (p2 q2 : Bool) (sv2 tv2 : Value) (rb sb : List (Int × Int)) (a s m : ByteArray) (rv : Value) (l : List Int) (b t n : ByteArray) (rv2 : Value) (l2 : List Int) (f g : Value),
      v = .agg (twoC p q sv tv p2 q2 sv2 tv2 a rv s m b rv2 t n f g) ∧ (Rg w sv ra ∧ Rg w tv sa) ∧ (Rg w sv2 rb ∧ Rg w tv2 sb) ∧ (Ri w rv l ∧ a.size ≤ maxLen ∧ s.size ≤ maxLen ∧ m.size ≤ maxLen) ∧ (Ri w rv2 l2 ∧ b.size ≤ maxLen ∧ t.size ≤ maxLen ∧ n.size ≤ maxLen) := by
  obtain ⟨cs, fuel, x, rfl, hl, hf⟩ := open_cells Try.underlying30 hv h
  rw [c_twos] at hl
  match cs, hl with
  | [d0, d1, d2, d3, d4, d5, d6, d7, d8, d9, d10, d11, d12, d13, d14, d15, d16, d17], _ =>
    obtain ⟨n0, y0, h0⟩ := open_field Try.underlying30 hf 0 rfl 25 0 4 rfl rfl c_pol
    obtain ⟨n1, y1, h1⟩ := open_field Try.underlying30 hf 1 rfl 25 4 4 rfl rfl c_pol
    obtain ⟨n2, y2, h2⟩ := open_field Try.underlying30 hf 2 rfl 28 8 4 rfl rfl c_scr
    obtain ⟨n3, y3, h3⟩ := open_field Try.underlying30 hf 3 rfl 28 12 4 rfl rfl c_scr
    obtain ⟨p, q, ra, sa, rfl, rfl, k1, k2⟩ := open_polc h0
    obtain ⟨p2, q2, rb, sb, rfl, rfl, k3, k4⟩ := open_polc h1
    obtain ⟨a, s, m, l, rfl, rfl, rfl, k5, k6, k7, k8⟩ := open_scrc h2
    obtain ⟨b, t, n, l2, rfl, rfl, rfl, k9, k10, k11, k12⟩ := open_scrc h3
    exact ⟨p, q, _, _, ra, sa, p2, q2, _, _, rb, sb, a, s, m, _, l, b, t, n, _, l2, _, _, rfl, ⟨k1, k2⟩, ⟨k3, k4⟩, ⟨k5, k6, k7, k8⟩, ⟨k9, k10, k11, k12⟩⟩
end
end Go.Proofs.Ytdafilfnmdfacaa
