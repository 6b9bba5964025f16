/-
  Several texts in one: what is read and written by the functions on the way to the statements. Conditions stand in each theorem.
-/
import Derived.Test.YtbonamhinnhlnaaGreatDoorP01
import Derived.WalkKit
import Derived.ProofKit
import Derived.Lib.Hide
import Derived.Lib.QuietBelow
import Derived.BigQuiet
import Derived.Laws.Tables
import Derived.Laws.Rows
namespace Go.Proofs.YtbonamhinnhlnaaGreatDoor
set_option linter.unusedSimpArgs false

def cI (p : Int) : Int := oneI (hasV p 1)
theorem oneI_two (b : Bool) : 0 ≤ oneI b ∧ oneI b ≤ 1 := by cases b <;> decide
theorem cI_two (p : Int) : 0 ≤ cI p ∧ cI p ≤ 1 := oneI_two _
theorem oneI_ne (b : Bool) : (oneI b != 0) = b := by cases b <;> decide
def nzP (p v : Int) : Int := pbV (pbV p 128 (decide (128 ≤ v))) 2 (decide (v = 0))
def nzS (s : Int) (x : Bool) : Int := pbV (pbV s 128 x) 2 x
def sgn (v : Int) : Int := if v < 128 then v else v - 256
def adcV (a m c : Int) : Int := (a + m + c) % 256
def adcO (a m c : Int) : Bool := decide (sgn a + sgn m + c < -128) || decide (127 < sgn a + sgn m + c)
def adcP (p a m c : Int) : Int := nzP (pbV (pbV p 1 (decide (256 ≤ a + m + c))) 64 (adcO a m c)) (adcV a m c)
def adcS (s : Int) (x : Bool) : Int := nzS (pbV (pbV s 1 x) 64 x) x
def lessV (a m : Int) : Int := (256 + a - m) % 256
def lessP (p a m : Int) : Int := nzP (pbV p 1 (decide (m ≤ a))) (lessV a m)
def lessS (s : Int) (x : Bool) : Int := nzS (pbV s 1 x) x
def bothV (a m : Int) : Int := bits .and .u8 a m
def bitP (p a m : Int) : Int := pbV (pbV (pbV p 2 (decide (bothV a m = 0))) 128 (decide (128 ≤ m))) 64 (decide (m / 64 % 2 = 1))
def bitS (s : Int) (x y : Bool) : Int := pbV (pbV (pbV s 2 (x || y)) 128 y) 64 y
def leftV (b c : Int) : Int := (2 * b + c) % 256
def leftP (p b c : Int) : Int := nzP (pbV p 1 (decide (128 ≤ b))) (leftV b c)
def rollS (s : Int) (x y : Bool) : Int := nzS (pbV s 1 x) (x || y)
def rightV (b c : Int) : Int := (b / 2 + 128 * c) % 256
def rightP (p b c : Int) : Int := nzP (pbV p 1 (decide (b % 2 = 1))) (rightV b c)
def arrV (a m c : Int) : Int := rightV (bothV a m) c
def arrP (p a m c : Int) : Int := pbV (pbV (rightP p (bothV a m) c) 1 (decide (arrV a m c / 64 % 2 = 1))) 64 (decide (arrV a m c / 64 % 2 ≠ arrV a m c / 32 % 2))
def arrS (s : Int) (x y : Bool) : Int := pbV (pbV (rollS s x y) 1 (x || y)) 64 (x || y)
def pushV (p : Int) (k : Bool) : Int := clr p + 32 + if k then 16 else 0
def pullS (x : Bool) : Int := if x then 207 else 0

section
variable {p s a m b c v : Int} {x y : Bool}
theorem nzP_le (p v : Int) : 0 ≤ nzP p v ∧ nzP p v < 256 := pbV_le _ _ _
theorem nzS_le (s : Int) (x : Bool) : 0 ≤ nzS s x ∧ nzS s x < 256 := pbV_le _ _ _
theorem adcV_le (a m c : Int) : 0 ≤ adcV a m c ∧ adcV a m c < 256 := by unfold adcV; omega
theorem lessV_le (a m : Int) : 0 ≤ lessV a m ∧ lessV a m < 256 := by unfold lessV; omega
theorem leftV_le (b c : Int) : 0 ≤ leftV b c ∧ leftV b c < 256 := by unfold leftV; omega
theorem rightV_le (b c : Int) : 0 ≤ rightV b c ∧ rightV b c < 256 := by unfold rightV; omega
theorem bothV_le (a m : Int) (h0 : 0 ≤ a) (h1 : a < 256) (g0 : 0 ≤ m) (g1 : m < 256) : 0 ≤ bothV a m ∧ bothV a m < 256 := by
  unfold bothV
  rw [u8_and a m h0 h1 g0 g1]
  have : a.toNat &&& m.toNat ≤ a.toNat := Nat.and_le_left
  omega
theorem clr_nzP (p v : Int) : clr (nzP p v) = nzP p v := clr_put _ _ _
theorem clr_nzS (s : Int) (x : Bool) : clr (nzS s x) = nzS s x := clr_put _ _ _
/-- Bits 128 and 2 are put before, or behind: it is the same. -/
theorem nzP_put (p v : Int) (b : Int) (x : Bool) (h : (128 : Int).toNat &&& b.toNat = 0) (g : (2 : Int).toNat &&& b.toNat = 0) : pbV (nzP p v) b x = nzP (pbV p b x) v := by
  unfold nzP
  rw [put_comm _ 2 b _ _ g, put_comm _ 128 b _ _ h]
theorem nzS_put (s : Int) (y : Bool) (b : Int) (x : Bool) (h : (128 : Int).toNat &&& b.toNat = 0) (g : (2 : Int).toNat &&& b.toNat = 0) : pbV (nzS s y) b x = nzS (pbV s b x) y := by
  unfold nzS
  rw [put_comm _ 2 b _ _ g, put_comm _ 128 b _ _ h]
theorem adcP_pro : pbV (pbV (nzP p (adcV a m c)) 1 (decide (256 ≤ a + m + c))) 64 (adcO a m c) = adcP p a m c := by
  rw [nzP_put _ _ 1 _ (by decide) (by decide), nzP_put _ _ 64 _ (by decide) (by decide)]; rfl
theorem adcS_pro : pbV (pbV (nzS s x) 1 x) 64 x = adcS s x := by
  rw [nzS_put _ _ 1 _ (by decide) (by decide), nzS_put _ _ 64 _ (by decide) (by decide)]; rfl
theorem lessP_pro : pbV (nzP p (lessV a m)) 1 (decide (m ≤ a)) = lessP p a m := by rw [nzP_put _ _ 1 _ (by decide) (by decide)]; rfl
theorem lessS_pro : pbV (nzS s x) 1 x = lessS s x := by rw [nzS_put _ _ 1 _ (by decide) (by decide)]; rfl
theorem leftP_pro : pbV (nzP p (leftV b c)) 1 (decide (128 ≤ b)) = leftP p b c := by rw [nzP_put _ _ 1 _ (by decide) (by decide)]; rfl
theorem rightP_pro : pbV (nzP p (rightV b c)) 1 (decide (b % 2 = 1)) = rightP p b c := by rw [nzP_put _ _ 1 _ (by decide) (by decide)]; rfl
theorem rollS_pro : pbV (nzS s (x || y)) 1 x = rollS s x y := by rw [nzS_put _ _ 1 _ (by decide) (by decide)]; rfl

/-! ### the program's bits -/
theorem top_bit (h0 : 0 ≤ v) (h1 : v < 256) : (bitV v 7 != 0) = decide (128 ≤ v) := byte_all (p := fun v => (bitV v 7 != 0) = decide (128 ≤ v)) (by decide +kernel) v h0 h1
theorem six_bit (h0 : 0 ≤ v) (h1 : v < 256) : (bitV v 6 != 0) = decide (v / 64 % 2 = 1) := byte_all (p := fun v => (bitV v 6 != 0) = decide (v / 64 % 2 = 1)) (by decide +kernel) v h0 h1
theorem low_bit (h0 : 0 ≤ v) (h1 : v < 256) : (bitV v 0 != 0) = decide (v % 2 = 1) := byte_all (p := fun v => (bitV v 0 != 0) = decide (v % 2 = 1)) (by decide +kernel) v h0 h1
theorem two_bit (h0 : 0 ≤ v) (h1 : v < 256) : (bits .xor .u8 (bitV v 6) (bitV v 5) != 0) = decide (v / 64 % 2 ≠ v / 32 % 2) := byte_all (p := fun v => (bits .xor .u8 (bitV v 6) (bitV v 5) != 0) = decide (v / 64 % 2 ≠ v / 32 % 2)) (by decide +kernel) v h0 h1
theorem xor_255 (h0 : 0 ≤ v) (h1 : v < 256) : bits .xor .u8 v 255 = 255 - v := byte_all (p := fun v => bits .xor .u8 v 255 = 255 - v) (by decide +kernel) v h0 h1
theorem left_or (h0 : 0 ≤ b) (h1 : b < 256) (g0 : 0 ≤ c) (g1 : c ≤ 1) : bits .or .u8 (b * 2 % 256) c = leftV b c := by
  rcases (show c = 0 ∨ c = 1 by omega) with rfl | rfl
  · exact byte_all (p := fun b => bits .or .u8 (b * 2 % 256) 0 = (2 * b + 0) % 256) (by decide +kernel) b h0 h1
  · exact byte_all (p := fun b => bits .or .u8 (b * 2 % 256) 1 = (2 * b + 1) % 256) (by decide +kernel) b h0 h1
theorem right_or (h0 : 0 ≤ b) (h1 : b < 256) (g0 : 0 ≤ c) (g1 : c ≤ 1) : bits .or .u8 (b / 2) (c * 128) = rightV b c := by
  rcases (show c = 0 ∨ c = 1 by omega) with rfl | rfl
  · exact byte_all (p := fun b => bits .or .u8 (b / 2) (0 * 128) = (b / 2 + 128 * 0) % 256) (by decide +kernel) b h0 h1
  · exact byte_all (p := fun b => bits .or .u8 (b / 2) (1 * 128) = (b / 2 + 128 * 1) % 256) (by decide +kernel) b h0 h1
theorem tb7 (h0 : 0 ≤ v) (h1 : v < 256) : v.toNat.testBit 7 = decide (128 ≤ v) := byte_all (p := fun v => v.toNat.testBit 7 = decide (128 ≤ v)) (by decide +kernel) v h0 h1
theorem xor_le (a b : Int) (h0 : 0 ≤ a) (h1 : a < 256) (g0 : 0 ≤ b) (g1 : b < 256) : 0 ≤ bits .xor .u8 a b ∧ bits .xor .u8 a b < 256 := by
  rw [u8_xor a b h0 h1 g0 g1]
  have : a.toNat ^^^ b.toNat < 2 ^ 8 := Nat.xor_lt_two_pow (by omega) (by omega)
  omega
theorem ovf_bit (h0 : 0 ≤ a) (h1 : a < 256) (g0 : 0 ≤ m) (g1 : m < 256) (c0 : 0 ≤ c) (c1 : c ≤ 1) : (bitV (bits .and .u8 (bits .xor .u8 a (adcV a m c)) (bits .xor .u8 m (adcV a m c))) 7 != 0) = adcO a m c := by
  obtain ⟨v0, v1⟩ := adcV_le a m c
  obtain ⟨x0, x1⟩ := xor_le a _ h0 h1 v0 v1
  obtain ⟨y0, y1⟩ := xor_le m _ g0 g1 v0 v1
  obtain ⟨z0, z1⟩ := bothV_le _ _ x0 x1 y0 y1
  unfold bothV at z0 z1
  rw [top_bit z0 z1, ← tb7 z0 z1, u8_and _ _ x0 x1 y0 y1, Int.toNat_natCast, Nat.testBit_and, u8_xor _ _ h0 h1 v0 v1, u8_xor _ _ g0 g1 v0 v1, Int.toNat_natCast, Int.toNat_natCast, Nat.testBit_xor, Nat.testBit_xor, tb7 h0 h1, tb7 g0 g1, tb7 v0 v1]
  have hv : adcV a m c = a + m + c ∨ adcV a m c = a + m + c - 256 := by unfold adcV; omega
  unfold adcO sgn
  generalize adcV a m c = v at *
  have f : ∀ x : Int, decide (128 ≤ x) = !decide (x < 128) := fun x => by
    by_cases h : x < 128
    · rw [decide_eq_true h, decide_eq_false (by omega)]; rfl
    · rw [decide_eq_false h, decide_eq_true (by omega)]; rfl
  rw [f a, f m, f v]
  by_cases e1 : a < 128 <;> by_cases e2 : m < 128 <;> by_cases e3 : v < 128
  all_goals
    simp only [e1, e2, e3, if_true, if_false, decide_true, decide_false, Bool.not_true, Bool.not_false, Bool.xor_self, Bool.false_and, Bool.and_false, Bool.and_true, Bool.xor_false, Bool.xor_true]
    rw [eq_comm]
    simp only [Bool.or_eq_true, Bool.or_eq_false_iff, decide_eq_true_eq, decide_eq_false_iff_not]
    omega

theorem car_bit (n : Int) (h : 0 ≤ n) : (n / 256 != 0) = decide (256 ≤ n) := by
  rw [Bool.eq_iff_iff]
  simp
  omega

/-! ### back again -/
theorem has_nz (p v : Int) : hasV (nzP p v) 1 = hasV p 1 := by
  unfold nzP
  rw [has_over _ 2 _ (by decide), has_over _ 128 _ (by decide)]
end
end Go.Proofs.YtbonamhinnhlnaaGreatDoor
namespace Go.Proofs.YtbonamhinnhlnaaGreatDoor
open Go.RowKit Go.Sort

/-- Of the blocks below n only those of X may have turned since w0; the blocks that l lists (number, cells) hold just these; they are new, or of X, and no two are one. -/
structure Mem (n : Nat) (X : List Nat) (w0 w : World) (l : List (Nat × Array Value)) : Prop where
  os : w.os = w0.os
  tape : w.tape = w0.tape
  output : w.output = w0.output
  size : w0.heap.size ≤ w.heap.size
  base : n ≤ w0.heap.size
  block : ∀ k, k < n → k ∉ X → w.heap[k]? = w0.heap[k]?
  row : ∀ x ∈ l, ∃ T, w.heap[x.1]? = some (.cells x.2 T)
  mine : ∀ x ∈ l, n ≤ x.1 ∨ x.1 ∈ X
  nodup : (l.map (·.1)).Nodup

section
variable {n : Nat} {X : List Nat} {w0 w w' : World} {l : List (Nat × Array Value)} {R : Nat} {cs : Array Value}
theorem Mem.start (w : World) : Mem w.heap.size [] w w [] :=
  ⟨rfl, rfl, rfl, Nat.le_refl _, Nat.le_refl _, fun _ _ _ => rfl, fun _ h => (by cases h), fun _ h => (by cases h), List.nodup_nil⟩
theorem Mem.begin {T : TypeId} (h : w.heap[R]? = some (.cells cs T)) : Mem w.heap.size [R] w w [(R, cs)] :=
  ⟨rfl, rfl, rfl, Nat.le_refl _, Nat.le_refl _, fun _ _ _ => rfl, fun x hx => by simp at hx; subst hx; exact ⟨T, h⟩, fun x hx => by simp at hx; subst hx; exact .inr (by simp), by simp⟩
theorem Mem.toBelow (h : Mem n [] w0 w l) : Below n w0 w := ⟨h.os, h.tape, h.output, h.size, fun k hk => h.block k hk (by simp)⟩
theorem Mem.lt (h : Mem n X w0 w l) {x : Nat × Array Value} (hx : x ∈ l) : x.1 < w.heap.size := by
  obtain ⟨T, e⟩ := h.row x hx
  exact (Array.getElem?_eq_some_iff.1 e).1
theorem Mem.next (h : Mem n X w0 w l) (hb : Below w.heap.size w w') : Mem n X w0 w' l :=
  ⟨hb.os.trans h.os, hb.tape.trans h.tape, hb.output.trans h.output, Nat.le_trans h.size hb.size, h.base,
   fun k hk hX => (hb.block k (Nat.lt_of_lt_of_le hk (Nat.le_trans h.base h.size))).trans (h.block k hk hX),
   fun x hx => by obtain ⟨T, e⟩ := h.row x hx; exact ⟨T, (hb.block _ (h.lt hx)).trans e⟩, h.mine, h.nodup⟩
theorem Mem.sub (h : Mem n X w0 w l) {l' : List (Nat × Array Value)} (hs : l'.Sublist l) : Mem n X w0 w l' :=
  ⟨h.os, h.tape, h.output, h.size, h.base, h.block, fun x hx => h.row x (hs.subset hx), fun x hx => h.mine x (hs.subset hx), (hs.map _).nodup h.nodup⟩
theorem Mem.new (h : Mem n X w0 w l) (cs : Array Value) (T : TypeId) : Mem n X w0 (w.alloc (.cells cs T)) ((w.heap.size, cs) :: l) := by
  have hh := h.next (Below.alloc (Below.refl _ _) (Nat.le_refl _) (.cells cs T))
  refine ⟨hh.os, hh.tape, hh.output, hh.size, hh.base, hh.block, fun x hx => ?_, fun x hx => ?_, ?_⟩
  · rcases List.mem_cons.1 hx with rfl | hx
    · exact ⟨T, heap_alloc_new w _⟩
    · exact hh.row x hx
  · rcases List.mem_cons.1 hx with rfl | hx
    · exact .inl (Nat.le_trans h.base h.size)
    · exact hh.mine x hx
  · simp only [List.map_cons, List.nodup_cons]
    refine ⟨fun hm => ?_, h.nodup⟩
    obtain ⟨x, hx, e⟩ := List.mem_map.1 hm
    have := h.lt hx
    omega
theorem Mem.add (h : Mem n X w0 w l) (hb : Below w.heap.size w w') {b : Nat} {T : TypeId} (hB : w.heap.size ≤ b) (hO : w'.heap[b]? = some (.cells cs T)) : Mem n X w0 w' ((b, cs) :: l) := by
  have hh := h.next hb
  refine ⟨hh.os, hh.tape, hh.output, hh.size, hh.base, hh.block, fun x hx => ?_, fun x hx => ?_, ?_⟩
  · rcases List.mem_cons.1 hx with rfl | hx
    · exact ⟨T, hO⟩
    · exact hh.row x hx
  · rcases List.mem_cons.1 hx with rfl | hx
    · exact .inl (Nat.le_trans (Nat.le_trans h.base h.size) hB)
    · exact hh.mine x hx
  · simp only [List.map_cons, List.nodup_cons]
    refine ⟨fun hm => ?_, h.nodup⟩
    obtain ⟨x, hx, e⟩ := List.mem_map.1 hm
    have := h.lt hx
    omega
/-- One listed block has turned, by itself. -/
theorem Mem.turn (h : Mem n X w0 w l) {i : Nat} (hi : l[i]? = some (R, cs)) {cs' : Array Value} (h1 : w'.os = w.os) (h2 : w'.tape = w.tape) (h3 : w'.output = w.output) (h4 : w.heap.size ≤ w'.heap.size)
    (hR : ∃ T, w'.heap[R]? = some (.cells cs' T)) (ho : ∀ k, k < w.heap.size → k ≠ R → w'.heap[k]? = w.heap[k]?) : Mem n X w0 w' (l.set i (R, cs')) := by
  have hil : i < l.length := (List.getElem?_eq_some_iff.1 hi).1
  have hie : l[i] = (R, cs) := (List.getElem?_eq_some_iff.1 hi).2
  have hRm : (R, cs) ∈ l := List.mem_of_getElem? hi
  have hmap : (l.set i (R, cs')).map (·.1) = l.map (·.1) := by
    rw [List.map_set]
    apply List.ext_getElem?
    intro k
    rw [List.getElem?_set]
    split
    · rename_i hk
      subst hk
      simp [hie, hil]
    · rfl
  refine ⟨h1.trans h.os, h2.trans h.tape, h3.trans h.output, Nat.le_trans h.size h4, h.base, fun k hk hX => ?_, fun x hx => ?_, fun x hx => ?_, by rw [hmap]; exact h.nodup⟩
  · have hk2 : k ≠ R := fun e => by
      subst e
      rcases h.mine _ hRm with h | h
      · exact absurd hk (by simp at h; omega)
      · exact hX h
    rw [ho k (Nat.lt_of_lt_of_le hk (Nat.le_trans h.base h.size)) hk2]
    exact h.block k hk hX
  · obtain ⟨j, hj⟩ := List.getElem?_of_mem hx
    rw [List.getElem?_set] at hj
    split at hj
    · rename_i hij
      have := Option.some.inj hj
      subst this
      exact hR
    · rename_i hij
      have hxl : x ∈ l := List.mem_of_getElem? hj
      have hne : x.1 ≠ R := fun e => by
        have hj1 : (l.map (·.1))[j]? = some R := by rw [List.getElem?_map, hj]; simp [e]
        have hi1 : (l.map (·.1))[i]? = some R := by rw [List.getElem?_map, hi]; simp
        have hl1 : i < (l.map (·.1)).length := by simpa using hil
        exact hij ((List.getElem?_inj hl1 h.nodup).1 (hi1.trans hj1.symm))
      obtain ⟨T, e⟩ := h.row x hxl
      exact ⟨T, (ho _ (h.lt hxl) hne).trans e⟩
  · have hx1 : x.1 ∈ (l.set i (R, cs')).map (·.1) := List.mem_map.2 ⟨x, hx, rfl⟩
    rw [hmap] at hx1
    obtain ⟨y, hy, e⟩ := List.mem_map.1 hx1
    rw [← e]
    exact h.mine y hy
theorem Mem.setRow (h : Mem n X w0 w l) {i : Nat} (hi : l[i]? = some (R, cs)) (cs' : Array Value) : Mem n X w0 (w.setRow R cs') (l.set i (R, cs')) := by
  obtain ⟨T, e⟩ := h.row _ (List.mem_of_getElem? hi)
  exact h.turn hi rfl rfl rfl (by simp) ⟨T, setRow_heap w R _ cs' T _ e⟩ (fun k _ hk => setRow_other w R k cs' hk)
/-- A callee that may turn one listed block. -/
theorem Mem.call (h : Mem n X w0 w l) {i : Nat} (hi : l[i]? = some (R, cs)) {cs' : Array Value} (hc : Mem w.heap.size [R] w w' [(R, cs')]) : Mem n X w0 w' (l.set i (R, cs')) :=
  h.turn hi hc.os hc.tape hc.output hc.size (hc.row (R, cs') (by simp)) (fun k hk hne => hc.block k hk (by simpa using hne))
theorem Mem.get (h : Mem n X w0 w l) {i : Nat} (hi : l[i]? = some (R, cs)) : ∃ T, w.heap[R]? = some (.cells cs T) := h.row _ (List.mem_of_getElem? hi)
theorem Mem.cell (h : Mem n X w0 w l) {i : Nat} (hi : l[i]? = some (R, cs)) {j : Nat} {v : Value} (hj : cs[j]? = some v) : w.cell? ⟨R, j, none⟩ = some v := by
  obtain ⟨T, e⟩ := h.get hi
  rw [cell_of_row w R j cs T _ e, hj]
end

theorem addr_add (R off i : Nat) : (⟨R, off, none⟩ : Addr).add i = ⟨R, off + i, none⟩ := by unfold Addr.add; split <;> simp_all

/-- Is it a struct, or an array? -/
def aggB : TypeDesc → Bool
  | .struct _ | .array _ _ => true
  | _ => false
/-- What stands from place k on is written over. -/
def splice (cur : List Value) (k : Nat) (vs : List Value) : List Value := cur.take k ++ vs ++ cur.drop (k + vs.length)

section
variable {P : Program}
theorem run_storeCells_part (g off : Nat) (t : TypeId) : ∀ (vs : List Value) (i : Nat) (cur : Array Value) (w : World), w.heap[g]? = some (.cells cur t (0, 0)) → off + i + vs.length ≤ cur.size → (∀ v ∈ vs, v.oneCell' = true) →
    (storeCells ⟨g, off, none⟩ vs i).run P w = .ok () (w.setRow g (splice cur.toList (off + i) vs).toArray)
  | [], i, cur, w, hg, hl, _ => by
    have e : (splice cur.toList (off + i) []).toArray = cur := by simp [splice]
    rw [e, setRow_self w g cur t _ hg]
    rfl
  | v :: rest, i, cur, w, hg, hl, h1 => by
    have hi : off + i < cur.size := by simp at hl; omega
    have hcell : w.cell? ⟨g, off + i, none⟩ = some cur[off + i] := by simp [World.cell?, hg, hi]
    have hfro : w.frozen? ⟨g, off + i, none⟩ = false := by simp [World.frozen?, hg]
    have hst : (store ((⟨g, off, none⟩ : Addr).add i) v).run P w = .ok () (w.setRow g (cur.setIfInBounds (off + i) v)) := by
      rw [addr_add, run_store P w _ v _ (h1 v (by simp)), hcell]
      simp [hfro, setCell_eq_setRow w g (off + i) cur t (0, 0) v hg]
    have ih := run_storeCells_part g off t rest (i + 1) (cur.setIfInBounds (off + i) v) (w.setRow g (cur.setIfInBounds (off + i) v)) (setRow_heap w g cur _ t _ hg) (by simp at hl ⊢; omega) (fun x hx => h1 x (by simp [hx]))
    simp only [storeCells, Sem.run_bind, hst, Result.andThen_ok, ih, setRow_setRow]
    congr 3
    unfold splice
    apply List.ext_getElem?
    intro k
    simp only [Array.toList_setIfInBounds, List.getElem?_append, List.length_take, List.length_set, Array.length_toList, List.getElem?_take, List.getElem?_set, List.getElem?_drop, List.length_append, List.length_cons]
    by_cases hk : k < off + i
    · simp [hk, show k < off + (i + 1) by omega, show off + i ≠ k by omega, show k < min (off + i) cur.size by omega, show k < min (off + (i + 1)) cur.size by omega, show k < min (off + i) cur.size + (rest.length + 1) by omega, show k < min (off + (i + 1)) cur.size + rest.length by omega]
    · by_cases hk2 : k = off + i
      · subst hk2
        simp [hi, show min (off + i) cur.size = off + i by omega, show min (off + (i + 1)) cur.size = off + (i + 1) by omega, show off + i < off + (i + 1) by omega]
        omega
      · have e1 : min (off + i) cur.size = off + i := by omega
        have e2 : min (off + (i + 1)) cur.size = off + (i + 1) := by simp at hl; omega
        simp only [e1, e2]
        by_cases hk3 : k < off + i + (rest.length + 1)
        · rw [if_pos (by omega), if_neg (by omega), if_pos (by omega), if_neg (by omega), show k - (off + i) = (k - (off + (i + 1))) + 1 by omega]
          simp
        · rw [if_neg (by omega), if_neg (by omega), if_neg (by omega)]
          congr 1
          omega
theorem run_storeVar_part (w : World) (g off : Nat) (t ty : TypeId) (old : Array Value) (v : Value) (hg : w.heap[g]? = some (.cells old t (0, 0))) (hi : (P.info? ty).map (·.size) = some v.cells.size)
    (ho : off + v.cells.size ≤ old.size) (h1 : v.cells.all (·.oneCell') = true) :
    (storeVar ty ⟨g, off, none⟩ v).run P w = .ok () (w.setRow g (splice old.toList off v.cells.toList).toArray) := by
  have := run_storeCells_part (P := P) g off t v.cells.toList 0 old w hg (by simp; omega) (fun x hx => (Array.all_eq_true_iff_forall_mem.1 h1) x (by simpa using hx))
  cases hq : P.info? ty with
  | none => simp [hq] at hi
  | some i =>
    have hs : i.size = v.cells.size := by simpa [hq] using hi
    simp only [Nat.add_zero] at this
    simp [storeVar, sizeOf, typeInfo, hq, hs, this]
theorem run_loadVar_part (w : World) (g off : Nat) (t ty : TypeId) (cs sub : Array Value) (hg : w.heap[g]? = some (.cells cs t (0, 0)))
    (hu' : (P.underlying ty).map aggB = some true) (hi : (P.info? ty).map (·.size) = some sub.size) (hs : ∀ j v, sub[j]? = some v → cs[off + j]? = some v) :
    (loadVar ty ⟨g, off, none⟩).run P w = .ok (.agg sub) w := by
  obtain ⟨d, hu, hd⟩ : ∃ d, P.underlying ty = some d ∧ aggB d = true := by simpa using hu'
  have hl : (loadCells ⟨g, off, none⟩ sub.toList.length).run P w = .ok sub.toList.toArray w :=
    run_loadCells_list (P := P) w ⟨g, off, none⟩ sub.toList (fun j v hv => by
      rw [addr_add, cell_of_row w g _ cs t _ hg]
      exact hs j v (by simpa using hv))
  cases hq : P.info? ty with
  | none => simp [hq] at hi
  | some i =>
    have hs : i.size = sub.size := by simpa [hq] using hi
    have hagg : (isAgg ty).run P w = .ok true w := by
      unfold isAgg
      rw [Sem.run_bind, run_underlying hu w]
      cases d <;> simp_all [aggB]
    simp only [Array.length_toList, Array.toArray_toList] at hl
    simp [loadVar, Sem.run_bind, hagg, sizeOf, typeInfo, hq, hs, hl]
theorem run_loadVar_one (w : World) (g off : Nat) (t ty : TypeId) (cs : Array Value) (v : Value) (hg : w.heap[g]? = some (.cells cs t (0, 0)))
    (hu' : (P.underlying ty).map aggB = some false) (hs : cs[off]? = some v) :
    (loadVar ty ⟨g, off, none⟩).run P w = .ok v w := by
  obtain ⟨d, hu, hd⟩ : ∃ d, P.underlying ty = some d ∧ aggB d = false := by simpa using hu'
  have hagg : (isAgg ty).run P w = .ok false w := by
    unfold isAgg
    rw [Sem.run_bind, run_underlying hu w]
    cases d <;> simp_all [aggB]
  have hc : w.cell? ⟨g, off, none⟩ = some v := by rw [cell_of_row w g off cs t _ hg, hs]
  simp [loadVar, Sem.run_bind, hagg, hc]

variable {ops : Array Oper} {rest : List Oper} {o : Oper} {a : Act} {w : World} {Q : Exit → Act → World → Prop} {n : Nat} {X : List Nat} {w0 : World} {l : List (Nat × Array Value)}
theorem wpList_want' (hw : Region.wanted o (yielded ops a.tmps) = true) (h : ∀ K : Act → World → Prop, (∀ a w, wpList P ops Q rest a w → K a w) → o.wp P a w K Q) : wpList P ops Q (o :: rest) a w :=
  wpList_step fun K hK => by rw [if_pos hw]; exact h K hK
/-- A variable is boxed. -/
theorem wpList_mbox (hgd : Region.wanted o (yielded ops a.tmps) = true) (T : TypeId) (x : Operand) (ho : o.op = .box T x) (H : Mem n X w0 w l) (cs : Array Value) (hx : (a.eval x).cells = cs)
    (h : ∀ R w1, w.heap.size ≤ R → Mem n X w0 w1 ((R, cs) :: l) → wpList P ops Q rest (a.put o.dst (.pointer (some ⟨R, 0, none⟩))) w1) : wpList P ops Q (o :: rest) a w :=
  wpList_want' hgd fun _ hK => by
    unfold Oper.wp execOp
    have hrun : (Instr.box T (a.eval x)).run P w = .ok (.pointer (some ⟨w.heap.size, 0, none⟩)) (w.alloc (.cells cs T)) := by
      subst hx
      rfl
    simp only [ho, Sem.run_bind, hrun, Result.andThen_ok, Sem.run_pure]
    exact hK _ _ (h _ _ (Nat.le_refl _) (H.new cs T))
/-- A struct that came by value is boxed. -/
theorem wpList_mboxA (hgd : Region.wanted o (yielded ops a.tmps) = true) (T : TypeId) (x : Operand) (ho : o.op = .box T x) (H : Mem n X w0 w l) (cs : Array Value) (hx : a.eval x = .agg cs)
    (h : ∀ R w1, w.heap.size ≤ R → Mem n X w0 w1 ((R, cs) :: l) → wpList P ops Q rest (a.put o.dst (.pointer (some ⟨R, 0, none⟩))) w1) : wpList P ops Q (o :: rest) a w :=
  wpList_mbox hgd T x ho H cs (by rw [hx]; rfl) h
/-- A variable is made, of zeros. -/
theorem wpList_mnew (hgd : Region.wanted o (yielded ops a.tmps) = true) (T : TypeId) (ho : o.op = .alloc T) (H : Mem n X w0 w l) (cs : Array Value)
    (hz : ∀ w : World, (Instr.alloc T true (.tuple #[])).run P w = .ok (.pointer (some ⟨w.heap.size, 0, none⟩)) (w.alloc (.cells cs T)))
    (h : ∀ R w1, w.heap.size ≤ R → Mem n X w0 w1 ((R, cs) :: l) → wpList P ops Q rest (a.put o.dst (.pointer (some ⟨R, 0, none⟩))) w1) : wpList P ops Q (o :: rest) a w :=
  wpList_want' hgd fun _ hK => by
    unfold Oper.wp execOp
    simp only [ho, Sem.run_bind, hz, Result.andThen_ok, Sem.run_pure]
    exact hK _ _ (h _ _ (Nat.le_refl _) (H.new cs T))
/-- A struct, or a part of one, is read. -/
theorem wpList_mload (hgd : Region.wanted o (yielded ops a.tmps) = true) (ty : TypeId) (x : Operand) (ho : o.op = .load ty x) (R off : Nat) (hx : a.eval x = .pointer (some ⟨R, off, none⟩)) (i : Nat) (H : Mem n X w0 w l) (cs sub : Array Value) (hi : l[i]? = some (R, cs))
    (hu : (P.underlying ty).map aggB = some true) (hz : (P.info? ty).map (·.size) = some sub.size) (hs : ∀ j v, sub[j]? = some v → cs[off + j]? = some v)
    (h : wpList P ops Q rest (a.put o.dst (.agg sub)) w) : wpList P ops Q (o :: rest) a w :=
  wpList_want' hgd fun _ hK => by
    obtain ⟨t, hg⟩ := H.get hi
    unfold Oper.wp execOp
    simp only [ho, hx, Instr.loadAt, Instr.sureAddr, Sem.run_bind, Sem.run_pure, Result.andThen_ok, run_loadVar_part w R off t ty cs sub hg hu hz hs]
    exact hK _ _ h
/-- A single cell is read. -/
theorem wpList_mload1 (hgd : Region.wanted o (yielded ops a.tmps) = true) (ty : TypeId) (x : Operand) (ho : o.op = .load ty x) (R off : Nat) (hx : a.eval x = .pointer (some ⟨R, off, none⟩)) (i : Nat) (H : Mem n X w0 w l) (cs : Array Value) (v : Value) (hi : l[i]? = some (R, cs)) (hs : cs[off]? = some v)
    (hu : (P.underlying ty).map aggB = some false)
    (h : wpList P ops Q rest (a.put o.dst v) w) : wpList P ops Q (o :: rest) a w :=
  wpList_want' hgd fun _ hK => by
    obtain ⟨t, hg⟩ := H.get hi
    unfold Oper.wp execOp
    simp only [ho, hx, Instr.loadAt, Instr.sureAddr, Sem.run_bind, Sem.run_pure, Result.andThen_ok, run_loadVar_one w R off t ty cs v hg hu hs]
    exact hK _ _ h
/-- A value is written, from place off on. -/
theorem wpList_mstore (hgd : Region.wanted o (yielded ops a.tmps) = true) (ty : TypeId) (x y : Operand) (ho : o.op = .store ty x y) (hdst : o.dst = none) (R off : Nat) (hx : a.eval x = .pointer (some ⟨R, off, none⟩)) (i : Nat) (H : Mem n X w0 w l) (cs cs' : Array Value) (hi : l[i]? = some (R, cs)) (v : Value) (hy : a.eval y = v)
    (hz : (P.info? ty).map (·.size) = some v.cells.size) (hl : off + v.cells.size ≤ cs.size) (h1 : v.cells.all (·.oneCell') = true) (hc : (splice cs.toList off v.cells.toList).toArray = cs')
    (h : ∀ w1, Mem n X w0 w1 (l.set i (R, cs')) → wpList P ops Q rest a w1) : wpList P ops Q (o :: rest) a w :=
  wpList_want' hgd fun _ hK => by
    obtain ⟨t, hg⟩ := H.get hi
    unfold Oper.wp execOp
    simp only [ho, hx, hy, Instr.storeAt, Instr.sureAddr, Sem.run_bind, Sem.run_pure, Result.andThen_ok, run_storeVar_part w R off t ty cs v hg hz hl h1]
    have := h _ (H.setRow hi cs')
    subst hc
    refine hK _ _ ?_
    rw [hdst]
    exact this
/-- A struct is written whole. -/
theorem wpList_mstoreA (hgd : Region.wanted o (yielded ops a.tmps) = true) (ty : TypeId) (x y : Operand) (ho : o.op = .store ty x y) (hdst : o.dst = none) (R : Nat) (hx : a.eval x = .pointer (some ⟨R, 0, none⟩)) (i : Nat) (H : Mem n X w0 w l) (cs cs' : Array Value) (hi : l[i]? = some (R, cs)) (hy : a.eval y = .agg cs')
    (hz : (P.info? ty).map (·.size) = some cs'.size) (hl : cs'.size = cs.size) (h1 : cs'.all (·.oneCell') = true)
    (h : ∀ w1, Mem n X w0 w1 (l.set i (R, cs')) → wpList P ops Q rest a w1) : wpList P ops Q (o :: rest) a w :=
  wpList_mstore hgd ty x y ho hdst R 0 hx i H cs cs' hi (.agg cs') hy hz (by show 0 + cs'.size ≤ _; omega) h1 (by
    have e : (Value.agg cs').cells.toList = cs'.toList := rfl
    have e2 : cs.toList.drop (0 + cs'.toList.length) = [] := List.drop_of_length_le (by simp; omega)
    unfold splice
    rw [e, e2]
    simp) h
/-- A struct is read whole. -/
theorem wpList_mloadA (hgd : Region.wanted o (yielded ops a.tmps) = true) (ty : TypeId) (x : Operand) (ho : o.op = .load ty x) (R : Nat) (hx : a.eval x = .pointer (some ⟨R, 0, none⟩)) (i : Nat) (H : Mem n X w0 w l) (cs : Array Value) (hi : l[i]? = some (R, cs))
    (hu : (P.underlying ty).map aggB = some true) (hz : (P.info? ty).map (·.size) = some cs.size)
    (h : wpList P ops Q rest (a.put o.dst (.agg cs)) w) : wpList P ops Q (o :: rest) a w :=
  wpList_mload hgd ty x ho R 0 hx i H cs cs hi hu hz (fun j v hj => by rw [Nat.zero_add]; exact hj) h
/-- What comes back is a struct that lies in a block. -/
theorem ret_mem1 {fn : Func} {Rr : Ending → World → Prop} {p : Tmp} {ty : TypeId} (hf : fn.results = #[.cell p ty]) (R : Nat) (hp : a.tmps.getD p undef = .pointer (some ⟨R, 0, none⟩)) (i : Nat) (H : Mem n X w0 w l) (cs : Array Value) (hi : l[i]? = some (R, cs))
    (hu : (P.underlying ty).map aggB = some true) (hz : (P.info? ty).map (·.size) = some cs.size) (hd : a.defers = []) (h : Rr (.returned (.agg cs)) w) : bodyPost P fn Rr .ret a w := by
  obtain ⟨t, hg⟩ := H.get hi
  refine bodyPost_ret ?_ hd h
  have hl := run_loadVar_part (P := P) w R 0 t ty cs cs hg hu hz (fun j v hj => by rw [Nat.zero_add]; exact hj)
  have hp' : a.tmps[p]?.getD undef = .pointer (some ⟨R, 0, none⟩) := by simpa using hp
  simp [results, hf, hp', asAddr, hl]
/-- The same, and a second result. -/
theorem ret_mem2 {fn : Func} {Rr : Ending → World → Prop} {p q : Tmp} {ty : TypeId} (hf : fn.results = #[.cell p ty, .tmp q]) (R : Nat) (hp : a.tmps.getD p undef = .pointer (some ⟨R, 0, none⟩)) (i : Nat) (H : Mem n X w0 w l) (cs : Array Value) (hi : l[i]? = some (R, cs))
    (hu : (P.underlying ty).map aggB = some true) (hz : (P.info? ty).map (·.size) = some cs.size) (hd : a.defers = []) (v : Value) (hq : a.tmps.getD q undef = v) (h : Rr (.returned (.tuple #[.agg cs, v])) w) : bodyPost P fn Rr .ret a w := by
  obtain ⟨t, hg⟩ := H.get hi
  refine bodyPost_ret ?_ hd h
  have hl := run_loadVar_part (P := P) w R 0 t ty cs cs hg hu hz (fun j v hj => by rw [Nat.zero_add]; exact hj)
  have hp' : a.tmps[p]?.getD undef = .pointer (some ⟨R, 0, none⟩) := by simpa using hp
  have hq' : a.tmps[q]?.getD undef = v := by simpa using hq
  simp [results, hf, hp', hq', asAddr, hl]
/-- The same where the order is open and the operations before, and beside, only read. -/
theorem quiet_mload1 {K : Act → Prop} (ty : TypeId) (x : Operand) (ho : o.op = .load ty x) (R off : Nat) (hx : a.eval x = .pointer (some ⟨R, off, none⟩)) (i : Nat) (H : Mem n X w0 w l) (cs : Array Value) (v : Value) (hi : l[i]? = some (R, cs)) (hs : cs[off]? = some v)
    (hu : (P.underlying ty).map aggB = some false) (h : K (a.put o.dst v)) : o.quiet P a (fun w' => ∃ p : Regrown, w' = Go.Sort.grow (redrawn w p.d) p.os) K :=
  ⟨v, fun w' hw' => by
    obtain ⟨p, rfl⟩ := hw'
    obtain ⟨t, hg⟩ := (H.next (below_regrown w p.d p.os)).get hi
    unfold Oper.quietAt execOp
    simp only [ho, hx, Instr.loadAt, Instr.sureAddr, Sem.run_bind, Sem.run_pure, Result.andThen_ok, run_loadVar_one _ R off t ty cs v hg hu hs]
    exact ⟨rfl, rfl⟩, h⟩
theorem quiet_mload {K : Act → Prop} (ty : TypeId) (x : Operand) (ho : o.op = .load ty x) (R off : Nat) (hx : a.eval x = .pointer (some ⟨R, off, none⟩)) (i : Nat) (H : Mem n X w0 w l) (cs sub : Array Value) (hi : l[i]? = some (R, cs))
    (hu : (P.underlying ty).map aggB = some true) (hz : (P.info? ty).map (·.size) = some sub.size) (hs : ∀ j v, sub[j]? = some v → cs[off + j]? = some v) (h : K (a.put o.dst (.agg sub))) : o.quiet P a (fun w' => ∃ p : Regrown, w' = Go.Sort.grow (redrawn w p.d) p.os) K :=
  ⟨_, fun w' hw' => by
    obtain ⟨p, rfl⟩ := hw'
    obtain ⟨t, hg⟩ := (H.next (below_regrown w p.d p.os)).get hi
    unfold Oper.quietAt execOp
    simp only [ho, hx, Instr.loadAt, Instr.sureAddr, Sem.run_bind, Sem.run_pure, Result.andThen_ok, run_loadVar_part _ R off t ty cs sub hg hu hz hs]
    exact ⟨rfl, rfl⟩, h⟩
theorem quiet_mloadA {K : Act → Prop} (ty : TypeId) (x : Operand) (ho : o.op = .load ty x) (R : Nat) (hx : a.eval x = .pointer (some ⟨R, 0, none⟩)) (i : Nat) (H : Mem n X w0 w l) (cs : Array Value) (hi : l[i]? = some (R, cs))
    (hu : (P.underlying ty).map aggB = some true) (hz : (P.info? ty).map (·.size) = some cs.size) (h : K (a.put o.dst (.agg cs))) : o.quiet P a (fun w' => ∃ p : Regrown, w' = Go.Sort.grow (redrawn w p.d) p.os) K :=
  quiet_mload ty x ho R 0 hx i H cs cs hi hu hz (fun j v hj => by rw [Nat.zero_add]; exact hj) h
/-- Only at a load, only at a store. -/
theorem gate_load (ty : TypeId) (x : Operand) (_ : o.op = .load ty x) (h : wpList P ops Q (o :: rest) a w) : wpList P ops Q (o :: rest) a w := h
theorem gate_store (ty : TypeId) (x y : Operand) (_ : o.op = .store ty x y) (h : wpList P ops Q (o :: rest) a w) : wpList P ops Q (o :: rest) a w := h
theorem gate_qload {C : World → Prop} {K : Act → Prop} (ty : TypeId) (x : Operand) (_ : o.op = .load ty x) (h : o.quiet P a C K) : o.quiet P a C K := h
end
end Go.Proofs.YtbonamhinnhlnaaGreatDoor
namespace Go.Proofs.YtbonamhinnhlnaaGreatDoor
open Go.RowKit
set_option linter.unusedSimpArgs false
set_option linter.unusedVariables false
set_option maxRecDepth 20000

/-- Three letters of a text, from a place on; name number n of names of three letters and a space. -/
def cut3 (s : ByteArray) (i : Nat) : ByteArray := s.extract i (i + 3)
/-- Is a name one of those that stand at k and behind, four octets each? -/
def isInK (l s : ByteArray) : Nat → Bool
  | 0 => false
  | k + 1 => isInK l s k || (cut3 l (4 * k)).toList == s.toList
def isIn (l s : ByteArray) : Bool := isInK l s (l.size / 4)
end Go.Proofs.YtbonamhinnhlnaaGreatDoor
namespace Go.Proofs.YtbonamhinnhlnaaGreatDoor
open Go.RowKit
set_option linter.unusedSimpArgs false
set_option linter.unusedVariables false
set_option maxRecDepth 20000

def zeroV (a b : Int) : ByteArray := if b = 0 then cut3 ⟨#[66, 82, 75, 32, 74, 83, 82, 32, 82, 84, 73, 32, 82, 84, 83, 32, 78, 79, 80, 32, 76, 68, 89, 32, 67, 80, 89, 32, 67, 80, 88, 32]⟩ (4 * a.toNat) else if b = 2 then cut3 ⟨#[80, 72, 80, 32, 80, 76, 80, 32, 80, 72, 65, 32, 80, 76, 65, 32, 68, 69, 89, 32, 84, 65, 89, 32, 73, 78, 89, 32, 73, 78, 88, 32]⟩ (4 * a.toNat) else if b = 4 then cut3 ⟨#[66, 80, 76, 32, 66, 77, 73, 32, 66, 86, 67, 32, 66, 86, 83, 32, 66, 67, 67, 32, 66, 67, 83, 32, 66, 78, 69, 32, 66, 69, 81, 32]⟩ (4 * a.toNat) else if b = 6 then cut3 ⟨#[67, 76, 67, 32, 83, 69, 67, 32, 67, 76, 73, 32, 83, 69, 73, 32, 84, 89, 65, 32, 67, 76, 86, 32, 67, 76, 68, 32, 83, 69, 68, 32]⟩ (4 * a.toNat) else if b = 1 then cut3 ⟨#[78, 79, 80, 32, 66, 73, 84, 32, 78, 79, 80, 32, 78, 79, 80, 32, 83, 84, 89, 32, 76, 68, 89, 32, 67, 80, 89, 32, 67, 80, 88, 32]⟩ (4 * a.toNat) else if b = 3 then cut3 ⟨#[78, 79, 80, 32, 66, 73, 84, 32, 74, 77, 80, 32, 74, 77, 80, 32, 83, 84, 89, 32, 76, 68, 89, 32, 67, 80, 89, 32, 67, 80, 88, 32]⟩ (4 * a.toNat) else if b = 5 then cut3 ⟨#[78, 79, 80, 32, 78, 79, 80, 32, 78, 79, 80, 32, 78, 79, 80, 32, 83, 84, 89, 32, 76, 68, 89, 32, 78, 79, 80, 32, 78, 79, 80, 32]⟩ (4 * a.toNat) else cut3 ⟨#[78, 79, 80, 32, 78, 79, 80, 32, 78, 79, 80, 32, 78, 79, 80, 32, 83, 72, 89, 32, 76, 68, 89, 32, 78, 79, 80, 32, 78, 79, 80, 32]⟩ (4 * a.toNat)
def twoV (a b : Int) : ByteArray := if b = 0 then cut3 ⟨#[74, 65, 77, 32, 74, 65, 77, 32, 74, 65, 77, 32, 74, 65, 77, 32, 78, 79, 80, 32, 76, 68, 88, 32, 78, 79, 80, 32, 78, 79, 80, 32]⟩ (4 * a.toNat) else if b = 2 then cut3 ⟨#[65, 83, 76, 32, 82, 79, 76, 32, 76, 83, 82, 32, 82, 79, 82, 32, 84, 88, 65, 32, 84, 65, 88, 32, 68, 69, 88, 32, 78, 79, 80, 32]⟩ (4 * a.toNat) else if b = 4 then ⟨#[74, 65, 77]⟩ else if b = 6 then cut3 ⟨#[78, 79, 80, 32, 78, 79, 80, 32, 78, 79, 80, 32, 78, 79, 80, 32, 84, 88, 83, 32, 84, 83, 88, 32, 78, 79, 80, 32, 78, 79, 80, 32]⟩ (4 * a.toNat) else if b = 7 then cut3 ⟨#[65, 83, 76, 32, 82, 79, 76, 32, 76, 83, 82, 32, 82, 79, 82, 32, 83, 72, 88, 32, 76, 68, 88, 32, 68, 69, 67, 32, 73, 78, 67, 32]⟩ (4 * a.toNat) else cut3 ⟨#[65, 83, 76, 32, 82, 79, 76, 32, 76, 83, 82, 32, 82, 79, 82, 32, 83, 84, 88, 32, 76, 68, 88, 32, 68, 69, 67, 32, 73, 78, 67, 32]⟩ (4 * a.toNat)
def threeV (a b : Int) : ByteArray := if b = 2 then cut3 ⟨#[65, 78, 67, 32, 65, 78, 67, 32, 65, 76, 82, 32, 65, 82, 82, 32, 65, 78, 69, 32, 76, 88, 65, 32, 83, 66, 88, 32, 83, 66, 67, 32]⟩ (4 * a.toNat) else if b = 4 then cut3 ⟨#[83, 76, 79, 32, 82, 76, 65, 32, 83, 82, 69, 32, 82, 82, 65, 32, 83, 72, 65, 32, 76, 65, 88, 32, 68, 67, 80, 32, 73, 83, 67, 32]⟩ (4 * a.toNat) else if b = 6 then cut3 ⟨#[83, 76, 79, 32, 82, 76, 65, 32, 83, 82, 69, 32, 82, 82, 65, 32, 84, 65, 83, 32, 76, 65, 83, 32, 68, 67, 80, 32, 73, 83, 67, 32]⟩ (4 * a.toNat) else if b = 7 then cut3 ⟨#[83, 76, 79, 32, 82, 76, 65, 32, 83, 82, 69, 32, 82, 82, 65, 32, 83, 72, 65, 32, 76, 65, 88, 32, 68, 67, 80, 32, 73, 83, 67, 32]⟩ (4 * a.toNat) else cut3 ⟨#[83, 76, 79, 32, 82, 76, 65, 32, 83, 82, 69, 32, 82, 82, 65, 32, 83, 65, 88, 32, 76, 65, 88, 32, 68, 67, 80, 32, 73, 83, 67, 32]⟩ (4 * a.toNat)
def restV (a b : Int) : ByteArray := if a = 4 ∧ b = 2 then ⟨#[78, 79, 80]⟩ else cut3 ⟨#[79, 82, 65, 32, 65, 78, 68, 32, 69, 79, 82, 32, 65, 68, 67, 32, 83, 84, 65, 32, 76, 68, 65, 32, 67, 77, 80, 32, 83, 66, 67, 32]⟩ (4 * a.toNat)
def nameV (op : Int) : ByteArray := if op % 4 = 0 then zeroV (op / 32) (op / 4 % 8) else if op % 4 = 2 then twoV (op / 32) (op / 4 % 8) else if op % 4 = 3 then threeV (op / 32) (op / 4 % 8) else restV (op / 32) (op / 4 % 8)
end Go.Proofs.YtbonamhinnhlnaaGreatDoor
