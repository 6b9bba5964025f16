/-
  Scripts without any world: which may be, what a pad tells, what agrees.
-/
import Derived.Test.YtdafilfnmdfacaaMak
namespace Go.Proofs.Ytdafilfnmdfacaa

def nthI (l : List Int) (k : Nat) : Int := l.getD k 0
def risesB (n : Int) : Int → List Int → Bool
  | _, [] => true
  | least, f :: l => decide (least ≤ f) && (decide (f < n) && risesB n (f + 1) l)
def sizesB (pads save ram : ByteArray) : Bool := decide (pads.size % 2 = 0) && (decide (pads.size ≤ 1200) && (decide (save.size ≤ 8192) && decide (ram.size ≤ 2048)))
def scrMay (pads : ByteArray) (l : List Int) (save ram : ByteArray) : Bool := sizesB pads save ram && risesB ((pads.size / 2 : Nat) : Int) 0 l
theorem rises_drop (n least : Int) (l : List Int) (k : Nat) (h : k < l.length) : risesB n least (l.drop k) = (decide (least ≤ nthI l k) && (decide (nthI l k < n) && risesB n (nthI l k + 1) (l.drop (k + 1)))) := by
  rw [drop_cons' l k 0 h]
  rfl
theorem rises_end (n least : Int) (l : List Int) (k : Nat) (h : l.length ≤ k) : risesB n least (l.drop k) = true := by
  rw [List.drop_of_length_le h]
  rfl
theorem rises_mem (n : Int) : ∀ (l : List Int) (least : Int), risesB n least l = true → ∀ x ∈ l, least ≤ x ∧ x < n
  | [], _, _, x, hx => by cases hx
  | f :: l, least, h, x, hx => by
    simp only [risesB, Bool.and_eq_true, decide_eq_true_eq] at h
    rcases List.mem_cons.1 hx with rfl | hx
    · exact ⟨h.1, h.2.1⟩
    · have := rises_mem n l (f + 1) h.2.2 x hx
      omega
/-- How many are below. -/
def cntB (l : List Int) (k : Int) : Nat := (l.filter fun x => decide (x < k)).length
theorem cnt_none : ∀ (l : List Int) (k : Int), (∀ x ∈ l, k ≤ x) → cntB l k = 0
  | [], _, _ => rfl
  | f :: l, k, h => by
    have h1 := h f (List.mem_cons_self ..)
    have := cnt_none l k fun x hx => h x (List.mem_cons_of_mem _ hx)
    unfold cntB at this ⊢
    rw [List.filter_cons, if_neg (by simp; omega)]
    exact this
theorem cnt_all : ∀ (l : List Int) (k : Int), (∀ x ∈ l, x < k) → cntB l k = l.length
  | [], _, _ => rfl
  | f :: l, k, h => by
    have h1 := h f (List.mem_cons_self ..)
    have := cnt_all l k fun x hx => h x (List.mem_cons_of_mem _ hx)
    unfold cntB at this ⊢
    rw [List.filter_cons, if_pos (by simpa using h1), List.length_cons, this, List.length_cons]
theorem cnt_next (n : Int) : ∀ (l : List Int) (least k : Int), risesB n least l = true → cntB l (k + 1) = cntB l k + (if l.contains k then 1 else 0)
  | [], _, _, _ => rfl
  | f :: l, least, k, h => by
    simp only [risesB, Bool.and_eq_true, decide_eq_true_eq] at h
    have ih := cnt_next n l (f + 1) k h.2.2
    have hm := rises_mem n l (f + 1) h.2.2
    have e1 : cntB (f :: l) (k + 1) = cntB l (k + 1) + (if f < k + 1 then 1 else 0) := by
      unfold cntB
      rw [List.filter_cons]
      by_cases e : f < k + 1
      · rw [if_pos (by simpa using e), if_pos e, List.length_cons]
      · rw [if_neg (by simpa using e), if_neg e, Nat.add_zero]
    have e2 : cntB (f :: l) k = cntB l k + (if f < k then 1 else 0) := by
      unfold cntB
      rw [List.filter_cons]
      by_cases e : f < k
      · rw [if_pos (by simpa using e), if_pos e, List.length_cons]
      · rw [if_neg (by simpa using e), if_neg e, Nat.add_zero]
    rw [e1, e2, ih]
    by_cases e : f = k
    · subst e
      have hn : l.contains f = false := by
        rw [Bool.eq_false_iff]
        intro hc
        have := hm f (List.contains_iff_mem.1 hc)
        omega
      have h1 : (f :: l).contains f = true := by simp
      rw [hn, h1, if_pos (show f < f + 1 by omega), if_neg (show ¬ f < f by omega)]
      simp
    · have hc : (f :: l).contains k = l.contains k := by
        rw [List.contains_cons]
        have : (k == f) = false := by simpa using fun h => e h.symm
        rw [this, Bool.false_or]
      rw [hc]
      have : (if f < k + 1 then 1 else 0) = (if f < k then (1 : Nat) else 0) := by split <;> split <;> omega
      omega
/-- What a pad tells. -/
def padS (s : ByteArray) (f p : Int) : Int := if 0 ≤ f ∧ f < ((s.size / 2 : Nat) : Int) ∧ 0 ≤ p ∧ p < 2 then byteAt s (2 * f + p).toNat else 0
/-- As many, and the same wherever it is low. -/
def agreeB (low : Nat → Bool) (x y : ByteArray) : Bool := decide (x.size = y.size) && (List.range x.size).all fun k => byteAt x k == byteAt y k || !low k
theorem all_upto (f : Nat → Bool) (n : Nat) (h : ∀ k, k < n → f k = true) : (List.range n).all f = true := List.all_eq_true.2 fun k hk => h k (List.mem_range.1 hk)
theorem all_not (f : Nat → Bool) (n k : Nat) (hk : k < n) (h : f k = false) : (List.range n).all f = false := by
  rw [Bool.eq_false_iff]
  intro ha
  have := List.all_eq_true.1 ha k (List.mem_range.2 hk)
  rw [h] at this
  cases this
theorem agree_len (low : Nat → Bool) (x y : ByteArray) (h : ¬ x.size = y.size) : agreeB low x y = false := by simp [agreeB, h]
theorem agree_no (low : Nat → Bool) (x y : ByteArray) (k : Nat) (hk : k < x.size) (hne : byteAt x k ≠ byteAt y k) (hl : low k = true) : agreeB low x y = false := by
  unfold agreeB
  rw [all_not _ _ k hk (by simp [hne, hl]), Bool.and_false]
theorem agree_yes (low : Nat → Bool) (x y : ByteArray) (h : x.size = y.size) (ha : ∀ k, k < x.size → byteAt x k = byteAt y k ∨ low k = false) : agreeB low x y = true := by
  unfold agreeB
  rw [all_upto _ _ (fun k hk => by rcases ha k hk with e | e <;> simp [e]), Bool.and_true, decide_eq_true h]
theorem agree_iff (low : Nat → Bool) (x y : ByteArray) : agreeB low x y = true ↔ x.size = y.size ∧ ∀ k, k < x.size → byteAt x k = byteAt y k ∨ low k = false := by
  constructor
  · intro h
    unfold agreeB at h
    rw [Bool.and_eq_true, decide_eq_true_eq, List.all_eq_true] at h
    refine ⟨h.1, fun k hk => ?_⟩
    have := h.2 k (List.mem_range.2 hk)
    simpa using this
  · rintro ⟨h, ha⟩
    exact agree_yes low x y h ha
theorem byteAt_lt (s : ByteArray) (k : Nat) (h : k < s.size) : byteAt s k = ((s[k]'h).toNat : Int) := by simp [byteAt, h]
/-- A text's first ones. -/
def cutB (n : Nat) (s : ByteArray) : ByteArray := if n < s.size then s.extract 0 n else s
theorem cutB_size (n : Nat) (s : ByteArray) : (cutB n s).size ≤ n := by
  unfold cutB
  split
  · rw [ByteArray.size_extract]; omega
  · omega
end Go.Proofs.Ytdafilfnmdfacaa
