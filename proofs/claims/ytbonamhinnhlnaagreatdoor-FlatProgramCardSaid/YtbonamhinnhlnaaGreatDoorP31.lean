/-
  Several texts in one: what is read and written by the functions on the way to the statements. Conditions stand in each theorem.
-/
import Derived.Test.YtbonamhinnhlnaaGreatDoorP10
import Derived.Test.YtbonamhinnhlnaaGreatDoorP30
import Derived.Test.YtbonamhinnhlnaaGreatDoorP01
namespace Go.Proofs.YtbonamhinnhlnaaGreatDoor
set_option linter.unusedSimpArgs false
set_option linter.unusedVariables false

end Go.Proofs.YtbonamhinnhlnaaGreatDoor
namespace Go.Proofs.YtbonamhinnhlnaaGreatDoor
open Go.RowKit
set_option linter.unusedSimpArgs false
set_option linter.unusedVariables false
set_option maxRecDepth 20000

end Go.Proofs.YtbonamhinnhlnaaGreatDoor
namespace Go.Proofs.YtbonamhinnhlnaaGreatDoor
open Go.RowKit
set_option linter.unusedSimpArgs false
set_option linter.unusedVariables false
set_option maxRecDepth 20000

end Go.Proofs.YtbonamhinnhlnaaGreatDoor
namespace Go.Proofs.YtbonamhinnhlnaaGreatDoor
open Go.RowKit
set_option linter.unusedSimpArgs false
set_option linter.unusedVariables false
set_option maxRecDepth 20000

attribute [local irreducible] wpList
end Go.Proofs.YtbonamhinnhlnaaGreatDoor
namespace Go.Proofs.YtbonamhinnhlnaaGreatDoor
set_option linter.unusedSimpArgs false
set_option linter.unusedVariables false

/-- What is looked at. -/
structure In (c : Cp) (t op intr : Int) (m : Bool) (pc sv p : Int) : Prop where
  t : c.t = t
  op : c.op = op
  intr : c.intr = intr
  got : c.got = false
  nmi : c.nmi = m
  pc : c.pc = pc
  pcs : c.pcs = false
  sv : c.sv = sv
  sb : c.sb = false
  p : c.p = p
  ps : c.ps = 0
section
variable {c : Cp} {intr pc sv p : Int} {m : Bool}
end
end Go.Proofs.YtbonamhinnhlnaaGreatDoor
namespace Go.Proofs.YtbonamhinnhlnaaGreatDoor
open Go.RowKit
set_option linter.unusedSimpArgs false
set_option linter.unusedVariables false
set_option maxRecDepth 20000

theorem ret_tt {P : Program} {w : World} {a : Act} {fn : Func} {Rr : Ending → World → Prop} {q r : Tmp} (hf : fn.results = #[.tmp q, .tmp r]) (hd : a.defers = []) (v u : Value) (hq : a.tmps.getD q undef = v) (hr : a.tmps.getD r undef = u) (h : Rr (.returned (.tuple #[v, u])) w) : bodyPost P fn Rr .ret a w := by
  refine bodyPost_ret ?_ hd h
  have hq' : a.tmps[q]?.getD undef = v := by simpa using hq
  have hr' : a.tmps[r]?.getD undef = u := by simpa using hr
  simp [results, hf, hq', hr']
end Go.Proofs.YtbonamhinnhlnaaGreatDoor
namespace Go.Proofs.YtbonamhinnhlnaaGreatDoor

def nthR (l : List (Int × Int)) (k : Nat) : Int × Int := l.getD k (0, 0)
def wholeB (r : Int × Int) : Bool := decide (0 ≤ r.1) && (decide (r.1 ≤ r.2) && decide (r.2 < 65536))
def inR (r : Int × Int) (x : Int) : Bool := decide (r.1 ≤ x) && decide (x ≤ r.2)
def inB (l : List (Int × Int)) (x : Int) : Bool := l.any fun r => inR r x
def mayB : Int → List (Int × Int) → Bool
  | _, [] => true
  | m, r :: l => wholeB r && (decide (m ≤ r.1) && mayB (r.2 + 2) l)
def Rise : Int → List (Int × Int) → Prop
  | _, [] => True
  | m, r :: l => m ≤ r.1 ∧ r.1 ≤ r.2 ∧ Rise (r.2 + 2) l

theorem wholeB_iff (r : Int × Int) : wholeB r = true ↔ 0 ≤ r.1 ∧ r.1 ≤ r.2 ∧ r.2 < 65536 := by simp [wholeB]
theorem inR_iff (r : Int × Int) (x : Int) : inR r x = true ↔ r.1 ≤ x ∧ x ≤ r.2 := by simp [inR]
theorem inB_iff (l : List (Int × Int)) (x : Int) : inB l x = true ↔ ∃ r ∈ l, r.1 ≤ x ∧ x ≤ r.2 := by
  unfold inB
  rw [List.any_eq_true]
  exact ⟨fun ⟨r, h, k⟩ => ⟨r, h, (inR_iff r x).1 k⟩, fun ⟨r, h, k⟩ => ⟨r, h, (inR_iff r x).2 k⟩⟩
theorem inB_append (l m : List (Int × Int)) (x : Int) : inB (l ++ m) x = (inB l x || inB m x) := by simp [inB]
theorem inB_one (r : Int × Int) (x : Int) : inB [r] x = inR r x := by simp [inB]
theorem inB_perm {l m : List (Int × Int)} (h : l.Perm m) (x : Int) : inB l x = inB m x := by
  rw [Bool.eq_iff_iff, inB_iff, inB_iff]
  exact ⟨fun ⟨r, a, b⟩ => ⟨r, h.mem_iff.1 a, b⟩, fun ⟨r, a, b⟩ => ⟨r, h.mem_iff.2 a, b⟩⟩

theorem mayB_iff : ∀ (l : List (Int × Int)) (m : Int), mayB m l = true ↔ Rise m l ∧ ∀ r ∈ l, 0 ≤ r.1 ∧ r.2 < 65536
  | [], m => by simp [mayB, Rise]
  | r :: l, m => by
    have ih := mayB_iff l (r.2 + 2)
    simp only [mayB, Bool.and_eq_true, wholeB_iff, decide_eq_true_eq, ih, Rise, List.mem_cons, forall_eq_or_imp]
    constructor
    · rintro ⟨⟨h1, h2, h3⟩, h4, h5, h6⟩; exact ⟨⟨h4, h2, h5⟩, ⟨h1, h3⟩, h6⟩
    · rintro ⟨⟨h4, h2, h5⟩, ⟨h1, h3⟩, h6⟩; exact ⟨⟨h1, h2, h3⟩, h4, h5, h6⟩
theorem rise_snoc : ∀ (l : List (Int × Int)) {m : Int} {r : Int × Int}, Rise m l → m ≤ r.1 → r.1 ≤ r.2 → (∀ q ∈ l, q.2 + 2 ≤ r.1) → Rise m (l ++ [r])
  | [], _, _, _, h1, h2, _ => ⟨h1, h2, trivial⟩
  | q :: l, _, _, ⟨g1, g2, g3⟩, _, h2, h3 => ⟨g1, g2, rise_snoc l g3 (h3 q (List.mem_cons_self ..)) h2 fun p hp => h3 p (List.mem_cons_of_mem _ hp)⟩
theorem rise_snoc_inv : ∀ (l : List (Int × Int)) {m : Int} {r : Int × Int}, Rise m (l ++ [r]) → Rise m l ∧ m ≤ r.1 ∧ r.1 ≤ r.2 ∧ ∀ q ∈ l, q.2 + 2 ≤ r.1
  | [], _, _, ⟨h1, h2, _⟩ => ⟨trivial, h1, h2, fun q hq => by cases hq⟩
  | q :: l, m, r, ⟨g1, g2, g3⟩ => by
    obtain ⟨k1, k2, k3, k4⟩ := rise_snoc_inv l g3
    refine ⟨⟨g1, g2, k1⟩, by omega, k3, fun p hp => ?_⟩
    rcases List.mem_cons.1 hp with rfl | hp
    · omega
    · exact k4 p hp

/-- T is l, tidied. -/
def Tidied (l T : List (Int × Int)) : Prop := mayB 0 T = true ∧ ∀ x, inB T x = inB l x
theorem take_snoc' {α : Type} (l : List α) (k : Nat) (d : α) (h : k < l.length) : l.take (k + 1) = l.take k ++ [l.getD k d] := by
  rw [List.take_succ_eq_append_getElem h, List.getD_eq_getElem?_getD, List.getElem?_eq_getElem h]
  rfl
theorem mem_getD {α : Type} (l : List α) (k : Nat) (d : α) (h : k < l.length) : l.getD k d ∈ l := by
  rw [List.getD_eq_getElem?_getD, List.getElem?_eq_getElem h]
  exact List.getElem_mem h

/-- What has come of joining the first i of d: pre, and the one at work. -/
structure Joins (d : List (Int × Int)) (pre : List (Int × Int)) (i : Nat) : Prop where
  rise : Rise 0 pre
  top : ∀ r ∈ pre, r.2 < 65536
  low : ∀ r ∈ pre, 0 ≤ r.1
  same : ∀ x, inB pre x = inB (d.take i) x
  apart : i < d.length → ∀ r ∈ pre, r.2 + 2 ≤ (nthR d i).1
  few : pre.length ≤ i
structure Joining (d : List (Int × Int)) (pre : List (Int × Int)) (one : Int × Int) (i : Nat) : Prop where
  rise : Rise 0 pre
  top : ∀ r ∈ pre, r.2 < 65536
  low : ∀ r ∈ pre, 0 ≤ r.1
  whole : wholeB one = true
  same : ∀ x, inB (pre ++ [one]) x = inB (d.take i) x
  apart : ∀ r ∈ pre, r.2 + 2 ≤ one.1
  from_le : i < d.length → one.1 ≤ (nthR d i).1
  few : pre.length + 1 ≤ i
def Sorted1 (d : List (Int × Int)) : Prop := ∀ i j, i < j → j < d.length → (nthR d i).1 ≤ (nthR d j).1
theorem Joins.start (d : List (Int × Int)) : Joins d [] 0 := ⟨trivial, (fun _ h => by cases h), (fun _ h => by cases h), (fun x => by simp [inB]), (fun _ _ h => by cases h), Nat.le_refl _⟩
theorem Joins.next {d pre : List (Int × Int)} {i : Nat} (h : Joins d pre i) (hi : i < d.length) (hw : d.all wholeB = true) (hs : Sorted1 d) : Joining d pre (nthR d i) (i + 1) := by
  refine ⟨h.rise, h.top, h.low, List.all_eq_true.1 hw _ (mem_getD d i _ hi), fun x => ?_, h.apart hi, fun hl => hs i (i + 1) (by omega) hl, by have := h.few; omega⟩
  rw [take_snoc' d i (0, 0) hi, inB_append, inB_append, h.same]
  rfl
theorem Joining.step {d pre : List (Int × Int)} {one : Int × Int} {i : Nat} (h : Joining d pre one i) (hi : i < d.length) (hw : d.all wholeB = true) (hs : Sorted1 d) (ht : (nthR d i).1 ≤ one.2 + 1) : Joining d pre (one.1, max one.2 (nthR d i).2) (i + 1) := by
  have w1 := (wholeB_iff _).1 h.whole
  have w2 := (wholeB_iff _).1 (List.all_eq_true.1 hw _ (mem_getD d i (0, 0) hi))
  have w3 := h.from_le hi
  change 0 ≤ (nthR d i).1 ∧ (nthR d i).1 ≤ (nthR d i).2 ∧ (nthR d i).2 < 65536 at w2
  refine ⟨h.rise, h.top, h.low, (wholeB_iff _).2 ⟨w1.1, by show one.1 ≤ max _ _; omega, by show max _ _ < _; omega⟩, fun x => ?_, h.apart, fun hl => Int.le_trans w3 (hs i (i + 1) (by omega) hl), by have := h.few; omega⟩
  have e := h.same x
  rw [take_snoc' d i (0, 0) hi, inB_append (d.take i), ← e, inB_append, inB_append, inB_one, inB_one, inB_one, Bool.or_assoc]
  congr 1
  rw [Bool.eq_iff_iff, Bool.or_eq_true, inR_iff, inR_iff, inR_iff]
  change (one.1 ≤ x ∧ x ≤ max one.2 (nthR d i).2) ↔ _ ∨ ((nthR d i).1 ≤ x ∧ x ≤ (nthR d i).2)
  omega
theorem Joining.done {d pre : List (Int × Int)} {one : Int × Int} {i : Nat} (h : Joining d pre one i) (hn : i < d.length → one.2 + 1 < (nthR d i).1) : Joins d (pre ++ [one]) i := by
  have w1 := (wholeB_iff _).1 h.whole
  refine ⟨rise_snoc pre h.rise w1.1 w1.2.1 h.apart, fun r hr => ?_, fun r hr => ?_, h.same, fun hl r hr => ?_, by simpa using h.few⟩
  · rcases List.mem_append.1 hr with hr | hr
    · exact h.top r hr
    · rw [List.mem_singleton.1 hr]; exact w1.2.2
  · rcases List.mem_append.1 hr with hr | hr
    · exact h.low r hr
    · rw [List.mem_singleton.1 hr]; exact w1.1
  · have h1 := hn hl
    rcases List.mem_append.1 hr with hr | hr
    · have := h.apart r hr; omega
    · rw [List.mem_singleton.1 hr]; omega
theorem Joins.end {d pre : List (Int × Int)} {i : Nat} (h : Joins d pre i) (hi : d.length ≤ i) : Tidied d pre :=
  ⟨(mayB_iff pre 0).2 ⟨h.rise, fun r hr => ⟨h.low r hr, h.top r hr⟩⟩, fun x => by rw [h.same, List.take_of_length_le hi]⟩
theorem Tidied.perm {d l T : List (Int × Int)} (h : Tidied d T) (hp : d.Perm l) : Tidied l T := ⟨h.1, fun x => by rw [h.2, inB_perm hp]⟩

/-! ### stretches of marks -/
/-- pre: the ranges of the marked ones of the first i places. -/
structure Marked (m : Nat → Bool) (pre : List (Int × Int)) (i : Nat) : Prop where
  rise : Rise 0 pre
  same : ∀ x, inB pre x = (decide (0 ≤ x ∧ x < i) && m x.toNat)
  few : pre.length ≤ i
theorem Marked.start (m : Nat → Bool) : Marked m [] 0 := ⟨trivial, fun x => by
  rw [decide_eq_false (by omega)]; rfl, Nat.le_refl _⟩
theorem rise_mem : ∀ (l : List (Int × Int)) {m : Int}, Rise m l → ∀ r ∈ l, m ≤ r.1 ∧ r.1 ≤ r.2
  | [], _, _, _, h => by cases h
  | q :: l, m, ⟨h1, h2, h3⟩, r, h => by
    rcases List.mem_cons.1 h with rfl | h
    · exact ⟨h1, h2⟩
    · have := rise_mem l h3 r h; exact ⟨by omega, this.2⟩
theorem Marked.top {m : Nat → Bool} {pre : List (Int × Int)} {i : Nat} (h : Marked m pre i) : ∀ r ∈ pre, r.2 < i := fun r hr => by
  have h1 := rise_mem pre h.rise r hr
  have h2 := h.same r.2
  rw [(inB_iff pre r.2).2 ⟨r, hr, by omega, by omega⟩] at h2
  have := (Bool.and_eq_true _ _ ▸ h2.symm).1
  simp at this
  omega
theorem Marked.skip {m : Nat → Bool} {pre : List (Int × Int)} {i : Nat} (h : Marked m pre i) (hm : m i = false) : Marked m pre (i + 1) :=
  ⟨h.rise, fun x => by
    rw [h.same]
    by_cases e : x = i
    · subst e; simp [hm]
    · have : (0 ≤ x ∧ x < ((i + 1 : Nat) : Int)) ↔ (0 ≤ x ∧ x < (i : Int)) := by omega
      simp only [this], Nat.le_succ_of_le h.few⟩
theorem Marked.new {m : Nat → Bool} {pre : List (Int × Int)} {i : Nat} (h : Marked m pre i) (hm : m i = true) (hp : i = 0 ∨ m (i - 1) = false) : Marked m (pre ++ [((i : Int), (i : Int))]) (i + 1) := by
  refine ⟨rise_snoc pre h.rise (by show (0 : Int) ≤ i; omega) (Int.le_refl _) fun q hq => ?_, fun x => ?_, by simpa using h.few⟩
  · have h1 := h.top q hq
    have h2 := rise_mem pre h.rise q hq
    have h3 := h.same q.2
    rw [(inB_iff pre q.2).2 ⟨q, hq, by omega, by omega⟩] at h3
    rcases hp with rfl | hp
    · omega
    · by_cases e : q.2 = (i : Int) - 1
      · have : q.2.toNat = i - 1 := by omega
        rw [this, hp, Bool.and_false] at h3
        cases h3
      · show q.2 + 2 ≤ (i : Int)
        omega
  · rw [inB_append, inB_one, h.same]
    by_cases e : x = i
    · subst e
      rw [(inR_iff _ _).2 ⟨Int.le_refl _, Int.le_refl _⟩]
      simp [hm]; omega
    · have e1 : inR ((i : Int), (i : Int)) x = false := by
        rw [Bool.eq_false_iff]; intro c; have := (inR_iff _ _).1 c; simp only at this; omega
      have : (0 ≤ x ∧ x < ((i + 1 : Nat) : Int)) ↔ (0 ≤ x ∧ x < (i : Int)) := by omega
      rw [e1, Bool.or_false]
      simp only [this]
/-- Where the place ahead is marked, the last range ends there. -/
theorem Marked.last {m : Nat → Bool} {pre : List (Int × Int)} {i : Nat} (h : Marked m pre i) (hi : 0 < i) (hp : m (i - 1) = true) : ∃ q a, pre = q ++ [(a, (i : Int) - 1)] := by
  have h1 := h.same ((i : Int) - 1)
  have : ((i : Int) - 1).toNat = i - 1 := by omega
  rw [this, hp, Bool.and_true] at h1
  have hd : decide (0 ≤ (i : Int) - 1 ∧ (i : Int) - 1 < i) = true := by simp; omega
  rw [hd] at h1
  obtain ⟨r, hr, g1, g2⟩ := (inB_iff _ _).1 h1
  have hne : pre ≠ [] := fun e => by rw [e] at hr; cases hr
  obtain ⟨q, s, rfl⟩ : ∃ q s, pre = q ++ [s] := ⟨pre.dropLast, pre.getLast hne, (List.dropLast_concat_getLast hne).symm⟩
  have ht := h.top r hr
  rcases List.mem_append.1 hr with hr' | hr'
  · obtain ⟨_, _, k3, k4⟩ := rise_snoc_inv q h.rise
    have := k4 r hr'
    have := h.top s (by simp)
    omega
  · have hs := List.mem_singleton.1 hr'
    subst hs
    exact ⟨q, r.1, by rw [show r = (r.1, (i : Int) - 1) from Prod.ext rfl (by show r.2 = (i : Int) - 1; omega)]⟩
theorem Marked.more {m : Nat → Bool} {q : List (Int × Int)} {a : Int} {i : Nat} (h : Marked m (q ++ [(a, (i : Int) - 1)]) i) (hm : m i = true) : Marked m (q ++ [(a, (i : Int))]) (i + 1) := by
  obtain ⟨k1, k2, k3, k4⟩ := rise_snoc_inv q h.rise
  simp only at k2 k3 k4
  refine ⟨rise_snoc q k1 k2 (by show a ≤ (i : Int); omega) k4, fun x => ?_, by have := h.few; simp at this ⊢; omega⟩
  have hx := h.same x
  rw [inB_append, inB_one] at hx
  rw [inB_append, inB_one]
  by_cases e : x = i
  · subst e
    rw [(inR_iff _ _).2 ⟨by simp only; omega, Int.le_refl _⟩]
    simp [hm]; omega
  · have e1 : inR (a, (i : Int)) x = inR (a, (i : Int) - 1) x := by
      rw [Bool.eq_iff_iff, inR_iff, inR_iff]; simp only; omega
    have : (0 ≤ x ∧ x < ((i + 1 : Nat) : Int)) ↔ (0 ≤ x ∧ x < (i : Int)) := by omega
    rw [e1, hx]
    simp only [this]
theorem Marked.may {m : Nat → Bool} {p : List (Int × Int)} {i : Nat} (h : Marked m p i) (hi : i ≤ 65536) : mayB 0 p = true :=
  (mayB_iff p 0).2 ⟨h.rise, fun r hr => ⟨(rise_mem p h.rise r hr).1, by have := h.top r hr; omega⟩⟩
end Go.Proofs.YtbonamhinnhlnaaGreatDoor
namespace Go.Proofs.YtbonamhinnhlnaaGreatDoor
open Go.RowKit

/-- A slice of ranges that reads as a list. -/
def Rg (w : World) (v : Value) (l : List (Int × Int)) : Prop :=
  ∃ a cap, v = .slice a l.length cap ∧ l.length ≤ cap ∧ cap ≤ maxLen ∧ (l = [] ∨ ∃ b off, a = some ⟨b, off, none⟩ ∧ b < w.heap.size ∧
    ∀ k, k < l.length → w.cell? ⟨b, off + k * 2, none⟩ = some (.int .i64 (nthR l k).1) ∧ w.cell? ⟨b, off + k * 2 + 1, none⟩ = some (.int .i64 (nthR l k).2))
theorem Rg.below {w w' : World} {v : Value} {l : List (Int × Int)} (h : Rg w v l) (hb : Below w.heap.size w w') : Rg w' v l := by
  obtain ⟨a, cap, hv, hl, hm, h⟩ := h
  refine ⟨a, cap, hv, hl, hm, ?_⟩
  rcases h with h | ⟨b, off, ha, hlt, hc⟩
  · exact .inl h
  · refine .inr ⟨b, off, ha, Nat.lt_of_lt_of_le hlt hb.size, fun k hk => ?_⟩
    obtain ⟨h1, h2⟩ := hc k hk
    rw [hb.cell (p := ⟨b, off + k * 2, none⟩) hlt, hb.cell (p := ⟨b, off + k * 2 + 1, none⟩) hlt]
    exact ⟨h1, h2⟩

end Go.Proofs.YtbonamhinnhlnaaGreatDoor
