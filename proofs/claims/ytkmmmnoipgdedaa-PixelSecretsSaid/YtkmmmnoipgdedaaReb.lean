/-
  A statement that leaves its order open and that makes variables of its own, and writes them, beside operations that only read ('x, e := f(m)'; 'p, q, n := a, b, c'): walked once, in the order of the text. No condition on the program.
-/
import Derived.Test.YtkmmmnoipgdedaaMem
import Derived.Test.YtkmmmnoipgdedaaSet
import Derived.Test.YtkmmmnoipgdedaaAlo
namespace Go.Proofs.Ytkmmmnoipgdedaa
open Go.RowKit Go.Sort
set_option linter.unusedSimpArgs false
set_option linter.unusedVariables false

/-- A variable, or a row: the operation that makes it, the one that writes it, the one that reads it (none: a number beyond), what its maker hands back, what it holds at first, and then, and what is read. -/
structure Bx where
  al : Nat
  st : Nat
  rd : Nat
  V : Nat → Value
  z : Array Value
  c : Array Value
  r : Value
/-- What the walk takes an operation for: a variable's number is β's; a write is nothing; what is read is known. -/
def swapO (β : Nat → Nat) (B : List Bx) (k : Nat) (o : Oper) : Oper :=
  match B.find? fun b => b.al == k with
  | some b => ⟨o.dst, .move (.const (b.V (β k))), o.type, o.pos, o.after, o.guard⟩
  | none => match B.find? fun b => b.st == k with
    | some _ => ⟨o.dst, .move (.const undef), o.type, o.pos, o.after, o.guard⟩
    | none => match B.find? fun b => b.rd == k with
      | some b => ⟨o.dst, .move (.const b.r), o.type, o.pos, o.after, o.guard⟩
      | none => o
def swapL (β : Nat → Nat) (B : List Bx) : Nat → List Oper → List Oper
  | _, [] => []
  | k, o :: r => swapO β B k o :: swapL β B (k + 1) r
theorem swapL_get (β : Nat → Nat) (B : List Bx) : ∀ (l : List Oper) (k i : Nat), (swapL β B k l)[i]? = (l[i]?).map (swapO β B (k + i))
  | [], _, _ => by simp [swapL]
  | o :: l, k, 0 => by simp [swapL]
  | o :: l, k, i + 1 => by
    simp only [swapL, List.getElem?_cons_succ]
    rw [swapL_get β B l (k + 1) i, show k + 1 + i = k + (i + 1) by omega]
theorem swapL_length (β : Nat → Nat) (B : List Bx) : ∀ (l : List Oper) (k : Nat), (swapL β B k l).length = l.length
  | [], _ => rfl
  | o :: l, k => by simp [swapL, swapL_length β B l]
theorem swapO_dst (β : Nat → Nat) (B : List Bx) (k : Nat) (o : Oper) : (swapO β B k o).dst = o.dst := by
  unfold swapO
  split
  · rfl
  · split
    · rfl
    · split <;> rfl
theorem swapO_after (β : Nat → Nat) (B : List Bx) (k : Nat) (o : Oper) : (swapO β B k o).after = o.after := by
  unfold swapO
  split
  · rfl
  · split
    · rfl
    · split <;> rfl
theorem swapO_guard (β : Nat → Nat) (B : List Bx) (k : Nat) (o : Oper) : (swapO β B k o).guard = o.guard := by
  unfold swapO
  split
  · rfl
  · split
    · rfl
    · split <;> rfl
theorem swap_ready (β : Nat → Nat) (B : List Bx) (l : List Oper) (X : Array Bool) (j : Nat) : j ∈ Region.ready .any (swapL β B 0 l).toArray X ↔ j ∈ Region.ready .any l.toArray X := by
  rw [mem_ready, mem_ready]
  have e : (swapL β B 0 l).toArray[j]? = (l.toArray[j]?).map (swapO β B j) := by
    have := swapL_get β B l 0 j
    rw [Nat.zero_add] at this
    simpa using this
  rw [e]
  constructor
  · rintro ⟨h, o, ho, ha⟩
    obtain ⟨o', ho', rfl⟩ := Option.map_eq_some_iff.1 ho
    rw [swapO_after] at ha
    exact ⟨h, o', ho', ha⟩
  · rintro ⟨h, o, ho, ha⟩
    exact ⟨h, swapO β B j o, by rw [ho]; rfl, by rw [swapO_after]; exact ha⟩
theorem swap_ready_nil (β : Nat → Nat) (B : List Bx) (l : List Oper) (X : Array Bool) : Region.ready .any (swapL β B 0 l).toArray X = [] ↔ Region.ready .any l.toArray X = [] := by
  rw [List.eq_nil_iff_forall_not_mem, List.eq_nil_iff_forall_not_mem]
  exact ⟨fun h i hi => h i ((swap_ready β B l X i).2 hi), fun h i hi => h i ((swap_ready β B l X i).1 hi)⟩
theorem swap_yielded (β : Nat → Nat) (B : List Bx) (l : List Oper) (t : Array Value) (j : Nat) : yielded (swapL β B 0 l).toArray t j = yielded l.toArray t j := by
  unfold yielded
  have e : (swapL β B 0 l).toArray[j]? = (l.toArray[j]?).map (swapO β B j) := by
    have := swapL_get β B l 0 j
    rw [Nat.zero_add] at this
    simpa using this
  rw [e]
  cases l.toArray[j]? with
  | none => rfl
  | some o => simp [swapO_dst]
theorem swap_wanted (β : Nat → Nat) (B : List Bx) (l : List Oper) (t : Array Value) (k : Nat) (o : Oper) : Region.wanted (swapO β B k o) (yielded (swapL β B 0 l).toArray t) = Region.wanted o (yielded l.toArray t) := by
  have e : yielded (swapL β B 0 l).toArray t = yielded l.toArray t := funext fun j => swap_yielded β B l t j
  rw [e]
  unfold Region.wanted
  rw [swapO_guard]

def waitsB (o : Oper) (i : Nat) : Bool := o.after.toList.any fun e => Region.binds .any e && e.on == i
/-- All that an operation looks at is made ahead of it. -/
def settledB (l : List Oper) (p : Oper) : Bool := (p.looksAt l.toArray).all fun t => (List.range l.length).all fun i => match l[i]? with
  | some o => o.dst != some t || waitsB p i
  | none => true
def bxB (l : List Oper) (b : Bx) : Bool := match l[b.al]? with
  | none => false
  | some p => p.guard.isNone && settledB l p && (match p.dst with
    | none => false
    | some d => match l[b.st]? with
      | none => true
      | some s => s.guard.isNone && s.dst.isNone && waitsB s b.al && match s.op with
        | .store _ (.tmp x) (.tmp t) => x == d && (List.range l.length).all fun i => (match l[i]? with
          | some o => o.dst != some t || waitsB s i
          | none => true)
        | .store _ (.tmp x) (.const _) => x == d
        | _ => false) && match l[b.rd]? with
          | none => true
          | some s => s.guard.isNone && waitsB s b.al && settledB l s && (l[b.st]?).isNone
def inOpB (l : List Oper) (i : Nat) : Option Nat := if i < l.length then some i else none
def rebB (P : Program) (N : Nat) (l : List Oper) (B : List Bx) : Bool :=
  B.all (bxB l) && ((List.range l.length).all fun k => match l[k]? with
    | none => true
    | some o => (o.after.toList.all fun e => !Region.binds .any e || decide (e.on < k)) && (match o.dst with
      | some d => decide (d < N)
      | none => true) && (plainOp P o || B.any fun b => b.al == k || b.st == k || b.rd == k)) && oneB (l.map (·.dst)) && oneB (B.map (fun b => inOpB l b.al) ++ (B.map (fun b => inOpB l b.st) ++ B.map fun b => inOpB l b.rd))
theorem oneB_at : ∀ {l : List (Option Nat)} {i j t : Nat}, oneB l = true → l[i]? = some (some t) → l[j]? = some (some t) → i = j
  | [], i, j, t, _, hi, _ => by simp at hi
  | x :: l, 0, 0, t, _, _, _ => rfl
  | x :: l, 0, j + 1, t, h, hi, hj => by
    simp only [oneB, Bool.and_eq_true] at h
    have h1 := h.1
    simp at hi hj
    subst hi
    simp only [Option.isNone_some, Bool.false_or, Bool.not_eq_true', List.contains_eq_mem, decide_eq_false_iff_not] at h1
    exact absurd (List.mem_of_getElem? hj) h1
  | x :: l, i + 1, 0, t, h, hi, hj => by
    simp only [oneB, Bool.and_eq_true] at h
    have h1 := h.1
    simp at hi hj
    subst hj
    simp only [Option.isNone_some, Bool.false_or, Bool.not_eq_true', List.contains_eq_mem, decide_eq_false_iff_not] at h1
    exact absurd (List.mem_of_getElem? hi) h1
  | x :: l, i + 1, j + 1, t, h, hi, hj => by
    simp only [oneB, Bool.and_eq_true] at h
    simp at hi hj
    rw [oneB_at h.2 hi hj]
theorem waitsB_of {o : Oper} {i : Nat} (h : waitsB o i = true) : ∃ e ∈ o.after, Region.binds .any e = true ∧ e.on = i := by
  unfold waitsB at h
  obtain ⟨e, he, h⟩ := List.any_eq_true.1 h
  rw [Bool.and_eq_true, beq_iff_eq] at h
  exact ⟨e, by simpa using he, h⟩

section
variable {P : Program}
/-- What is made, written and read, by the frame that is there. -/
def okOne (P : Program) (l : List Oper) (β : Nat → Nat) (a : Act) (b : Bx) : Prop :=
  (match l[b.al]? with
    | none => False
    | some p => ∃ T, ∀ w : World, (execOp a.eval p).run P w = .ok (.value (b.V w.heap.size)) (w.alloc (.cells b.z T))) ∧
  (match l[b.st]? with
    | none => b.c = b.z
    | some s => match s.op with
      | .store ty _ y => (a.eval y).cells = b.c ∧ (P.info? ty).map (·.size) = some b.c.size ∧ b.c.size = b.z.size ∧ b.c.all (·.oneCell') = true ∧ ∀ R, b.V R = ptrTo R
      | _ => False) ∧
  (match l[b.rd]? with
    | none => True
    | some p => ∀ (w : World) (T : TypeId), w.heap[β b.al]? = some (.cells b.z T) → (execOp a.eval p).run P w = .ok (.value b.r) w)
def okAll (P : Program) (l : List Oper) (β : Nat → Nat) (a : Act) : List Bx → Prop
  | [] => True
  | b :: B => okOne P l β a b ∧ okAll P l β a B
theorem okAll_mem {l : List Oper} {β : Nat → Nat} {a : Act} {b : Bx} : ∀ {B : List Bx}, okAll P l β a B → b ∈ B → okOne P l β a b
  | _ :: _, h, hb => by
    rcases List.mem_cons.1 hb with rfl | hb
    · exact h.1
    · exact okAll_mem h.2 hb

/-- From wherever the quiet walk is, it comes to an end; slots whose writers have come up stay. -/
theorem quiet_ends {ops ops0 : Array Oper} {C : World → Prop} {Post : Act → Prop} : ∀ (fuel : Nat) (X : Array Bool) (a : Act), wpAnyQ P .any ops C Post fuel X a →
    ∃ a', Post a' ∧ (∀ t, (∀ (i : Nat) (o : Oper), ops[i]? = some o → o.dst = some t → X.getD i true = true) → a'.tmps.getD t undef = a.tmps.getD t undef) ∧
      ∀ q : Oper, (∀ cs b, q.op ≠ .select cs b) → (∀ t ∈ q.looksAt ops0, ∀ (i : Nat) (o : Oper), ops[i]? = some o → o.dst = some t → X.getD i true = true) → execOp a'.eval q = execOp a.eval q
  | 0, X, a, h => ⟨a, h.2, fun _ _ => rfl, fun _ _ _ => rfl⟩
  | fuel + 1, X, a, h => by
    cases hr : Region.ready .any ops X with
    | nil => exact ⟨a, h.1 hr, fun _ _ => rfl, fun _ _ _ => rfl⟩
    | cons i r =>
      have hi : i ∈ Region.ready .any ops X := by rw [hr]; exact List.mem_cons_self
      obtain ⟨h0, o, ho, _⟩ := mem_ready.1 hi
      have hq := h.2 i hi
      have key : ∃ v, wpAnyQ P .any ops C Post fuel (X.setIfInBounds i true) (a.put o.dst v) := by
        unfold qOp at hq
        rw [ho] at hq
        simp only [] at hq
        split at hq
        · obtain ⟨v, _, hv⟩ := hq
          exact ⟨v, hv⟩
        · exact ⟨_, hq⟩
      obtain ⟨v, hv⟩ := key
      obtain ⟨a', hp, hs, hx⟩ := quiet_ends (ops0 := ops0) fuel _ _ hv
      have hne : ∀ t, (∀ (j : Nat) (q : Oper), ops[j]? = some q → q.dst = some t → X.getD j true = true) → o.dst ≠ some t := fun t ht e => by
        have := ht i o ho e
        rw [h0] at this
        cases this
      have hup : ∀ t, (∀ (j : Nat) (q : Oper), ops[j]? = some q → q.dst = some t → X.getD j true = true) → ∀ (j : Nat) (q : Oper), ops[j]? = some q → q.dst = some t → (X.setIfInBounds i true).getD j true = true := fun t ht j q hj hd => by
        by_cases e : i = j
        · subst e
          have := ht i q hj hd
          rw [h0] at this
          cases this
        · rw [getD_set_ne true e]
          exact ht j q hj hd
      refine ⟨a', hp, fun t ht => ?_, fun q hsel hl => ?_⟩
      · rw [hs t (hup t ht)]
        have := hne t ht
        cases hd : o.dst with
        | none => rfl
        | some d =>
          have : d ≠ t := fun e => this (by rw [hd, e])
          simp [Act.put, Array.getElem?_setIfInBounds_ne this]
      · rw [hx q hsel fun t ht => hup t (hl t ht)]
        exact execOp_put (ops := ops0) q hsel a _ _ fun d hd hin => hne d (hl d hin) hd

variable {l : List Oper} {B : List Bx} {N : Nat}
/-- What the check says. -/
structure RebOk (P : Program) (N : Nat) (l : List Oper) (B : List Bx) : Prop where
  box : ∀ b ∈ B, bxB l b = true
  low : ∀ (k : Nat) (o : Oper), l[k]? = some o → ∀ e ∈ o.after, Region.binds .any e = true → e.on < k
  dst : ∀ (k : Nat) (o : Oper) (d : Tmp), l[k]? = some o → o.dst = some d → d < N
  kind : ∀ (k : Nat) (o : Oper), l[k]? = some o → plainOp P o = true ∨ ∃ b ∈ B, b.al = k ∨ b.st = k ∨ b.rd = k
  one : ∀ (i j : Nat) (p q : Oper) (t : Tmp), l[i]? = some p → l[j]? = some q → p.dst = some t → q.dst = some t → i = j
  alal : ∀ b ∈ B, ∀ b' ∈ B, b.al < l.length → b.al = b'.al → b = b'
  stst : ∀ b ∈ B, ∀ b' ∈ B, b.st < l.length → b.st = b'.st → b = b'
  rdrd : ∀ b ∈ B, ∀ b' ∈ B, b.rd < l.length → b.rd = b'.rd → b = b'
  alst : ∀ b ∈ B, ∀ b' ∈ B, b.al < l.length → b.al ≠ b'.st
  alrd : ∀ b ∈ B, ∀ b' ∈ B, b.al < l.length → b.al ≠ b'.rd
  strd : ∀ b ∈ B, ∀ b' ∈ B, b.st < l.length → b.st ≠ b'.rd
theorem rebOk (h : rebB P N l B = true) : RebOk P N l B := by
  unfold rebB at h
  simp only [Bool.and_eq_true] at h
  obtain ⟨⟨⟨h1, h2⟩, h3⟩, h4⟩ := h
  have g : ∀ (k : Nat) (o : Oper), l[k]? = some o → ((o.after.toList.all fun e => !Region.binds .any e || decide (e.on < k)) = true ∧ (match o.dst with
      | some d => decide (d < N)
      | none => true) = true) ∧ (plainOp P o || B.any fun b => b.al == k || b.st == k || b.rd == k) = true := fun k o ho => by
    have hk : k < l.length := (List.getElem?_eq_some_iff.1 ho).1
    have := List.all_eq_true.1 h2 k (List.mem_range.2 hk)
    rw [ho] at this
    simpa only [Bool.and_eq_true] using this
  have inb : ∀ i, i < l.length → inOpB l i = some i := fun i hi => by unfold inOpB; rw [if_pos hi]
  have A : ∀ b ∈ B, b.al < l.length → ∃ i, B[i]? = some b ∧ i < B.length ∧ (B.map (fun b => inOpB l b.al) ++ (B.map (fun b => inOpB l b.st) ++ B.map fun b => inOpB l b.rd))[i]? = some (some b.al) := fun b hb hk => by
    obtain ⟨i, hi⟩ := List.getElem?_of_mem hb
    have hil := (List.getElem?_eq_some_iff.1 hi).1
    exact ⟨i, hi, hil, by rw [List.getElem?_append_left (by simpa using hil), List.getElem?_map, hi]; simp [inb _ hk]⟩
  have S : ∀ b ∈ B, b.st < l.length → ∃ i, B[i]? = some b ∧ i < B.length ∧ (B.map (fun b => inOpB l b.al) ++ (B.map (fun b => inOpB l b.st) ++ B.map fun b => inOpB l b.rd))[B.length + i]? = some (some b.st) := fun b hb hk => by
    obtain ⟨i, hi⟩ := List.getElem?_of_mem hb
    have hil := (List.getElem?_eq_some_iff.1 hi).1
    exact ⟨i, hi, hil, by rw [List.getElem?_append_right (by simp), List.getElem?_append_left (by simpa using hil), List.length_map, show B.length + i - B.length = i by omega, List.getElem?_map, hi]; simp [inb _ hk]⟩
  have R : ∀ b ∈ B, b.rd < l.length → ∃ i, B[i]? = some b ∧ i < B.length ∧ (B.map (fun b => inOpB l b.al) ++ (B.map (fun b => inOpB l b.st) ++ B.map fun b => inOpB l b.rd))[B.length + (B.length + i)]? = some (some b.rd) := fun b hb hk => by
    obtain ⟨i, hi⟩ := List.getElem?_of_mem hb
    have hil := (List.getElem?_eq_some_iff.1 hi).1
    exact ⟨i, hi, hil, by rw [List.getElem?_append_right (by simp), List.getElem?_append_right (by simp), List.length_map, List.length_map, show B.length + (B.length + i) - B.length - B.length = i by omega, List.getElem?_map, hi]; simp [inb _ hk]⟩
  refine ⟨List.all_eq_true.1 h1, fun k o ho e he hb => ?_, fun k o d ho hd => ?_, fun k o ho => ?_, fun i j p q t hp hq hi hj => ?_, fun b hb b' hb' hk e => ?_, fun b hb b' hb' hk e => ?_, fun b hb b' hb' hk e => ?_, fun b hb b' hb' hk e => ?_, fun b hb b' hb' hk e => ?_, fun b hb b' hb' hk e => ?_⟩
  · have := List.all_eq_true.1 (g k o ho).1.1 e (by simpa using he)
    simpa [hb] using this
  · have := (g k o ho).1.2
    rw [hd] at this
    simpa using this
  · have := (g k o ho).2
    rw [Bool.or_eq_true] at this
    rcases this with this | this
    · exact .inl this
    · obtain ⟨b, hb, e⟩ := List.any_eq_true.1 this
      simp only [Bool.or_eq_true, beq_iff_eq] at e
      exact .inr ⟨b, hb, by rcases e with (e | e) | e <;> simp [e]⟩
  · exact oneB_at (l := l.map (·.dst)) (t := t) h3 (by rw [List.getElem?_map, hp]; simp [hi]) (by rw [List.getElem?_map, hq]; simp [hj])
  · obtain ⟨i, hi, _, ei⟩ := A b hb hk
    obtain ⟨j, hj, _, ej⟩ := A b' hb' (e ▸ hk)
    rw [← e] at ej
    have := oneB_at h4 ei ej
    subst this
    exact Option.some.inj (hi.symm.trans hj)
  · obtain ⟨i, hi, _, ei⟩ := S b hb hk
    obtain ⟨j, hj, _, ej⟩ := S b' hb' (e ▸ hk)
    rw [← e] at ej
    have := oneB_at h4 ei ej
    obtain rfl : i = j := by omega
    exact Option.some.inj (hi.symm.trans hj)
  · obtain ⟨i, hi, _, ei⟩ := R b hb hk
    obtain ⟨j, hj, _, ej⟩ := R b' hb' (e ▸ hk)
    rw [← e] at ej
    have := oneB_at h4 ei ej
    obtain rfl : i = j := by omega
    exact Option.some.inj (hi.symm.trans hj)
  · obtain ⟨i, hi, _, ei⟩ := A b hb hk
    obtain ⟨j, hj, _, ej⟩ := S b' hb' (e ▸ hk)
    rw [← e] at ej
    have := oneB_at h4 ei ej
    omega
  · obtain ⟨i, hi, _, ei⟩ := A b hb hk
    obtain ⟨j, hj, _, ej⟩ := R b' hb' (e ▸ hk)
    rw [← e] at ej
    have := oneB_at h4 ei ej
    omega
  · obtain ⟨i, hi, _, ei⟩ := S b hb hk
    obtain ⟨j, hj, _, ej⟩ := R b' hb' (e ▸ hk)
    rw [← e] at ej
    have := oneB_at h4 ei ej
    omega
theorem swap_none {f : Bx → Nat} {k : Nat} (h : ∀ b ∈ B, f b ≠ k) : (B.find? fun b => f b == k) = none := by
  rw [List.find?_eq_none]
  intro b hb
  simpa using h b hb
theorem swap_some {f : Bx → Nat} {k : Nat} {b : Bx} (hb : b ∈ B) (h : f b = k) (hu : ∀ b' ∈ B, f b' = k → b' = b) : (B.find? fun b => f b == k) = some b := by
  cases hf : B.find? fun b => f b == k with
  | none =>
    rw [List.find?_eq_none] at hf
    exact absurd h (by simpa using hf b hb)
  | some b' =>
    have h1 := List.mem_of_find?_eq_some hf
    have h2 := List.find?_some hf
    rw [hu b' h1 (by simpa using h2)]
theorem swap_al (ok : RebOk P N l B) {b : Bx} (hb : b ∈ B) (hk : b.al < l.length) (β : Nat → Nat) (o : Oper) : (swapO β B b.al o).op = .move (.const (b.V (β b.al))) := by
  unfold swapO
  rw [swap_some (f := fun b => b.al) hb rfl fun b' hb' e => (ok.alal b hb b' hb' hk e.symm).symm]
theorem swap_st (ok : RebOk P N l B) {b : Bx} (hb : b ∈ B) (hk : b.st < l.length) (β : Nat → Nat) (o : Oper) : (swapO β B b.st o).op = .move (.const undef) := by
  unfold swapO
  rw [swap_none (f := fun b => b.al) fun b' hb' e => ok.alst b' hb' b hb (e ▸ hk) e, swap_some (f := fun b => b.st) hb rfl fun b' hb' e => (ok.stst b hb b' hb' hk e.symm).symm]
theorem swap_rd (ok : RebOk P N l B) {b : Bx} (hb : b ∈ B) (hk : b.rd < l.length) (β : Nat → Nat) (o : Oper) : (swapO β B b.rd o).op = .move (.const b.r) := by
  unfold swapO
  rw [swap_none (f := fun b => b.al) fun b' hb' e => ok.alrd b' hb' b hb (e ▸ hk) e, swap_none (f := fun b => b.st) fun b' hb' e => ok.strd b' hb' b hb (e ▸ hk) e, swap_some (f := fun b => b.rd) hb rfl fun b' hb' e => (ok.rdrd b hb b' hb' hk e.symm).symm]
theorem swap_plain {k : Nat} (h : ∀ b ∈ B, b.al ≠ k ∧ b.st ≠ k ∧ b.rd ≠ k) (β : Nat → Nat) (o : Oper) : swapO β B k o = o := by
  unfold swapO
  rw [swap_none (f := fun b => b.al) fun b hb => (h b hb).1, swap_none (f := fun b => b.st) fun b hb => (h b hb).2.1, swap_none (f := fun b => b.rd) fun b hb => (h b hb).2.2]
theorem settledB_of {p : Oper} (h : settledB l p = true) : ∀ t ∈ p.looksAt l.toArray, ∀ (i : Nat) (o : Oper), l[i]? = some o → o.dst = some t → waitsB p i = true := fun t ht i o ho hd => by
  have := List.all_eq_true.1 (List.all_eq_true.1 h t ht) i (List.mem_range.2 (List.getElem?_eq_some_iff.1 ho).1)
  rw [ho] at this
  simpa [hd] using this
/-- What is known of a variable's operations. -/
theorem bx_parts {b : Bx} (h : bxB l b = true) : ∃ (p : Oper) (d : Tmp), l[b.al]? = some p ∧ p.guard = none ∧ p.dst = some d ∧ settledB l p = true ∧
    (∀ s : Oper, l[b.st]? = some s → s.guard = none ∧ s.dst = none ∧ waitsB s b.al = true ∧ ∃ ty y, s.op = .store ty (.tmp d) y ∧ ∀ t, y = .tmp t → ∀ (i : Nat) (o : Oper), l[i]? = some o → o.dst = some t → waitsB s i = true) ∧
    (∀ s : Oper, l[b.st]? = some s → ∀ ty x y, s.op = .store ty x y → (∃ t, y = .tmp t) ∨ ∃ v, y = .const v) ∧
    (∀ s : Oper, l[b.rd]? = some s → s.guard = none ∧ waitsB s b.al = true ∧ settledB l s = true ∧ l[b.st]? = none) := by
  unfold bxB at h
  cases hp : l[b.al]? with
  | none => rw [hp] at h; cases h
  | some p =>
    rw [hp] at h
    simp only [Bool.and_eq_true, Option.isNone_iff_eq_none] at h
    obtain ⟨⟨⟨hg, hse⟩, h⟩, hrd⟩ := h
    cases hd : p.dst with
    | none => rw [hd] at h; cases h
    | some d =>
      rw [hd] at h
      refine ⟨p, d, rfl, hg, hd, hse, fun s hs => ?_, fun s hs ty x y hop => ?_, fun s hs => ?_⟩
      · rw [hs] at h
        simp only [Bool.and_eq_true, Option.isNone_iff_eq_none] at h
        obtain ⟨⟨⟨h1, h2⟩, h3⟩, h4⟩ := h
        refine ⟨h1, h2, h3, ?_⟩
        split at h4
        · rename_i ty x t hop
          rw [Bool.and_eq_true, beq_iff_eq] at h4
          obtain ⟨rfl, h5⟩ := h4
          refine ⟨ty, .tmp t, hop, fun t' ht i o ho hdo => ?_⟩
          cases ht
          have := List.all_eq_true.1 h5 i (List.mem_range.2 (List.getElem?_eq_some_iff.1 ho).1)
          rw [ho] at this
          simpa [hdo] using this
        · rename_i ty x v hop
          rw [beq_iff_eq] at h4
          subst h4
          exact ⟨ty, .const v, hop, fun t' ht => by cases ht⟩
        · cases h4
      · rw [hs] at h
        simp only [Bool.and_eq_true] at h
        obtain ⟨_, h4⟩ := h
        rw [hop] at h4
        split at h4
        · rename_i e
          cases e
          exact .inl ⟨_, rfl⟩
        · rename_i e
          cases e
          exact .inr ⟨_, rfl⟩
        · cases h4
      · rw [hs] at hrd
        simp only [Bool.and_eq_true, Option.isNone_iff_eq_none] at hrd
        obtain ⟨⟨⟨h1, h2⟩, h3⟩, h4⟩ := hrd
        exact ⟨h1, h2, h3, h4⟩

/-- What a write writes. -/
def putV (l : List Oper) (st : Nat) (a : Act) : Value := match l[st]? with
  | some s => match s.op with
    | .store _ _ y => a.eval y
    | _ => undef
  | none => undef
def slotB (l : List Oper) (b : Bx) : Tmp := ((l[b.al]?).bind (·.dst)).getD 0
def contB (l : List Oper) (X : Array Bool) (a : Act) (b : Bx) : Array Value := if X.getD b.st false = true then (putV l b.st a).cells else b.z
/-- What holds of the run. -/
structure RebInv (l : List Oper) (B : List Bx) (N : Nat) (w : World) (β : Nat → Nat) (X : Array Bool) (a : Act) (w1 : World) : Prop where
  size : X.size = l.length
  slots : a.tmps.size = N
  below : Below w.heap.size w w1
  made : ∀ b ∈ B, X.getD b.al false = true → w.heap.size ≤ β b.al ∧ β b.al < w1.heap.size ∧ a.tmps.getD (slotB l b) undef = b.V (β b.al) ∧ ∃ T, w1.heap[β b.al]? = some (.cells (contB l X a b) T (0, 0))
  diff : ∀ b ∈ B, ∀ b' ∈ B, X.getD b.al false = true → X.getD b'.al false = true → β b.al = β b'.al → b = b'
theorem put_getD (a : Act) (d : Option Nat) (v : Value) (j : Nat) (h : d ≠ some j) : (a.put d v).tmps.getD j undef = a.tmps.getD j undef := by
  cases d with
  | none => rfl
  | some d =>
    have : d ≠ j := fun e => h (by rw [e])
    simp [Act.put, Array.getElem?_setIfInBounds_ne this]
theorem put_size (a : Act) (d : Option Nat) (v : Value) : (a.put d v).tmps.size = a.tmps.size := by
  cases d <;> simp [Act.put]
theorem getD_both {X : Array Bool} {i : Nat} (h : i < X.size) : X.getD i true = X.getD i false := by simp [h]
/-- What is written stays as it is while others come up. -/
theorem putV_keep (ok : RebOk P N l B) {X : Array Bool} {a : Act} {b : Bx} (hb : b ∈ B) {i : Nat} {o : Oper} {v : Value} (hi : l[i]? = some o) (hn : X.getD i false = false) (hst : ∀ s, l[b.st]? = some s → ∀ e ∈ s.after, Region.binds .any e = true → X.getD e.on false = true) :
    putV l b.st (a.put o.dst v) = putV l b.st a := by
  obtain ⟨p, d, hp, hg, hd, _, h1, h2, _⟩ := bx_parts (ok.box b hb)
  unfold putV
  cases hs : l[b.st]? with
  | none => rfl
  | some s =>
    obtain ⟨_, _, _, ty, y, hop, hy⟩ := h1 s hs
    simp only [hop]
    rcases h2 s hs ty _ y hop with ⟨t, rfl⟩ | ⟨u, rfl⟩
    · have hne : o.dst ≠ some t := fun e => by
        obtain ⟨e1, he1, hb1, hon⟩ := waitsB_of (hy t rfl i o hi e)
        have := hst s hs e1 he1 hb1
        rw [hon, hn] at this
        cases this
      have := put_getD a o.dst v t hne
      simpa [Act.eval] using this
    · rfl
theorem reb_end (ok : RebOk P N l B) {Q : Exit → Act → World → Prop} {w : World} {β : Nat → Nat} {X : Array Bool} {a : Act} {w1 : World} (h : RebInv l B N w β X a w1) (h0 : Region.ready .any l.toArray X = [])
    (hok : okAll P l β a B) : Below w.heap.size w w1 ∧ (∀ b ∈ B, w.heap.size ≤ β b.al ∧ ∃ T, w1.heap[β b.al]? = some (.cells b.c T (0, 0))) ∧ ∀ b ∈ B, ∀ b' ∈ B, β b.al = β b'.al → b = b' := by
  have hall : ∀ k, k < l.length → X.getD k true = true := by
    intro k
    induction k using Nat.strongRecOn with
    | _ k ih =>
      intro hk
      rcases hl : X.getD k true with _ | _
      · exfalso
        have hko : l[k]? = some l[k] := List.getElem?_eq_getElem hk
        have hm : k ∈ Region.ready .any l.toArray X := mem_ready.2 ⟨hl, l[k], by simp [hk], fun e he hb => by
          have hlt := ok.low k _ hko e he hb
          rw [← getD_both (by rw [h.size]; omega)]
          exact ih e.on hlt (by omega)⟩
        rw [h0] at hm
        cases hm
      · rfl
  have hal : ∀ b ∈ B, X.getD b.al false = true := fun b hb => by
    obtain ⟨p, d, hp, _⟩ := bx_parts (ok.box b hb)
    have hk := (List.getElem?_eq_some_iff.1 hp).1
    rw [← getD_both (by rw [h.size]; exact hk)]
    exact hall _ hk
  refine ⟨h.below, fun b hb => ?_, fun b hb b' hb' e => h.diff b hb b' hb' (hal b hb) (hal b' hb') e⟩
  obtain ⟨g1, g2, g3, T, g4⟩ := h.made b hb (hal b hb)
  refine ⟨g1, T, ?_⟩
  have e : contB l X a b = b.c := by
    have ho := (okAll_mem hok hb).2.1
    unfold contB putV
    cases hs : l[b.st]? with
    | none =>
      rw [hs] at ho
      have hn : ¬ b.st < l.length := fun hk => by rw [List.getElem?_eq_getElem hk] at hs; cases hs
      have : X.getD b.st false = false := by
        have hz := h.size
        simp [show ¬ b.st < X.size by omega]
      rw [this, if_neg (by decide)]
      exact ho.symm
    | some s =>
      rw [hs] at ho
      have hk := (List.getElem?_eq_some_iff.1 hs).1
      rw [← getD_both (by rw [h.size]; exact hk), hall _ hk, if_pos rfl]
      obtain ⟨_, _, _, ty, y, hop, _⟩ := (bx_parts (ok.box b hb)).choose_spec.choose_spec.2.2.2.2.1 s hs
      simp only [hop] at ho ⊢
      exact ho.1
  rw [← e]
  exact g4
theorem below_setRow {n : Nat} {w w1 : World} (h : Below n w w1) {g : Nat} (hg : n ≤ g) (cs : Array Value) : Below n w (w1.setRow g cs) :=
  ⟨h.os, h.tape, h.output, by simpa using h.size, fun k hk => (setRow_other w1 g k cs (by omega)).trans (h.block k hk)⟩
theorem swap_move {β : Nat → Nat} {k : Nat} {o : Oper} {x : Operand} {a : Act} {C : World → Prop} {w : World} {v : Value} (hop : (swapO β B k o).op = .move x) (h : (swapO β B k o).quietAt P a C w v) : v = a.eval x := by
  unfold Oper.quietAt at h
  rw [BigFrame.run_move x hop] at h
  simp only [Oper.quietUpon] at h
  exact h.2.symm
/-- **THE WALK OF ALL ORDERS.** -/
theorem reb_any (ok : RebOk P N l B) {Q : Exit → Act → World → Prop} {w : World} (hsel : ∀ (j : Nat) (o : Oper) cs b, l[j]? = some o → o.op ≠ .select cs b)
    (Fin : (Nat → Nat) → Act → World → Prop) (hfin : ∀ β a w1, Below w.heap.size w w1 → (∀ b ∈ B, w.heap.size ≤ β b.al ∧ ∃ T, w1.heap[β b.al]? = some (.cells b.c T (0, 0))) → (∀ b ∈ B, ∀ b' ∈ B, β b.al = β b'.al → b = b') → Fin β a w1) :
    ∀ (fuel : Nat) (X : Array Bool) (a : Act) (w1 : World) (β : Nat → Nat), RebInv l B N w β X a w1 →
      (∀ (k : Nat) (o : Oper), l[k]? = some o → X.getD k false = true → ∀ e ∈ o.after, Region.binds .any e = true → X.getD e.on false = true) →
      (∀ β', (∀ b ∈ B, X.getD b.al false = true → β' b.al = β b.al) → ∀ w2, Below w.heap.size w w2 → wpAnyQ P .any (swapL β' B 0 l).toArray (ClassOf w2) (fun a' => okAll P l β' a' B ∧ ∀ w', Fin β' a' w' → Q .normal a' w') fuel X a) →
      wpAny P .any l.toArray Q fuel X a w1 := by
  have finish : ∀ (X : Array Bool) (a : Act) (w1 : World) (β : Nat → Nat), RebInv l B N w β X a w1 → Region.ready .any l.toArray X = [] → (okAll P l β a B ∧ ∀ w', Fin β a w' → Q .normal a w') → Q .normal a w1 := fun X a w1 β h h0 hp => by
    obtain ⟨e1, e2, e3⟩ := reb_end ok (Q := Q) h h0 hp.1
    exact hp.2 w1 (hfin β a w1 e1 e2 e3)
  have isal : ∀ b ∈ B, ∃ p, l[b.al]? = some p ∧ p.guard = none ∧ p.dst = some (slotB l b) ∧ settledB l p = true := fun b hb => by
    obtain ⟨p, d, hp, hg, hd, hs, _⟩ := bx_parts (ok.box b hb)
    refine ⟨p, hp, hg, ?_, hs⟩
    unfold slotB
    rw [hp]
    simp [hd]
  have isst : ∀ b ∈ B, ∀ s, l[b.st]? = some s → s.guard = none ∧ s.dst = none ∧ waitsB s b.al = true ∧ ∃ ty y, s.op = .store ty (.tmp (slotB l b)) y ∧ (∀ t, y = .tmp t → ∀ (i : Nat) (o : Oper), l[i]? = some o → o.dst = some t → waitsB s i = true) ∧ ((∃ t, y = .tmp t) ∨ ∃ v, y = .const v) := fun b hb s hs => by
    obtain ⟨p, d, hp, hg, hd, _, h1, h2, _⟩ := bx_parts (ok.box b hb)
    obtain ⟨e1, e2, e3, ty, y, hop, hy⟩ := h1 s hs
    have : slotB l b = d := by
      unfold slotB
      rw [hp]
      simp [hd]
    rw [this]
    exact ⟨e1, e2, e3, ty, y, hop, hy, h2 s hs ty _ y hop⟩
  have isrd : ∀ b ∈ B, ∀ s, l[b.rd]? = some s → s.guard = none ∧ waitsB s b.al = true ∧ settledB l s = true ∧ l[b.st]? = none := fun b hb s hs => by
    obtain ⟨p, d, hp, hg, hd, _, _, _, h3⟩ := bx_parts (ok.box b hb)
    exact h3 s hs
  have ltal : ∀ b ∈ B, b.al < l.length := fun b hb => by
    obtain ⟨p, hp, _⟩ := isal b hb
    exact (List.getElem?_eq_some_iff.1 hp).1
  intro fuel
  induction fuel with
  | zero =>
    intro X a w1 β h ho H
    have h1 := H β (fun _ _ _ => rfl) w (Below.refl _ _)
    have h0 := (swap_ready_nil β B l X).1 h1.1
    exact ⟨h0, finish X a w1 β h h0 h1.2⟩
  | succ fuel ih =>
    intro X a w1 β h hcl H
    refine ⟨fun h0 => finish X a w1 β h h0 ((H β (fun _ _ _ => rfl) w (Below.refl _ _)).1 ((swap_ready_nil β B l X).2 h0)), fun i hi => ?_⟩
    obtain ⟨hn, o, ho', hedge⟩ := mem_ready.1 hi
    have ho : l[i]? = some o := by simpa using ho'
    have hil : i < l.length := (List.getElem?_eq_some_iff.1 ho).1
    have hiX : i < X.size := by rw [h.size]; exact hil
    have hn' : X.getD i false = false := by rw [← getD_both hiX]; exact hn
    have hq := fun β' hβ w2 hw2 => (H β' hβ w2 hw2).2 i ((swap_ready β' B l X i).2 hi)
    have hget : ∀ β', (swapL β' B 0 l).toArray[i]? = some (swapO β' B i o) := fun β' => by
      have := swapL_get β' B l 0 i
      rw [Nat.zero_add, ho] at this
      simpa using this
    have hset : ∀ j d, j ≠ i → (X.setIfInBounds i true).getD j d = X.getD j d := fun j d hj => getD_set_ne d (Ne.symm hj)
    have hseti : (X.setIfInBounds i true).getD i false = true := by simp [hiX]
    have hcl' : ∀ (k : Nat) (o : Oper), l[k]? = some o → (X.setIfInBounds i true).getD k false = true → ∀ e ∈ o.after, Region.binds .any e = true → (X.setIfInBounds i true).getD e.on false = true := fun k q hk hx e he hb => by
      by_cases e1 : k = i
      · subst e1
        rw [ho] at hk
        cases hk
        exact getD_set_true (hedge e he hb)
      · rw [hset k false e1] at hx
        exact getD_set_true (hcl k q hk hx e he hb)
    have hord : ∀ b ∈ B, X.getD b.st false = true → X.getD b.al false = true := fun b hb hx => by
      have hk : b.st < l.length := by
        rcases Nat.lt_or_ge b.st l.length with hk | hk
        · exact hk
        · have hz := h.size
          rw [show X.getD b.st false = false by simp [show ¬ b.st < X.size by omega]] at hx
          cases hx
      have hs : l[b.st]? = some l[b.st] := List.getElem?_eq_getElem hk
      obtain ⟨e1, he1, hb1, hon⟩ := waitsB_of (isst b hb _ hs).2.2.1
      rw [← hon]
      exact hcl _ _ hs hx e1 he1 hb1
    have keep : ∀ b ∈ B, X.getD b.st false = true → ∀ v, putV l b.st (a.put o.dst v) = putV l b.st a := fun b hb hx v =>
      putV_keep ok hb ho hn' (X := X) fun s hs e he hbd => hcl _ s hs hx e he hbd
    have cont : ∀ b ∈ B, b.st ≠ i → ∀ v, contB l (X.setIfInBounds i true) (a.put o.dst v) b = contB l X a b := fun b hb hne v => by
      unfold contB
      rw [hset _ _ hne]
      split
      · rename_i hx
        rw [keep b hb hx v]
      · rfl
    -- where all that an operation looks at has come up, it does at the end of the quiet walk what it does now
    have same : ∀ q : Oper, (∀ cs b, q.op ≠ .select cs b) → (∀ t ∈ q.looksAt l.toArray, ∀ (j : Nat) (p : Oper), l[j]? = some p → p.dst = some t → X.getD j false = true) → ∃ a2, okAll P l β a2 B ∧ execOp a2.eval q = execOp a.eval q ∧
        ∀ t, (∀ (j : Nat) (p : Oper), l[j]? = some p → p.dst = some t → X.getD j false = true) → a2.tmps.getD t undef = a.tmps.getD t undef := fun q hqs hql => by
      obtain ⟨a2, ha2, hsl, hex⟩ := quiet_ends (ops0 := l.toArray) (fuel + 1) X a (H β (fun _ _ _ => rfl) w (Below.refl _ _))
      have up : ∀ t, (∀ (j : Nat) (p : Oper), l[j]? = some p → p.dst = some t → X.getD j false = true) → ∀ (j : Nat) (p : Oper), (swapL β B 0 l).toArray[j]? = some p → p.dst = some t → X.getD j true = true := fun t ht j p hj hd => by
        have hj' : l[j]?.map (swapO β B j) = some p := by
          have := swapL_get β B l 0 j
          rw [Nat.zero_add] at this
          rw [← this]
          simpa using hj
        obtain ⟨p', hp', rfl⟩ := Option.map_eq_some_iff.1 hj'
        rw [swapO_dst] at hd
        rw [getD_both (by rw [h.size]; exact (List.getElem?_eq_some_iff.1 hp').1)]
        exact ht j p' hp' hd
      exact ⟨a2, ha2.1, hex q hqs fun t ht => up t (hql t ht), fun t ht => hsl t (up t ht)⟩
    have others : (∀ b ∈ B, b.al ≠ i) → (∀ b ∈ B, b.st ≠ i) → ∀ (v : Value) (w' : World), Below w1.heap.size w1 w' →
        (∀ β', (∀ b ∈ B, X.getD b.al false = true → β' b.al = β b.al) → ∀ w2, Below w.heap.size w w2 → wpAnyQ P .any (swapL β' B 0 l).toArray (ClassOf w2) (fun a' => okAll P l β' a' B ∧ ∀ w', Fin β' a' w' → Q .normal a' w') fuel (X.setIfInBounds i true) (a.put o.dst v)) →
        wpAny P .any l.toArray Q fuel (X.setIfInBounds i true) (a.put o.dst v) w' := fun halne hstne v w' hw' H' => by
      have hz := hw'.size
      refine ih _ _ w' β ⟨by simpa using h.size, by rw [put_size]; exact h.slots, h.below.trans (hw'.mono h.below.size), fun b hb hx => ?_, fun b hb b' hb' hx hx' he => ?_⟩ hcl' fun β' hβ w2 hw2 => H' β' (fun b hb hx => hβ b hb (by rw [hset _ _ (halne b hb)]; exact hx)) w2 hw2
      · rw [hset _ _ (halne b hb)] at hx
        obtain ⟨k1, k2, k3, T2, k4⟩ := h.made b hb hx
        obtain ⟨p1, hp1, _, hd1, _⟩ := isal b hb
        refine ⟨k1, by omega, ?_, T2, ?_⟩
        · rw [put_getD a o.dst _ _ fun e1 => halne b hb (ok.one b.al i p1 o _ hp1 ho hd1 e1)]
          exact k3
        · rw [cont b hb (hstne b hb), hw'.block _ k2]
          exact k4
      · rw [hset _ _ (halne b hb)] at hx
        rw [hset _ _ (halne b' hb')] at hx'
        exact h.diff b hb b' hb' hx hx' he
    by_cases hisal : ∃ b ∈ B, b.al = i
    · -- a variable is made
      obtain ⟨b0, hb0, hbi⟩ := hisal
      obtain ⟨p, hp, hg, hd, hse⟩ := isal b0 hb0
      rw [hbi, ho] at hp
      cases hp
      have hdN := ok.dst i o _ ho hd
      have hstne : ∀ b ∈ B, b.st ≠ i := fun b hb e => ok.alst b0 hb0 b hb (ltal b0 hb0) (hbi.trans e.symm)
      have hwd : Region.wanted o (yielded l.toArray a.tmps) = true := by
        unfold Region.wanted
        rw [hg]
      obtain ⟨a2, ha2, hex, _⟩ := same o (hsel i o · · ho) fun t ht j p hj hdj => by
        obtain ⟨e1, he1, hb1, hon⟩ := waitsB_of (settledB_of hse t ht j p hj hdj)
        rw [← hon]
        exact hedge e1 he1 hb1
      have hone := (okAll_mem ha2 hb0).1
      rw [hbi, ho] at hone
      simp only [] at hone
      obtain ⟨T, hrun⟩ := hone
      rw [hex] at hrun
      unfold wpOp
      rw [ho']
      simp only [hwd, if_true]
      left
      unfold Oper.wp
      rw [hrun w1]
      simp only [Oper.upon]
      have hnew : Below w1.heap.size w1 (w1.alloc (.cells b0.z T)) := (Below.refl _ _).alloc (Nat.le_refl _) _
      have hbz := h.below.size
      have hlast : (w1.alloc (.cells b0.z T)).heap[w1.heap.size]? = some (.cells b0.z T) := heap_alloc_new w1 _
      have hal2 : ∀ b ∈ B, b.al = i → b = b0 := fun b hb e => ok.alal b hb b0 hb0 (ltal b hb) (e.trans hbi.symm)
      refine ih _ _ _ (fun j => if j = i then w1.heap.size else β j) ⟨by simpa using h.size, by rw [put_size]; exact h.slots, h.below.trans (hnew.mono hbz), fun b hb hx => ?_, fun b hb b' hb' hx hx' he => ?_⟩ hcl' fun β' hβ w2 hw2 => ?_
      · by_cases e : b.al = i
        · obtain rfl := hal2 b hb e
          rw [if_pos e]
          refine ⟨hbz, by simp, ?_, T, ?_⟩
          · rw [hd]
            have hlt : slotB l b < a.tmps.size := by rw [h.slots]; exact hdN
            simp [Act.put, hlt]
          · rw [cont b hb (hstne b hb)]
            have hz : contB l X a b = b.z := by
              unfold contB
              rw [if_neg]
              intro hs
              have := hord b hb hs
              rw [e, hn'] at this
              cases this
            rw [hz]
            exact hlast
        · rw [hset _ _ e] at hx
          obtain ⟨g1, g2, g3, T1, g4⟩ := h.made b hb hx
          rw [if_neg e]
          refine ⟨g1, by simp; omega, ?_, T1, ?_⟩
          · obtain ⟨p1, hp1, _, hd1, _⟩ := isal b hb
            rw [put_getD a o.dst _ _ fun e1 => e (ok.one b.al i p1 o _ hp1 ho hd1 e1)]
            exact g3
          · rw [cont b hb (hstne b hb), hnew.block _ g2]
            exact g4
      · by_cases e : b.al = i
        · by_cases e' : b'.al = i
          · exact (hal2 b hb e).trans (hal2 b' hb' e').symm
          · rw [if_pos e, if_neg e'] at he
            rw [hset _ _ e'] at hx'
            have := (h.made b' hb' hx').2.1
            omega
        · by_cases e' : b'.al = i
          · rw [if_neg e, if_pos e'] at he
            rw [hset _ _ e] at hx
            have := (h.made b hb hx).2.1
            omega
          · rw [if_neg e, if_neg e'] at he
            rw [hset _ _ e] at hx
            rw [hset _ _ e'] at hx'
            exact h.diff b hb b' hb' hx hx' he
      · have hag : ∀ b ∈ B, X.getD b.al false = true → β' b.al = β b.al := fun b hb hx => by
          have hne : b.al ≠ i := fun e => by rw [e, hn'] at hx; cases hx
          have := hβ b hb (by rw [hset _ _ hne]; exact hx)
          rw [if_neg hne] at this
          exact this
        have h2 := hq β' hag w2 hw2
        unfold qOp at h2
        rw [hget β'] at h2
        simp only [swap_wanted, hwd, if_true] at h2
        obtain ⟨v, hv, hK⟩ := h2
        have hv0 := swap_move (x := .const (b0.V (β' i))) (by have := swap_al ok hb0 (ltal b0 hb0) β' o; rw [hbi] at this; exact this) (hv w2 (classOf_self w2))
        have hβi : β' i = w1.heap.size := by
          have := hβ b0 hb0 (by rw [hbi]; exact hseti)
          rw [if_pos hbi, hbi] at this
          exact this
        rw [swapO_dst, hv0, hβi] at hK
        exact hK
    · have halne : ∀ b ∈ B, b.al ≠ i := fun b hb e => hisal ⟨b, hb, e⟩
      by_cases hisst : ∃ b ∈ B, b.st = i
      · -- one is written
        obtain ⟨b0, hb0, hbi⟩ := hisst
        have hs0 : l[b0.st]? = some o := by rw [hbi]; exact ho
        obtain ⟨hg, hd, hwt, ty, y, hop', hy, hyk⟩ := isst b0 hb0 o hs0
        have hwd : Region.wanted o (yielded l.toArray a.tmps) = true := by
          unfold Region.wanted
          rw [hg]
        have hx0 : X.getD b0.al false = true := by
          obtain ⟨e1, he1, hb1, hon⟩ := waitsB_of hwt
          rw [← hon]
          exact hedge e1 he1 hb1
        obtain ⟨g1, g2, g3, T1, g4⟩ := h.made b0 hb0 hx0
        have hcz : contB l X a b0 = b0.z := by
          unfold contB
          rw [if_neg]
          rw [hbi, hn']
          decide
        rw [hcz] at g4
        obtain ⟨a2, ha2, _, hsl⟩ := same ⟨none, .ready 0, 0, "", #[], none⟩ (fun _ _ e => by cases e) (fun t ht => by simp [Oper.looksAt, Op.operands] at ht)
        have hy2 : a2.eval y = a.eval y := by
          rcases hyk with ⟨t, rfl⟩ | ⟨v, rfl⟩
          · have := hsl t fun j q' hq' hdj => by
              obtain ⟨e1, he1, hb1, hon⟩ := waitsB_of (hy t rfl j q' hq' hdj)
              rw [← hon]
              exact hedge e1 he1 hb1
            simpa [Act.eval] using this
          · rfl
        have hone := (okAll_mem ha2 hb0).2.1
        rw [hs0] at hone
        simp only [hop', hy2] at hone
        obtain ⟨hc, hz, hzs, hall1, hV⟩ := hone
        rw [hV] at g3
        have hxa : a.eval (.tmp (slotB l b0)) = .pointer (some ⟨β b0.al, 0, none⟩) := by simpa [Act.eval, ptrTo] using g3
        have hsp : (splice b0.z.toList 0 (a.eval y).cells.toList).toArray = b0.c := by
          have e2 : b0.z.toList.drop (0 + b0.c.toList.length) = [] := List.drop_of_length_le (by simp; omega)
          unfold splice
          rw [hc, e2]
          simp
        have hrun := run_storeVar_part (P := P) w1 (β b0.al) 0 T1 ty b0.z (a.eval y) g4 (by rw [hc]; exact hz) (by rw [hc, hzs]; omega) (by rw [hc]; exact hall1)
        rw [hsp] at hrun
        unfold wpOp
        rw [ho']
        simp only [hwd, if_true]
        left
        unfold Oper.wp execOp
        simp only [hop', hxa, Instr.storeAt, Instr.sureAddr, Sem.run_bind, Sem.run_pure, Result.andThen_ok, hrun, Oper.upon, hd, Act.put]
        have hst2 : ∀ b ∈ B, b.st = i → b = b0 := fun b hb e => ok.stst b hb b0 hb0 (by omega) (e.trans hbi.symm)
        refine ih _ a _ β ⟨by simpa using h.size, h.slots, below_setRow h.below g1 _, fun b hb hx => ?_, fun b hb b' hb' hx hx' he => ?_⟩ hcl' fun β' hβ w2 hw2 => ?_
        · rw [hset _ _ (halne b hb)] at hx
          obtain ⟨k1, k2, k3, T2, k4⟩ := h.made b hb hx
          refine ⟨k1, by simpa using k2, k3, ?_⟩
          by_cases e : b.st = i
          · obtain rfl := hst2 b hb e
            refine ⟨T1, ?_⟩
            have : contB l (X.setIfInBounds i true) a b = b.c := by
              unfold contB
              rw [e, hseti, if_pos rfl]
              unfold putV
              rw [ho]
              simp only [hop']
              exact hc
            rw [this]
            exact setRow_heap w1 _ _ _ T1 _ g4
          · have hne : b ≠ b0 := fun e1 => e (by rw [e1]; exact hbi)
            have hbn : β b.al ≠ β b0.al := fun e1 => hne (h.diff b hb b0 hb0 hx hx0 e1)
            have : contB l (X.setIfInBounds i true) a b = contB l X a b := by
              unfold contB
              rw [hset _ _ e]
            rw [this, setRow_other w1 _ _ _ hbn]
            exact ⟨T2, k4⟩
        · rw [hset _ _ (halne b hb)] at hx
          rw [hset _ _ (halne b' hb')] at hx'
          exact h.diff b hb b' hb' hx hx' he
        · have hag : ∀ b ∈ B, X.getD b.al false = true → β' b.al = β b.al := fun b hb hx => hβ b hb (by rw [hset _ _ (halne b hb)]; exact hx)
          have h2 := hq β' hag w2 hw2
          unfold qOp at h2
          rw [hget β'] at h2
          simp only [swap_wanted, hwd, if_true] at h2
          obtain ⟨v, hv, hK⟩ := h2
          rw [swapO_dst, hd] at hK
          exact hK
      · have hstne : ∀ b ∈ B, b.st ≠ i := fun b hb e => hisst ⟨b, hb, e⟩
        by_cases hisrd : ∃ b ∈ B, b.rd = i
        · -- one is read
          obtain ⟨b0, hb0, hbi⟩ := hisrd
          have hs0 : l[b0.rd]? = some o := by rw [hbi]; exact ho
          obtain ⟨hg, hwt, hse, hnst⟩ := isrd b0 hb0 o hs0
          have hwd : Region.wanted o (yielded l.toArray a.tmps) = true := by
            unfold Region.wanted
            rw [hg]
          have hx0 : X.getD b0.al false = true := by
            obtain ⟨e1, he1, hb1, hon⟩ := waitsB_of hwt
            rw [← hon]
            exact hedge e1 he1 hb1
          obtain ⟨g1, g2, g3, T1, g4⟩ := h.made b0 hb0 hx0
          have hcz : contB l X a b0 = b0.z := by
            unfold contB
            have hk : ¬ b0.st < l.length := fun hk => by rw [List.getElem?_eq_getElem hk] at hnst; cases hnst
            have hz := h.size
            rw [if_neg]
            simp [show ¬ b0.st < X.size by omega]
          rw [hcz] at g4
          obtain ⟨a2, ha2, hex, _⟩ := same o (hsel i o · · ho) fun t ht j p hj hdj => by
            obtain ⟨e1, he1, hb1, hon⟩ := waitsB_of (settledB_of hse t ht j p hj hdj)
            rw [← hon]
            exact hedge e1 he1 hb1
          have hone := (okAll_mem ha2 hb0).2.2
          rw [hs0] at hone
          simp only [] at hone
          have hrun := hone w1 T1 g4
          rw [hex] at hrun
          unfold wpOp
          rw [ho']
          simp only [hwd, if_true]
          left
          unfold Oper.wp
          rw [hrun]
          simp only [Oper.upon]
          refine others halne hstne b0.r w1 (Below.refl _ _) fun β' hβ w2 hw2 => ?_
          have h2 := hq β' hβ w2 hw2
          unfold qOp at h2
          rw [hget β'] at h2
          simp only [swap_wanted, hwd, if_true] at h2
          obtain ⟨v, hv, hK⟩ := h2
          have hv0 := swap_move (x := .const b0.r) (by have := swap_rd ok hb0 (by omega) β' o; rw [hbi] at this; exact this) (hv w2 (classOf_self w2))
          rw [swapO_dst, hv0] at hK
          exact hK
        · -- all others
          have hrdne : ∀ b ∈ B, b.rd ≠ i := fun b hb e => hisrd ⟨b, hb, e⟩
          have hsw : ∀ β', swapO β' B i o = o := fun β' => swap_plain (fun b hb => ⟨halne b hb, hstne b hb, hrdne b hb⟩) β' o
          have hplain : plainOp P o = true := by
            rcases ok.kind i o ho with hp | ⟨b, hb, e | e | e⟩
            · exact hp
            · exact absurd e (halne b hb)
            · exact absurd e (hstne b hb)
            · exact absurd e (hrdne b hb)
          unfold wpOp
          rw [ho']
          by_cases hwd : Region.wanted o (yielded l.toArray a.tmps) = true
          · simp only [hwd, if_true]
            have hv : ∀ β', (∀ b ∈ B, X.getD b.al false = true → β' b.al = β b.al) → ∀ w2, Below w.heap.size w w2 → ∃ v, (∀ w', ClassOf w2 w' → o.quietAt P a (ClassOf w2) w' v) ∧ wpAnyQ P .any (swapL β' B 0 l).toArray (ClassOf w2) (fun a' => okAll P l β' a' B ∧ ∀ w', Fin β' a' w' → Q .normal a' w') fuel (X.setIfInBounds i true) (a.put o.dst v) := fun β' hβ w2 hw2 => by
              have h2 := hq β' hβ w2 hw2
              unfold qOp at h2
              rw [hget β'] at h2
              simp only [swap_wanted, hwd, if_true] at h2
              rw [hsw] at h2
              exact h2
            obtain ⟨v, hv0, _⟩ := hv β (fun _ _ _ => rfl) w (Below.refl _ _)
            have H' : ∀ β', (∀ b ∈ B, X.getD b.al false = true → β' b.al = β b.al) → ∀ w2, Below w.heap.size w w2 → (∀ w', ClassOf w2 w' → o.quietAt P a (ClassOf w2) w' v) ∧ wpAnyQ P .any (swapL β' B 0 l).toArray (ClassOf w2) (fun a' => okAll P l β' a' B ∧ ∀ w', Fin β' a' w' → Q .normal a' w') fuel (X.setIfInBounds i true) (a.put o.dst v) := fun β' hβ w2 hw2 => by
              obtain ⟨v2, hv2, hK⟩ := hv β' hβ w2 hw2
              obtain rfl : v2 = v := quiet_one hplain (hv2 w2 (classOf_self w2)) (hv0 w2 (regrown_of_below hw2))
              exact ⟨hv2, hK⟩
            refine .inl (Oper.wp_of_quiet (C := ClassOf w1) (K := fun a' => a' = a.put o.dst v) (classOf_self w1) (fun a' w' hC ha => ?_) ⟨v, fun w' hC => (H' β (fun _ _ _ => rfl) w1 h.below).1 w' hC, rfl⟩)
            subst ha
            exact others halne hstne v w' (below_of_class hC) fun β' hβ w2 hw2 => (H' β' hβ w2 hw2).2
          · simp only [hwd]
            refine others halne hstne undef w1 (Below.refl _ _) fun β' hβ w2 hw2 => ?_
            have h2 := hq β' hβ w2 hw2
            unfold qOp at h2
            rw [hget β'] at h2
            simp only [swap_wanted, hwd] at h2
            rw [hsw] at h2
            exact h2

theorem Mem.put' {n : Nat} {X : List Nat} {w0 w : World} {L : List (Nat × Array Value)} (h : Mem n X w0 w L) {b : Nat} {cs : Array Value} {T : TypeId} (hn : n ≤ b) (hO : w.heap[b]? = some (.cells cs T)) (hd : b ∉ L.map (·.1)) : Mem n X w0 w ((b, cs) :: L) := by
  refine ⟨h.os, h.tape, h.output, h.size, h.base, h.block, fun x hx => ?_, fun x hx => ?_, ?_⟩
  · rcases List.mem_cons.1 hx with rfl | hx
    · exact ⟨T, hO⟩
    · exact h.row x hx
  · rcases List.mem_cons.1 hx with rfl | hx
    · exact .inl hn
    · exact h.mine x hx
  · simp only [List.map_cons, List.nodup_cons]
    exact ⟨hd, h.nodup⟩
/-- The numbers of all variables. -/
def boxesL (β : Nat → Nat) : List Bx → List (Nat × Array Value)
  | [] => []
  | b :: B => (β b.al, b.c) :: boxesL β B
theorem boxesL_nums {β : Nat → Nat} {x : Nat} : ∀ {B : List Bx}, x ∈ (boxesL β B).map (·.1) → ∃ b ∈ B, x = β b.al
  | b :: B, h => by
    simp only [boxesL, List.map_cons, List.mem_cons] at h
    rcases h with rfl | h
    · exact ⟨b, List.mem_cons_self, rfl⟩
    · obtain ⟨b', hb', e⟩ := boxesL_nums h
      exact ⟨b', List.mem_cons_of_mem _ hb', e⟩
theorem mem_boxes {n : Nat} {X : List Nat} {w0 w w1 : World} {L : List (Nat × Array Value)} {β : Nat → Nat} (H : Mem n X w0 w L) (hb : Below w.heap.size w w1) :
    ∀ B : List Bx, (∀ b ∈ B, w.heap.size ≤ β b.al ∧ ∃ T, w1.heap[β b.al]? = some (.cells b.c T (0, 0))) → (B.map (fun b => β b.al)).Nodup → Mem n X w0 w1 (boxesL β B ++ L)
  | [], _, _ => H.next hb
  | b :: B, hB, hd => by
    obtain ⟨h1, T, h2⟩ := hB b List.mem_cons_self
    simp only [List.map_cons, List.nodup_cons] at hd
    refine (mem_boxes H hb B (fun b' hb' => hB b' (List.mem_cons_of_mem _ hb')) hd.2).put' (Nat.le_trans (Nat.le_trans H.base H.size) h1) h2 fun hin => ?_
    rw [List.map_append, List.mem_append] at hin
    rcases hin with hin | hin
    · obtain ⟨b', hb', e⟩ := boxesL_nums hin
      exact hd.1 (List.mem_map.2 ⟨b', hb', e.symm⟩)
    · obtain ⟨x, hx, e⟩ := List.mem_map.1 hin
      have := H.lt hx
      omega
/-- **THE LAW.** B: the variables. Behind the region they stand ahead in the list of the blocks that are known. -/
theorem wp_region_mem {id : Nat} {Q : Exit → Act → World → Prop} {a : Act} {w w0 : World} {n : Nat} {X0 : List Nat} {L : List (Nat × Array Value)} (N : Nat) (B : List Bx) (hm : P.follows .mixedOrders = true) (hns : Region.noSelect l.toArray = true) (hN : a.tmps.size = N) (hS : rebB P N l B = true)
    (hlex : ∀ β, Region.lexB .any (swapL β B 0 l).toArray = true) (hnd : (B.map (·.al)).Nodup) (H : Mem n X0 w0 w L)
    (h : ∀ β w2, Below w.heap.size w w2 → wpQuiet P (swapL β B 0 l).toArray (fun w' => ∃ p : Regrown, w' = Go.Sort.grow (redrawn w2 p.d) p.os) (fun a' => okAll P l β a' B ∧ ∀ w', Mem n X0 w0 w' (boxesL β B ++ L) → Q .normal a' w') (swapL β B 0 l) a) :
    (Code.region id l.toArray true).wp P Q a w := by
  have ok := rebOk hS
  have hsel : ∀ (j : Nat) (o : Oper) cs b, l[j]? = some o → o.op ≠ .select cs b := fun j o cs b hj => Region.noSelect_spec hns j o cs b (by simpa using hj)
  have hwd : Below w.heap.size w { w with drawn := w.drawn + 1 } := (Below.refl _ _).drew
  have rep : ∀ i, (Array.replicate l.length false).getD i false = false := fun i => by
    rcases Nat.lt_or_ge i l.length with h | h
    · simp [h]
    · simp [show ¬ i < l.length by omega]
  refine wp_region_any hm ?_
  have e : l.toArray.size = l.length := by simp
  rw [e]
  refine reb_any (N := N) (B := B) ok (w := w) hsel (fun β a' w' => Mem n X0 w0 w' (boxesL β B ++ L)) (fun β a' w1 h1 h2 h3 => ?_) l.length _ a _ (fun _ => 0) ⟨by simp, hN, hwd, fun b _ hx => ?_, fun b _ b' _ hx _ _ => ?_⟩ (fun k o _ hx => ?_) fun β _ w2 hw2 => ?_
  · refine mem_boxes H h1 B h2 ?_
    have key : ∀ B' : List Bx, (∀ b ∈ B', b ∈ B) → (B'.map (·.al)).Nodup → (B'.map fun b => β b.al).Nodup := by
      intro B'
      induction B' with
      | nil => intro _ _; exact List.nodup_nil
      | cons b B' ih =>
        intro hs hn
        simp only [List.map_cons, List.nodup_cons] at hn ⊢
        refine ⟨fun hin => ?_, ih (fun b hb => hs b (List.mem_cons_of_mem _ hb)) hn.2⟩
        obtain ⟨b', hb', e⟩ := List.mem_map.1 hin
        have := h3 b' (hs b' (List.mem_cons_of_mem _ hb')) b (hs b List.mem_cons_self) e
        exact hn.1 (List.mem_map.2 ⟨b', hb', by rw [this]⟩)
    exact key B (fun _ hb => hb) hnd
  · rw [rep] at hx; cases hx
  · rw [rep] at hx; cases hx
  · rw [rep] at hx; cases hx
  · have hl := hlex β
    simp only [Region.lexB, Bool.and_eq_true] at hl
    have h2 := h β w2 hw2
    have hsz : (swapL β B 0 l).toArray.size = l.length := by simp [swapL_length]
    have := wpAnyQ_lex (P := P) (C := ClassOf w2) (md := .any) hl.1 (swapL β B 0 l) 0 (Array.replicate l.length false) a (by simp) (by rw [swapL_length]; rw [hsz] at hl; exact hl.2) h2
    rw [swapL_length] at this
    exact this
end
end Go.Proofs.Ytkmmmnoipgdedaa
