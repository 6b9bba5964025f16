/-
  Several texts in one: what is read and written by the functions on the way to the statements. Conditions stand in each theorem.
-/
import Derived.Deep.QuietTactic
import Derived.BigQuiet
import Derived.Lib.QuietBelow
import Derived.OrdersIn
import Derived.TacticsIn
import Derived.RangeFuncCalls
namespace Go.Proofs.YtbonamhinnhlnaaGreatDoor
open Go.RowKit

section
variable {P : Program} {l : List Oper} {o : Oper} {C : World → Prop}
/-- What is listed of the whole, and of all but the last. -/
structure Both (l : List Oper) (x X : Array Bool) : Prop where
  one : x.size = l.length
  two : X.size = l.length + 1
  same : ∀ j, j < l.length → ∀ d, X.getD j d = x.getD j d
  not : X.getD l.length true = false
  shut : ∀ (j : Nat) (p : Oper), l[j]? = some p → x.getD j false = true → ∀ e ∈ p.after, Region.binds .any e = true → x.getD e.on false = true
theorem getD_of_size {x : Array Bool} {j : Nat} (h : j < x.size) (d e : Bool) : x.getD j d = x.getD j e := by simp [h]
theorem Both.set {x X : Array Bool} (h : Both l x X) (i : Nat) (hi : i < l.length) (hr : i ∈ Region.ready .any l.toArray x) : Both l (x.setIfInBounds i true) (X.setIfInBounds i true) := by
  have keep : ∀ m, x.getD m false = true → (x.setIfInBounds i true).getD m false = true := fun m hm => by
    by_cases e : i = m
    · subst e; simp [h.one, hi]
    · rw [getD_set_ne false e]; exact hm
  refine ⟨by simp [h.one], by simp [h.two], fun j hj d => ?_, ?_, fun j p hp hj e he hb => ?_⟩
  · by_cases e : i = j
    · subst e
      simp [h.one, h.two, hi, Nat.lt_succ_of_lt hi]
    · rw [getD_set_ne d e, getD_set_ne d e]
      exact h.same j hj d
  · rw [getD_set_ne true (by omega)]
    exact h.not
  · by_cases e' : i = j
    · subst e'
      obtain ⟨_, q, hq, hall⟩ := mem_ready.1 hr
      rw [show l.toArray[i]? = l[i]? by simp, hp] at hq
      injection hq with hq
      subst hq
      exact keep _ (hall e he hb)
    · rw [getD_set_ne false e'] at hj
      exact keep _ (h.shut j p hp hj e he hb)
theorem Both.start : Both l (Array.replicate l.length false) (Array.replicate (l.length + 1) false) := by
  refine ⟨by simp, by simp, fun j hj d => ?_, ?_, fun j p hp hj => ?_⟩
  · simp [hj, Nat.lt_succ_of_lt hj]
  · simp
  · have := (List.getElem?_eq_some_iff.1 hp).1
    simp [this] at hj
/-- Whatever order is picked, by whatever carries out one operation. -/
def anyG (step : Nat → (Act → World → Prop) → Act → World → Prop) (ops : Array Oper) (Qn : Act → World → Prop) : Nat → Array Bool → Act → World → Prop
  | 0, x, a, w => Region.ready .any ops x = [] ∧ Qn a w
  | f + 1, x, a, w => (Region.ready .any ops x = [] → Qn a w) ∧ ∀ i ∈ Region.ready .any ops x, step i (anyG step ops Qn f (x.setIfInBounds i true)) a w
theorem anyG_end {step : Nat → (Act → World → Prop) → Act → World → Prop} {ops : Array Oper} {Qn : Act → World → Prop} {x : Array Bool} {a : Act} {w : World} (h : Region.ready .any ops x = []) (hq : Qn a w) : ∀ f, anyG step ops Qn f x a w
  | 0 => ⟨h, hq⟩
  | f + 1 => ⟨fun _ => hq, fun i hi => by rw [h] at hi; cases hi⟩
theorem anyG_wpAny {ops : Array Oper} {Q : Exit → Act → World → Prop} : ∀ (f : Nat) (x : Array Bool) (a : Act) (w : World), anyG (wpOp P ops Q) ops (Q .normal) f x a w → wpAny P .any ops Q f x a w
  | 0, _, _, _, h => h
  | f + 1, _, _, _, h => ⟨h.1, fun i hi => wpOp_mono (fun a' w' => anyG_wpAny f _ a' w') (h.2 i hi)⟩
end
end Go.Proofs.YtbonamhinnhlnaaGreatDoor
namespace Go.Proofs.YtbonamhinnhlnaaGreatDoor
open Go.RowKit

/-- What is asked of the region's text: l ahead, t behind. -/
def seqB (l t : List Oper) : Bool :=
  Region.lexB .any l.toArray
  && ((List.range l.length).all fun k => match l[k]? with
    | none => true
    | some p => (p.after.all fun e => !Region.binds .any e || decide (e.on < k)) && (match p.guard with | none => true | some (j, _) => decide (j < l.length)))
  && (match t with
    | [] => false
    | o :: _ => (List.range l.length).all fun i => (o.after.any fun e => Region.binds .any e && e.on == i) || l.any fun p => p.after.any fun e => Region.binds .any e && e.on == i)
  && ((List.range t.length).all fun k => match t[k]? with
    | none => true
    | some o => (o.after.all fun e => !Region.binds .any e || decide (e.on < l.length + k)) && (match k with | 0 => true | k' + 1 => o.after.any fun e => Region.binds .any e && e.on == l.length + k'))
structure SeqOk (l t : List Oper) : Prop where
  lex : Region.lexB .any l.toArray = true
  low : ∀ (k : Nat) (p : Oper), l[k]? = some p → ∀ e ∈ p.after, Region.binds .any e = true → e.on < k
  guard : ∀ (k : Nat) (p : Oper), l[k]? = some p → ∀ j b, p.guard = some (j, b) → j < l.length
  waits : ∀ o, t[0]? = some o → ∀ i, i < l.length → (∃ e ∈ o.after, Region.binds .any e = true ∧ e.on = i) ∨ ∃ (j : Nat) (p : Oper), l[j]? = some p ∧ ∃ e ∈ p.after, Region.binds .any e = true ∧ e.on = i
  many : 0 < t.length
  chain : ∀ (k : Nat) (o : Oper), t[k + 1]? = some o → ∃ e ∈ o.after, Region.binds .any e = true ∧ e.on = l.length + k
  last : ∀ (k : Nat) (o : Oper), t[k]? = some o → ∀ e ∈ o.after, Region.binds .any e = true → e.on < l.length + k
theorem seqOk {l t : List Oper} (h : seqB l t = true) : SeqOk l t := by
  unfold seqB at h
  simp only [Bool.and_eq_true] at h
  obtain ⟨⟨⟨h1, h2⟩, h3⟩, h4⟩ := h
  have g : ∀ (k : Nat) (p : Oper), l[k]? = some p → (p.after.all fun e => !Region.binds .any e || decide (e.on < k)) = true ∧ (match p.guard with | none => true | some (j, _) => decide (j < l.length)) = true := fun k p hp => by
    have hk : k < l.length := (List.getElem?_eq_some_iff.1 hp).1
    have := List.all_eq_true.1 h2 k (List.mem_range.2 hk)
    rw [hp] at this
    simpa only [Bool.and_eq_true] using this
  have g4 : ∀ (k : Nat) (o : Oper), t[k]? = some o → (o.after.all fun e => !Region.binds .any e || decide (e.on < l.length + k)) = true ∧ (match k with | 0 => true | k' + 1 => o.after.any fun e => Region.binds .any e && e.on == l.length + k') = true := fun k o ho => by
    have hk : k < t.length := (List.getElem?_eq_some_iff.1 ho).1
    have := List.all_eq_true.1 h4 k (List.mem_range.2 hk)
    rw [ho] at this
    simpa only [Bool.and_eq_true] using this
  refine ⟨h1, fun k p hp e he hb => ?_, fun k p hp j b hg => ?_, fun o ho i hi => ?_, ?_, fun k o ho => ?_, fun k o ho e he hb => ?_⟩
  · have := Array.all_eq_true_iff_forall_mem.1 (g k p hp).1 e he
    simpa [hb] using this
  · have := (g k p hp).2
    rw [hg] at this
    simpa using this
  · cases t with
    | nil => cases ho
    | cons o' t' =>
      simp only [List.getElem?_cons_zero, Option.some.injEq] at ho
      subst ho
      have := List.all_eq_true.1 h3 i (List.mem_range.2 hi)
      rcases Bool.or_eq_true _ _ ▸ this with this | this
      · obtain ⟨e, he, hb⟩ := Array.any_eq_true'.1 this
        simp only [Bool.and_eq_true, beq_iff_eq] at hb
        exact .inl ⟨e, he, hb.1, hb.2⟩
      · obtain ⟨p, hp, hb⟩ := List.any_eq_true.1 this
        obtain ⟨j, hj⟩ := List.mem_iff_getElem?.1 hp
        obtain ⟨e, he, hb⟩ := Array.any_eq_true'.1 hb
        simp only [Bool.and_eq_true, beq_iff_eq] at hb
        exact .inr ⟨j, p, hj, e, he, hb.1, hb.2⟩
  · cases t with
    | nil => cases h3
    | cons _ _ => simp
  · obtain ⟨e, he, hb⟩ := Array.any_eq_true'.1 (g4 (k + 1) o ho).2
    simp only [Bool.and_eq_true, beq_iff_eq] at hb
    exact ⟨e, he, hb.1, hb.2⟩
  · have := Array.all_eq_true_iff_forall_mem.1 (g4 k o ho).1 e he
    simpa [hb] using this

section
variable {P : Program} {l t : List Oper} {C : World → Prop}
theorem seq_get (i : Nat) (h : i < l.length) : (l ++ t).toArray[i]? = l.toArray[i]? := by simp [List.getElem?_append_left h]
theorem seq_get_behind (k : Nat) : (l ++ t).toArray[l.length + k]? = t[k]? := by simp [List.getElem?_append_right]
theorem seq_yielded (a : Array Value) (j : Nat) (h : j < l.length) : yielded (l ++ t).toArray a j = yielded l.toArray a j := by
  unfold yielded
  rw [seq_get j h]
theorem seq_wanted (ok : SeqOk l t) {k : Nat} {p : Oper} (hp : l[k]? = some p) (a : Array Value) : Region.wanted p (yielded (l ++ t).toArray a) = Region.wanted p (yielded l.toArray a) := by
  unfold Region.wanted
  cases hg : p.guard with
  | none => rfl
  | some x => obtain ⟨j, b⟩ := x; simp only []; rw [seq_yielded a j (ok.guard k p hp j b hg)]
theorem seq_quiet (ok : SeqOk l t) {Q : Act → Prop} : ∀ (m : List Oper) (k : Nat) (a : Act), (∀ j, m[j]? = l[k + j]?) → wpQuiet P (l ++ t).toArray C Q m a → wpQuiet P l.toArray C Q m a
  | [], _, _, _, h => h
  | p :: m, k, a, hm, h => by
    have hp : l[k]? = some p := by have := hm 0; simpa using this.symm
    have hm' : ∀ j, m[j]? = l[k + 1 + j]? := fun j => by have := hm (j + 1); simpa [Nat.add_assoc, Nat.add_comm 1 j] using this
    unfold wpQuiet at h ⊢
    rw [seq_wanted ok hp] at h
    split
    · rename_i hw
      rw [if_pos hw] at h
      exact Oper.quiet_mono (fun a' => seq_quiet ok m (k + 1) a' hm') h
    · rename_i hw
      rw [if_neg hw] at h
      exact seq_quiet ok m (k + 1) _ hm' h
/-- What is listed of the whole, and of all but the last ones. -/
structure BothS (l : List Oper) (m : Nat) (x X : Array Bool) : Prop where
  one : x.size = l.length
  two : X.size = l.length + m
  same : ∀ j, j < l.length → ∀ d, X.getD j d = x.getD j d
  not : ∀ k, k < m → X.getD (l.length + k) true = false
  shut : ∀ (j : Nat) (p : Oper), l[j]? = some p → x.getD j false = true → ∀ e ∈ p.after, Region.binds .any e = true → x.getD e.on false = true
theorem BothS.set {m : Nat} {x X : Array Bool} (h : BothS l m x X) (i : Nat) (hi : i < l.length) (hr : i ∈ Region.ready .any l.toArray x) : BothS l m (x.setIfInBounds i true) (X.setIfInBounds i true) := by
  have keep : ∀ m, x.getD m false = true → (x.setIfInBounds i true).getD m false = true := fun m hm => by
    by_cases e : i = m
    · subst e; simp [h.one, hi]
    · rw [getD_set_ne false e]; exact hm
  refine ⟨by simp [h.one], by simp [h.two], fun j hj d => ?_, fun k hk => ?_, fun j p hp hj e he hb => ?_⟩
  · by_cases e : i = j
    · subst e
      simp [h.one, h.two, hi, Nat.lt_add_right m hi]
    · rw [getD_set_ne d e, getD_set_ne d e]
      exact h.same j hj d
  · rw [getD_set_ne true (by omega)]
    exact h.not k hk
  · by_cases e' : i = j
    · subst e'
      obtain ⟨_, q, hq, hall⟩ := mem_ready.1 hr
      rw [show l.toArray[i]? = l[i]? by simp, hp] at hq
      injection hq with hq
      subst hq
      exact keep _ (hall e he hb)
    · rw [getD_set_ne false e'] at hj
      exact keep _ (h.shut j p hp hj e he hb)
theorem BothS.start {m : Nat} : BothS l m (Array.replicate l.length false) (Array.replicate (l.length + m) false) := by
  refine ⟨by simp, by simp, fun j hj d => ?_, fun k hk => ?_, fun j p hp hj => ?_⟩
  · simp [hj, Nat.lt_add_right m hj]
  · simp [hk]
  · have := (List.getElem?_eq_some_iff.1 hp).1
    simp [this] at hj
theorem seq_ready_head (ok : SeqOk l t) {x X : Array Bool} (h : BothS l t.length x X) {i : Nat} (hi : i < l.length) : i ∈ Region.ready .any (l ++ t).toArray X ↔ i ∈ Region.ready .any l.toArray x := by
  rw [mem_ready, mem_ready, seq_get i hi, h.same i hi true]
  constructor
  · rintro ⟨h1, p, hp, hall⟩
    refine ⟨h1, p, hp, fun e he hb => ?_⟩
    have hlt := ok.low i p (by simpa using hp) e he hb
    rw [← h.same e.on (by omega) false]
    exact hall e he hb
  · rintro ⟨h1, p, hp, hall⟩
    refine ⟨h1, p, hp, fun e he hb => ?_⟩
    have hlt := ok.low i p (by simpa using hp) e he hb
    rw [h.same e.on (by omega) false]
    exact hall e he hb
theorem seq_done (ok : SeqOk l t) {x : Array Bool} (hs : x.size = l.length) (h : Region.ready .any l.toArray x = []) : ∀ j, j < l.length → ∀ d, x.getD j d = true := by
  intro j
  induction j using Nat.strongRecOn with
  | _ j ih =>
    intro hj d
    cases hx : x.getD j true with
    | true => rw [getD_of_size (by omega) d true]; exact hx
    | false =>
      have hp : l.toArray[j]? = some l[j] := by simp [hj]
      have : j ∈ Region.ready .any l.toArray x := mem_ready.2 ⟨hx, _, hp, fun e he hb => by
        have hlt := ok.low j _ (List.getElem?_eq_getElem hj) e he hb
        exact ih e.on hlt (by omega) false⟩
      rw [h] at this
      cases this
theorem seq_size {X : Array Bool} {i : Nat} (hi : i ∈ Region.ready .any (l ++ t).toArray X) : i < l.length ∨ ∃ k, k < t.length ∧ i = l.length + k := by
  obtain ⟨_, q, hq, _⟩ := mem_ready.1 hi
  have := (Array.getElem?_eq_some_iff.1 hq).1
  simp at this
  by_cases h : i < l.length
  · exact .inl h
  · exact .inr ⟨i - l.length, by omega, by omega⟩
/-- One of the last may come up only where all ahead of them is done, and then it is the first of them. -/
theorem seq_waits (ok : SeqOk l t) {x X : Array Bool} (h : BothS l t.length x X) {k : Nat} (hk : k < t.length) (hr : l.length + k ∈ Region.ready .any (l ++ t).toArray X) : Region.ready .any l.toArray x = [] := by
  obtain ⟨_, p, hp, hall⟩ := mem_ready.1 hr
  rw [seq_get_behind] at hp
  cases k with
  | succ k =>
    obtain ⟨e, he, hb, hon⟩ := ok.chain k p hp
    have h2 := hall e he hb
    rw [hon, getD_of_size (by rw [h.two]; omega) false true, h.not k (by omega)] at h2
    cases h2
  | zero =>
    have done : ∀ n i, l.length - i ≤ n → i < l.length → x.getD i false = true := fun n => by
      induction n with
      | zero => intro i hn hi; omega
      | succ n ih =>
        intro i hn hi
        rcases ok.waits p hp i hi with ⟨e, he, hb, hon⟩ | ⟨j, q, hq, e, he, hb, hon⟩
        · have h2 := hall e he hb
          rw [hon, h.same i hi false] at h2
          exact h2
        · have hj := (List.getElem?_eq_some_iff.1 hq).1
          have hlow := ok.low j q hq e he hb
          have := h.shut j q hq (ih j (by omega) hj) e he hb
          rw [hon] at this
          exact this
    rw [List.eq_nil_iff_forall_not_mem]
    intro i hi
    have h1 := mem_ready.1 hi
    have hlt : i < l.length := by
      obtain ⟨_, q, hq, _⟩ := h1
      simpa using (Array.getElem?_eq_some_iff.1 hq).1
    have h2 := done _ i (Nat.le_refl _) hlt
    rw [getD_of_size (by rw [h.one]; exact hlt) false true, h1.1] at h2
    cases h2
/-- The last ones, one behind the other. -/
theorem anyG_seq (ok : SeqOk l t) {step : Nat → (Act → World → Prop) → Act → World → Prop} {Qn : Act → World → Prop} {S : Nat → Act → World → Prop}
    (hlast : ∀ (k : Nat) (K' : Act → World → Prop) (a : Act) (w : World), k < t.length → S k a w → (∀ a' w', S (k + 1) a' w' → K' a' w') → step (l.length + k) K' a w)
    (hend : ∀ a w, S t.length a w → Qn a w) :
    ∀ (n k : Nat) (X : Array Bool) (a : Act) (w : World) (f : Nat), t.length - k = n → k ≤ t.length → n ≤ f → X.size = l.length + t.length → (∀ j, j < l.length + k → X.getD j true = true) → (∀ j, k ≤ j → j < t.length → X.getD (l.length + j) true = false) → S k a w → anyG step (l ++ t).toArray Qn f X a w := by
  intro n
  induction n with
  | zero =>
    intro k X a w f hn hk hf hs hd hnot hS
    obtain rfl : k = t.length := by omega
    refine anyG_end (List.eq_nil_iff_forall_not_mem.2 fun i hi => ?_) (hend _ _ hS) f
    have h1 := (mem_ready.1 hi).1
    rcases seq_size hi with hlt | ⟨j, hj, rfl⟩
    · rw [hd i (by omega)] at h1; cases h1
    · rw [hd _ (by omega)] at h1; cases h1
  | succ n ih =>
    intro k X a w f hn hk hf hs hd hnot hS
    obtain ⟨f', rfl⟩ : ∃ f', f = f' + 1 := ⟨f - 1, by omega⟩
    have hkt : k < t.length := by omega
    have hget : t[k]? = some t[k] := List.getElem?_eq_getElem hkt
    have hmem : l.length + k ∈ Region.ready .any (l ++ t).toArray X := mem_ready.2 ⟨hnot k (Nat.le_refl _) hkt, t[k], by rw [seq_get_behind]; exact hget, fun e he hb => by
      have hlt := ok.last k _ hget e he hb
      rw [getD_of_size (by omega) false true]
      exact hd _ hlt⟩
    refine ⟨fun h => (by rw [h] at hmem; cases hmem), fun i hi => ?_⟩
    have h1 := mem_ready.1 hi
    have hik : i = l.length + k := by
      rcases seq_size hi with hlt | ⟨j, hj, rfl⟩
      · have := h1.1
        rw [hd i (by omega)] at this; cases this
      · rcases Nat.lt_trichotomy j k with hlt | rfl | hlt
        · have := h1.1
          rw [hd _ (by omega)] at this; cases this
        · rfl
        · obtain ⟨j', rfl⟩ : ∃ j', j = j' + 1 := ⟨j - 1, by omega⟩
          obtain ⟨_, p, hp, hall⟩ := h1
          rw [seq_get_behind] at hp
          obtain ⟨e, he, hb, hon⟩ := ok.chain j' p hp
          have h2 := hall e he hb
          rw [hon, getD_of_size (by omega) false true, hnot j' (by omega) (by omega)] at h2
          cases h2
    subst hik
    refine hlast k _ a w hkt hS fun a' w' hS' => ih (k + 1) _ a' w' f' (by omega) (by omega) (by omega) (by simp [hs]) (fun j hj => ?_) (fun j hj hjt => ?_) hS'
    · by_cases e : l.length + k = j
      · subst e; simp [hs, hkt]
      · rw [getD_set_ne true e]
        exact hd j (by omega)
    · rw [getD_set_ne true (by omega)]
      exact hnot j (by omega) hjt
theorem anyG_tails (ok : SeqOk l t) {step : Nat → (Act → World → Prop) → Act → World → Prop} {Qn : Act → World → Prop} {Post : Act → Prop} {S : Nat → Act → World → Prop}
    (hstep : ∀ (i : Nat) (K : Act → Prop) (K' : Act → World → Prop) (a : Act) (w : World), i < l.length → C w → (∀ a w', C w' → K a → K' a w') → qOp P l.toArray C i K a → step i K' a w)
    (hpost : ∀ a w, C w → Post a → S 0 a w)
    (hlast : ∀ (k : Nat) (K' : Act → World → Prop) (a : Act) (w : World), k < t.length → S k a w → (∀ a' w', S (k + 1) a' w' → K' a' w') → step (l.length + k) K' a w)
    (hend : ∀ a w, S t.length a w → Qn a w) :
    ∀ (f : Nat) (x X : Array Bool) (a : Act) (w : World), BothS l t.length x X → C w → wpAnyQ P .any l.toArray C Post f x a → anyG step (l ++ t).toArray Qn (f + t.length) X a w := by
  have hfin : ∀ (f : Nat) (x X : Array Bool) (a : Act) (w : World), BothS l t.length x X → C w → Region.ready .any l.toArray x = [] → Post a → anyG step (l ++ t).toArray Qn (f + t.length) X a w := fun f x X a w hb hc hr hp => by
    have hd := seq_done ok hb.one hr
    exact anyG_seq ok hlast hend t.length 0 X a w _ (by omega) (by omega) (by omega) hb.two (fun j hj => by rw [hb.same j (by omega)]; exact hd j (by omega) true) (fun j _ hj => hb.not j hj) (hpost a w hc hp)
  intro f
  induction f with
  | zero => intro x X a w hb hc h; exact hfin 0 x X a w hb hc h.1 h.2
  | succ f ih =>
    intro x X a w hb hc h
    by_cases hr : Region.ready .any l.toArray x = []
    · exact hfin (f + 1) x X a w hb hc hr (h.1 hr)
    · rw [show f + 1 + t.length = (f + t.length) + 1 by omega]
      refine ⟨fun h0 => ?_, fun i hi => ?_⟩
      · obtain ⟨i, hi⟩ := List.exists_mem_of_ne_nil _ hr
        have hlt : i < l.length := by
          obtain ⟨_, q, hq, _⟩ := mem_ready.1 hi
          simpa using (Array.getElem?_eq_some_iff.1 hq).1
        have := (seq_ready_head ok hb hlt).2 hi
        rw [h0] at this
        cases this
      · rcases seq_size hi with hlt | ⟨k, hk, rfl⟩
        · exact hstep i _ _ a w hlt hc (fun a' w' hc' hk => ih _ _ a' w' (hb.set i hlt ((seq_ready_head ok hb hlt).1 hi)) hc' hk) (h.2 i ((seq_ready_head ok hb hlt).1 hi))
        · exact absurd (seq_waits ok hb hk hi) hr
theorem lex_seq (ok : SeqOk l t) {Post : Act → Prop} {a : Act} (h : wpQuiet P (l ++ t).toArray C Post l a) : wpAnyQ P .any l.toArray C Post l.length (Array.replicate l.length false) a := by
  have hl := ok.lex
  simp only [Region.lexB, Bool.and_eq_true] at hl
  exact wpAnyQ_lex hl.1 l 0 (Array.replicate l.length false) a (by simp) (by simpa using hl.2) (seq_quiet ok l 0 a (by simp) h)
/-- AT PLAIN CODE. -/
theorem wp_region_tails {id : Nat} {Q : Exit → Act → World → Prop} {a : Act} {w : World} (hm : P.follows .mixedOrders = true) (hB : seqB l t = true) (hC : C { w with drawn := w.drawn + 1 })
    (h : wpQuiet P (l ++ t).toArray C (fun a' => ∀ w', C w' → wpList P (l ++ t).toArray Q t a' w') l a) : (Code.region id (l ++ t).toArray true).wp P Q a w := by
  have ok := seqOk hB
  refine wp_region_any hm (anyG_wpAny _ _ _ _ ?_)
  have e : (l ++ t).toArray.size = l.length + t.length := by simp
  rw [e]
  refine anyG_tails ok (Post := fun a' => ∀ w', C w' → wpList P (l ++ t).toArray Q t a' w') (S := fun k a w => wpList P (l ++ t).toArray Q (t.drop k) a w) (fun i K K' a w hi hc hk hq => ?_) (fun a w hc hp => by simpa using hp w hc) (fun k K' a w hkt hS hk => ?_) (fun a w h => by simpa [wpList] using h) _ _ _ _ _ BothS.start hC (lex_seq ok h)
  · unfold qOp at hq
    unfold wpOp
    rw [seq_get i hi]
    split
    · rename_i h0; simp only [h0] at hq; exact hk _ _ hc hq
    · rename_i p hp
      simp only [hp] at hq
      rw [seq_wanted ok (k := i) (by simpa using hp)]
      split
      · rename_i hw; simp only [hw, if_true] at hq; exact .inl (Oper.wp_of_quiet hc hk hq)
      · rename_i hw; simp only [hw] at hq; exact hk _ _ hc hq
  · unfold wpOp
    rw [seq_get_behind, List.getElem?_eq_getElem hkt]
    rw [List.drop_eq_getElem_cons hkt] at hS
    simp only [wpList] at hS ⊢
    split
    · rename_i hw
      rw [if_pos hw] at hS
      exact hS.imp (Oper.wp_mono hk) (fun z => z)
    · rename_i hw
      rw [if_neg hw] at hS
      exact hk _ _ hS
/-- The same for a region whose operations are written out, n of them ahead; the class: blocks may have been laid, draws made. -/
theorem wp_region_tails_below {id : Nat} {Q : Exit → Act → World → Prop} {a : Act} {w : World} {L : List Oper} (n : Nat) (hm : P.follows .mixedOrders = true) (hB : seqB (L.take n) (L.drop n) = true)
    (h : wpQuiet P L.toArray (fun w' => ∃ p : Regrown, w' = Go.Sort.grow (redrawn w p.d) p.os) (fun a' => ∀ w', (∃ p : Regrown, w' = Go.Sort.grow (redrawn w p.d) p.os) → wpList P L.toArray Q (L.drop n) a' w') (L.take n) a) : (Code.region id L.toArray true).wp P Q a w := by
  obtain ⟨l, t, hl, ht, rfl⟩ : ∃ l t, L.take n = l ∧ L.drop n = t ∧ L = l ++ t := ⟨_, _, rfl, rfl, (List.take_append_drop n L).symm⟩
  rw [ht, hl] at hB h
  exact wp_region_tails (C := fun w' => ∃ p : Regrown, w' = Go.Sort.grow (redrawn w p.d) p.os) hm hB ⟨⟨w.drawn + 1, #[]⟩, by rw [Go.Sort.grow_empty]; rfl⟩ h
end
end Go.Proofs.YtbonamhinnhlnaaGreatDoor
namespace Go.Proofs.YtbonamhinnhlnaaGreatDoor
open Go.RowKit

/-! ### What a call hands back is one value -/
theorem runs_one {P : Program} {m0 m1 m2 : Machine} (h1 : Steps P m0 m1) (h2 : Steps P m0 m2) {o1 o2 : Outcome} {w1 w2 : World} (e1 : step P m1 = .ended o1 w1) (e2 : step P m2 = .ended o2 w2) : m1 = m2 := by
  obtain ⟨a, ha⟩ := h1
  obtain ⟨b, hb⟩ := h2
  have key : ∀ {a b : Nat} {m1 m2 : Machine} {o : Outcome} {w : World}, runN P a m0 = .next m1 → runN P b m0 = .next m2 → step P m1 = .ended o w → b ≤ a := fun {a b m1 m2 o w} ha hb he => by
    rcases Nat.lt_or_ge a b with h | h
    · obtain ⟨c, rfl⟩ : ∃ c, b = a + (c + 1) := ⟨b - a - 1, by omega⟩
      rw [runN_add, ha] at hb
      simp [runN, he] at hb
    · exact h
  have hab := Nat.le_antisymm (key hb ha e2) (key ha hb e1)
  subst hab
  rw [ha] at hb
  injection hb
theorem returned_one {P : Program} {f : FuncId} {args : Array Value} {w : World} {v u : Value} {R R' : World → Prop} (hi : P.inits.idxOf? f = none)
    (h1 : Calls P f args w fun e w' => e = .returned v ∧ R w') (h2 : Calls P f args w fun e w' => e = .returned u ∧ R' w') : v = u := by
  obtain ⟨e1, w1, fr1, ⟨he1, _⟩, c1, f1, l1⟩ := h1 []
  obtain ⟨e2, w2, fr2, ⟨he2, _⟩, c2, f2, l2⟩ := h2 []
  subst he1
  subst he2
  have s1 := step_leave_done l1 (by rw [f1]; exact hi)
  have s2 := step_leave_done l2 (by rw [f2]; exact hi)
  have e := runs_one (show Steps P _ _ from c1) (show Steps P _ _ from c2) s1 s2
  rw [e, s2] at s1
  injection s1 with s1
  injection s1 with s1
  exact s1.symm

/-- An operation that enters no function, or one that is known by its number. -/
def plainOp (P : Program) (o : Oper) : Bool :=
  match o.op with
  | .call c => match c.callee with
    | .value (.func f) => (P.inits.idxOf? f).isNone && ((P.funcs[f]?).map fun fn => fn.body.isSome).getD false
    | .builtin .len => true
    | .builtin .cap => true
    | .builtin .min => true
    | .builtin .max => true
    | _ => false
  | .go _ => false
  | .defer _ => false
  | .send .. => false
  | .recv .. => false
  | .select .. => false
  | .nilCheck _ => true
  | _ => true
section
variable {P : Program}
theorem then_not {α : Type} {r : Result α} {g : α → Value} {w' : World} {f : FuncId} {args : Array Value} : (r.andThen fun a w' => Result.ok (Next.value (g a)) w') ≠ .ok (.enter f args) w' := by
  intro h
  cases r <;> simp [Result.andThen] at h
theorem value_not {s : Sem Value} {w w' : World} {f : FuncId} {args : Array Value} : (do pure (Next.value (← s)) : Sem Next).run P w ≠ .ok (.enter f args) w' := by
  intro h
  simp only [Sem.run_bind] at h
  cases hs : s.run P w with
  | ok v w1 => rw [hs] at h; simp [Result.andThen] at h
  | halt x w1 => rw [hs] at h; simp [Result.andThen] at h
theorem skip_not {s : Sem Unit} {w w' : World} {f : FuncId} {args : Array Value} : (do s; pure Next.skip : Sem Next).run P w ≠ .ok (.enter f args) w' := by
  intro h
  simp only [Sem.run_bind] at h
  cases hs : s.run P w with
  | ok v w1 => rw [hs] at h; simp [Result.andThen] at h
  | halt x w1 => rw [hs] at h; simp [Result.andThen] at h
theorem andThen_not {α : Type} {r : Result α} {g : α → World → Result Next} {w' : World} {f : FuncId} {args : Array Value} (h : ∀ a w1, g a w1 ≠ .ok (.enter f args) w') : r.andThen g ≠ .ok (.enter f args) w' := by
  cases r with
  | ok a w1 => exact h a w1
  | halt x w1 => intro h; cases h
theorem panic_not {w w' : World} {f : FuncId} {args : Array Value} : (runtimePanic .nilDeref : Sem Next).run P w ≠ .ok (.enter f args) w' := by
  intro h
  simp [runtimePanic, goPanic, go_sem] at h

theorem plain_enter {o : Oper} {ρ : Operand → Value} {w w' : World} {f : FuncId} {args : Array Value} (hρ : ∀ g, ρ (.func g) = .func (.func g) #[] #[]) (h : plainOp P o = true) (hr : (execOp ρ o).run P w = .ok (.enter f args) w') : P.inits.idxOf? f = none := by
  obtain ⟨dst, op, type, pos, after, guard⟩ := o
  cases op
  case call c =>
    obtain ⟨callee, cargs, ctypes⟩ := c
    cases callee with
    | value x =>
      cases x with
      | func g =>
        simp only [plainOp, Bool.and_eq_true, Option.isNone_iff_eq_none] at h
        obtain ⟨h1, h2⟩ := h
        simp only [execOp, resolve, hρ, Deferred.ofValue, Sem.run_bind, Sem.run_pure, Result.andThen_ok, invoke, callFunc, run_program] at hr
        cases hf : P.funcs[g]? with
        | none => rw [hf] at h2; simp at h2
        | some fn =>
          rw [hf] at h2 hr
          simp only [Option.map_some, Option.getD_some] at h2
          have hb : fn.body.isNone = false := by cases hb : fn.body <;> simp [hb] at h2 ⊢
          simp only [hb] at hr
          split at hr
          · simp [Sem.run_pure] at hr
          · simp [Sem.run_pure] at hr
            rw [← hr.1.1]
            exact h1
      | _ => simp [plainOp] at h
    | invoke x y => simp [plainOp] at h
    | builtin b =>
      cases b <;> simp only [plainOp, Bool.false_eq_true] at h <;> simp only [execOp, resolve, Sem.run_bind, Sem.run_pure, Result.andThen_ok, invoke, builtin] at hr <;> exact absurd hr (then_not (g := id))
  case nilCheck x =>
    simp only [execOp] at hr
    split at hr
    · exact absurd hr panic_not
    · exact absurd hr panic_not
    · exact absurd hr panic_not
    · split at hr
      · exact absurd hr panic_not
      · simp only [Sem.run_bind] at hr
        refine absurd hr (andThen_not fun a w1 => andThen_not fun b w2 => ?_)
        split
        · simp only [Sem.run_bind]
          exact andThen_not fun _ _ => by simp [Sem.run_pure]
        · simp [Sem.run_pure]
      · simp [Sem.run_pure] at hr
    · simp [Sem.run_pure] at hr
  all_goals first
    | (simp [plainOp] at h; done)
    | (simp only [execOp] at hr; first | exact absurd hr value_not | exact absurd hr skip_not | (simp [Sem.run_pure] at hr; done) | (simp only [Sem.run_bind, Sem.run_pure] at hr; exact absurd hr then_not))
    | skip
end

/-! ### The boxes -/
def ptrTo (b : Nat) : Value := .pointer (some ⟨b, 0, none⟩)
/-- The slot of box k. -/
def slotOf (m : List Oper) (k : Nat) : Tmp := ((m[k]?).bind (·.dst)).getD 0
structure AloOk (P : Program) (l m t : List Oper) : Prop where
  seq : SeqOk (l ++ m) t
  lex : Region.lexB .any l.toArray = true
  off : ∀ o ∈ l, plainOp P o = true ∧ ∀ k, k < m.length → slotOf m k ∉ o.looksAt (l ++ m ++ t).toArray ∧ o.dst ≠ some (slotOf m k)
  bare : ∀ k o, m[k]? = some o → o.guard = none ∧ o.dst = some (slotOf m k)
  low : ∀ (k : Nat) (p : Oper), l[k]? = some p → ∀ e ∈ p.after, Region.binds .any e = true → e.on < k
  guard : ∀ (k : Nat) (p : Oper), l[k]? = some p → ∀ j b, p.guard = some (j, b) → j < l.length
  diff : ∀ i j, i < m.length → j < m.length → i ≠ j → slotOf m i ≠ slotOf m j
section
variable {P : Program} {l m t : List Oper}
/-- A world in which the boxes ks are made. -/
structure MadeAt (O : Nat → Obj) (w : World) (β : Nat → Nat) (ks : List Nat) (w1 : World) : Prop where
  below : Below w.heap.size w w1
  at_ : ∀ k ∈ ks, w.heap.size ≤ β k ∧ β k < w1.heap.size ∧ w1.heap[β k]? = some (O k)
  diff : ∀ i ∈ ks, ∀ j ∈ ks, β i = β j → i = j
theorem MadeAt.next {O : Nat → Obj} {w w1 w2 : World} {β : Nat → Nat} {ks : List Nat} (h : MadeAt O w β ks w1) (hb : Below w1.heap.size w1 w2) : MadeAt O w β ks w2 := by
  have hz := hb.size
  refine ⟨h.below.trans (hb.mono h.below.size), fun k hk => ?_, h.diff⟩
  obtain ⟨h1, h2, h3⟩ := h.at_ k hk
  exact ⟨h1, by omega, by rw [hb.block _ h2]; exact h3⟩
/-- The class of a world: blocks may have been laid, draws made. -/
def ClassOf (w : World) : World → Prop := fun w' => ∃ p : Regrown, w' = Go.Sort.grow (redrawn w p.d) p.os
theorem classOf_self (w : World) : ClassOf w w := regrown_of_below (Below.refl _ _)
theorem below_of_class {w w' : World} (h : ClassOf w w') : Below w.heap.size w w' := by
  obtain ⟨p, rfl⟩ := h
  exact below_regrown w p.d p.os
theorem quiet_one {o : Oper} {a : Act} {C C' : World → Prop} {w : World} {v u : Value} (hp : plainOp P o = true) (h1 : o.quietAt P a C w v) (h2 : o.quietAt P a C' w u) : v = u := by
  unfold Oper.quietAt at h1 h2
  cases hr : (execOp a.eval o).run P w with
  | ok n w' =>
    rw [hr] at h1 h2
    cases n <;> simp only [Oper.quietUpon] at h1 h2
    case value x => exact h1.2.symm.trans h2.2
    case skip => exact h1.2.trans h2.2.symm
    case enter f args => exact returned_one (plain_enter (fun _ => rfl) hp hr) h1.2 h2.2
  | halt x w' => rw [hr] at h1; simp only [Oper.quietUpon] at h1

/-- What holds of the run: the boxes ks are made, the boxes rest are still to come. -/
structure AloInv (l m : List Oper) (n : Nat) (O : Nat → Obj) (w : World) (ks rest : List Nat) (β : Nat → Nat) (x x' X : Array Bool) (w1 : World) : Prop where
  both : BothS (l ++ m) n x' X
  size : x.size = l.length
  same : ∀ j, j < l.length → ∀ d, x'.getD j d = x.getD j d
  made : ∀ k, k < m.length → (x'.getD (l.length + k) true = true ↔ k ∈ ks)
  perm : (ks ++ rest).Perm (List.range m.length)
  boxed : MadeAt O w β ks w1
theorem AloInv.lt {n : Nat} {O : Nat → Obj} {w : World} {ks rest : List Nat} {β : Nat → Nat} {x x' X : Array Bool} {w1 : World} (h : AloInv l m n O w ks rest β x x' X w1) : ∀ k ∈ ks, k < m.length := fun _ hk =>
  List.mem_range.1 (h.perm.mem_iff.1 (List.mem_append_left _ hk))
theorem AloInv.nodup {n : Nat} {O : Nat → Obj} {w : World} {ks rest : List Nat} {β : Nat → Nat} {x x' X : Array Bool} {w1 : World} (h : AloInv l m n O w ks rest β x x' X w1) : (ks ++ rest).Nodup :=
  h.perm.nodup_iff.2 List.nodup_range
theorem AloInv.ready (ok : AloOk P l m t) {n : Nat} {O : Nat → Obj} {w : World} {ks rest : List Nat} {β : Nat → Nat} {x x' X : Array Bool} {w1 : World} (h : AloInv l m n O w ks rest β x x' X w1) {i : Nat} (hi : i < l.length) (hr : i ∈ Region.ready .any (l ++ m).toArray x') : i ∈ Region.ready .any l.toArray x := by
  rw [mem_ready, seq_get i hi, h.same i hi true] at hr
  rw [mem_ready]
  obtain ⟨h1, p, hp, hall⟩ := hr
  refine ⟨h1, p, hp, fun e he hbd => ?_⟩
  have hlow := ok.low i p (by simpa using hp) e he hbd
  rw [← h.same e.on (by omega) false]
  exact hall e he hbd
end
end Go.Proofs.YtbonamhinnhlnaaGreatDoor
