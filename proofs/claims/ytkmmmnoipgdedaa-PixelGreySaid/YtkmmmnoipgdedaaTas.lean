/-
  A statement that leaves its order open, whose operations are quiet in a class of worlds but for the last ones, of which the first waits for all that is ahead, and each other one for the one before it (calls, and behind them stores): walked once, in the order of the text. No condition on the program.
-/
import Derived.Test.YtkmmmnoipgdedaaTal
namespace Go.Proofs.Ytkmmmnoipgdedaa
open Go.RowKit

/-- What is asked of the region's text: l ahead, t behind. -/
def seqB (l t : List Oper) : Bool :=
  Region.lexB .any l.toArray
  && ((List.range l.length).all fun k => match l[k]? with
    | none => true
    | some p => (p.after.all fun e => !Region.binds .any e || decide (e.on < k)) && (match p.guard with | none => true | some (j, _) => decide (j < l.length)))
  && (match t with
    | [] => false
    | o :: _ => (List.range l.length).all fun i => (o.after.any fun e => Region.binds .any e && e.on == i) || l.any fun p => p.after.any fun e => Region.binds .any e && e.on == i)
  && ((List.range t.length).all fun k => match t[k]? with
    | none => true
    | some o => (o.after.all fun e => !Region.binds .any e || decide (e.on < l.length + k)) && (match k with | 0 => true | k' + 1 => o.after.any fun e => Region.binds .any e && e.on == l.length + k'))
structure SeqOk (l t : List Oper) : Prop where
  lex : Region.lexB .any l.toArray = true
  low : ∀ (k : Nat) (p : Oper), l[k]? = some p → ∀ e ∈ p.after, Region.binds .any e = true → e.on < k
  guard : ∀ (k : Nat) (p : Oper), l[k]? = some p → ∀ j b, p.guard = some (j, b) → j < l.length
  waits : ∀ o, t[0]? = some o → ∀ i, i < l.length → (∃ e ∈ o.after, Region.binds .any e = true ∧ e.on = i) ∨ ∃ (j : Nat) (p : Oper), l[j]? = some p ∧ ∃ e ∈ p.after, Region.binds .any e = true ∧ e.on = i
  many : 0 < t.length
  chain : ∀ (k : Nat) (o : Oper), t[k + 1]? = some o → ∃ e ∈ o.after, Region.binds .any e = true ∧ e.on = l.length + k
  last : ∀ (k : Nat) (o : Oper), t[k]? = some o → ∀ e ∈ o.after, Region.binds .any e = true → e.on < l.length + k
theorem seqOk {l t : List Oper} (h : seqB l t = true) : SeqOk l t := by
  unfold seqB at h
  simp only [Bool.and_eq_true] at h
  obtain ⟨⟨⟨h1, h2⟩, h3⟩, h4⟩ := h
  have g : ∀ (k : Nat) (p : Oper), l[k]? = some p → (p.after.all fun e => !Region.binds .any e || decide (e.on < k)) = true ∧ (match p.guard with | none => true | some (j, _) => decide (j < l.length)) = true := fun k p hp => by
    have hk : k < l.length := (List.getElem?_eq_some_iff.1 hp).1
    have := List.all_eq_true.1 h2 k (List.mem_range.2 hk)
    rw [hp] at this
    simpa only [Bool.and_eq_true] using this
  have g4 : ∀ (k : Nat) (o : Oper), t[k]? = some o → (o.after.all fun e => !Region.binds .any e || decide (e.on < l.length + k)) = true ∧ (match k with | 0 => true | k' + 1 => o.after.any fun e => Region.binds .any e && e.on == l.length + k') = true := fun k o ho => by
    have hk : k < t.length := (List.getElem?_eq_some_iff.1 ho).1
    have := List.all_eq_true.1 h4 k (List.mem_range.2 hk)
    rw [ho] at this
    simpa only [Bool.and_eq_true] using this
  refine ⟨h1, fun k p hp e he hb => ?_, fun k p hp j b hg => ?_, fun o ho i hi => ?_, ?_, fun k o ho => ?_, fun k o ho e he hb => ?_⟩
  · have := Array.all_eq_true_iff_forall_mem.1 (g k p hp).1 e he
    simpa [hb] using this
  · have := (g k p hp).2
    rw [hg] at this
    simpa using this
  · cases t with
    | nil => cases ho
    | cons o' t' =>
      simp only [List.getElem?_cons_zero, Option.some.injEq] at ho
      subst ho
      have := List.all_eq_true.1 h3 i (List.mem_range.2 hi)
      rcases Bool.or_eq_true _ _ ▸ this with this | this
      · obtain ⟨e, he, hb⟩ := Array.any_eq_true'.1 this
        simp only [Bool.and_eq_true, beq_iff_eq] at hb
        exact .inl ⟨e, he, hb.1, hb.2⟩
      · obtain ⟨p, hp, hb⟩ := List.any_eq_true.1 this
        obtain ⟨j, hj⟩ := List.mem_iff_getElem?.1 hp
        obtain ⟨e, he, hb⟩ := Array.any_eq_true'.1 hb
        simp only [Bool.and_eq_true, beq_iff_eq] at hb
        exact .inr ⟨j, p, hj, e, he, hb.1, hb.2⟩
  · cases t with
    | nil => cases h3
    | cons _ _ => simp
  · obtain ⟨e, he, hb⟩ := Array.any_eq_true'.1 (g4 (k + 1) o ho).2
    simp only [Bool.and_eq_true, beq_iff_eq] at hb
    exact ⟨e, he, hb.1, hb.2⟩
  · have := Array.all_eq_true_iff_forall_mem.1 (g4 k o ho).1 e he
    simpa [hb] using this

section
variable {P : Program} {l t : List Oper} {C : World → Prop}
theorem seq_get (i : Nat) (h : i < l.length) : (l ++ t).toArray[i]? = l.toArray[i]? := by simp [List.getElem?_append_left h]
theorem seq_get_behind (k : Nat) : (l ++ t).toArray[l.length + k]? = t[k]? := by simp [List.getElem?_append_right]
theorem seq_yielded (a : Array Value) (j : Nat) (h : j < l.length) : yielded (l ++ t).toArray a j = yielded l.toArray a j := by
  unfold yielded
  rw [seq_get j h]
theorem seq_wanted (ok : SeqOk l t) {k : Nat} {p : Oper} (hp : l[k]? = some p) (a : Array Value) : Region.wanted p (yielded (l ++ t).toArray a) = Region.wanted p (yielded l.toArray a) := by
  unfold Region.wanted
  cases hg : p.guard with
  | none => rfl
  | some x => obtain ⟨j, b⟩ := x; simp only []; rw [seq_yielded a j (ok.guard k p hp j b hg)]
theorem seq_quiet (ok : SeqOk l t) {Q : Act → Prop} : ∀ (m : List Oper) (k : Nat) (a : Act), (∀ j, m[j]? = l[k + j]?) → wpQuiet P (l ++ t).toArray C Q m a → wpQuiet P l.toArray C Q m a
  | [], _, _, _, h => h
  | p :: m, k, a, hm, h => by
    have hp : l[k]? = some p := by have := hm 0; simpa using this.symm
    have hm' : ∀ j, m[j]? = l[k + 1 + j]? := fun j => by have := hm (j + 1); simpa [Nat.add_assoc, Nat.add_comm 1 j] using this
    unfold wpQuiet at h ⊢
    rw [seq_wanted ok hp] at h
    split
    · rename_i hw
      rw [if_pos hw] at h
      exact Oper.quiet_mono (fun a' => seq_quiet ok m (k + 1) a' hm') h
    · rename_i hw
      rw [if_neg hw] at h
      exact seq_quiet ok m (k + 1) _ hm' h
/-- What is listed of the whole, and of all but the last ones. -/
structure BothS (l : List Oper) (m : Nat) (x X : Array Bool) : Prop where
  one : x.size = l.length
  two : X.size = l.length + m
  same : ∀ j, j < l.length → ∀ d, X.getD j d = x.getD j d
  not : ∀ k, k < m → X.getD (l.length + k) true = false
  shut : ∀ (j : Nat) (p : Oper), l[j]? = some p → x.getD j false = true → ∀ e ∈ p.after, Region.binds .any e = true → x.getD e.on false = true
theorem BothS.set {m : Nat} {x X : Array Bool} (h : BothS l m x X) (i : Nat) (hi : i < l.length) (hr : i ∈ Region.ready .any l.toArray x) : BothS l m (x.setIfInBounds i true) (X.setIfInBounds i true) := by
  have keep : ∀ m, x.getD m false = true → (x.setIfInBounds i true).getD m false = true := fun m hm => by
    by_cases e : i = m
    · subst e; simp [h.one, hi]
    · rw [getD_set_ne false e]; exact hm
  refine ⟨by simp [h.one], by simp [h.two], fun j hj d => ?_, fun k hk => ?_, fun j p hp hj e he hb => ?_⟩
  · by_cases e : i = j
    · subst e
      simp [h.one, h.two, hi, Nat.lt_add_right m hi]
    · rw [getD_set_ne d e, getD_set_ne d e]
      exact h.same j hj d
  · rw [getD_set_ne true (by omega)]
    exact h.not k hk
  · by_cases e' : i = j
    · subst e'
      obtain ⟨_, q, hq, hall⟩ := mem_ready.1 hr
      rw [show l.toArray[i]? = l[i]? by simp, hp] at hq
      injection hq with hq
      subst hq
      exact keep _ (hall e he hb)
    · rw [getD_set_ne false e'] at hj
      exact keep _ (h.shut j p hp hj e he hb)
theorem BothS.start {m : Nat} : BothS l m (Array.replicate l.length false) (Array.replicate (l.length + m) false) := by
  refine ⟨by simp, by simp, fun j hj d => ?_, fun k hk => ?_, fun j p hp hj => ?_⟩
  · simp [hj, Nat.lt_add_right m hj]
  · simp [hk]
  · have := (List.getElem?_eq_some_iff.1 hp).1
    simp [this] at hj
theorem seq_ready_head (ok : SeqOk l t) {x X : Array Bool} (h : BothS l t.length x X) {i : Nat} (hi : i < l.length) : i ∈ Region.ready .any (l ++ t).toArray X ↔ i ∈ Region.ready .any l.toArray x := by
  rw [mem_ready, mem_ready, seq_get i hi, h.same i hi true]
  constructor
  · rintro ⟨h1, p, hp, hall⟩
    refine ⟨h1, p, hp, fun e he hb => ?_⟩
    have hlt := ok.low i p (by simpa using hp) e he hb
    rw [← h.same e.on (by omega) false]
    exact hall e he hb
  · rintro ⟨h1, p, hp, hall⟩
    refine ⟨h1, p, hp, fun e he hb => ?_⟩
    have hlt := ok.low i p (by simpa using hp) e he hb
    rw [h.same e.on (by omega) false]
    exact hall e he hb
theorem seq_done (ok : SeqOk l t) {x : Array Bool} (hs : x.size = l.length) (h : Region.ready .any l.toArray x = []) : ∀ j, j < l.length → ∀ d, x.getD j d = true := by
  intro j
  induction j using Nat.strongRecOn with
  | _ j ih =>
    intro hj d
    cases hx : x.getD j true with
    | true => rw [getD_of_size (by omega) d true]; exact hx
    | false =>
      have hp : l.toArray[j]? = some l[j] := by simp [hj]
      have : j ∈ Region.ready .any l.toArray x := mem_ready.2 ⟨hx, _, hp, fun e he hb => by
        have hlt := ok.low j _ (List.getElem?_eq_getElem hj) e he hb
        exact ih e.on hlt (by omega) false⟩
      rw [h] at this
      cases this
theorem seq_size {X : Array Bool} {i : Nat} (hi : i ∈ Region.ready .any (l ++ t).toArray X) : i < l.length ∨ ∃ k, k < t.length ∧ i = l.length + k := by
  obtain ⟨_, q, hq, _⟩ := mem_ready.1 hi
  have := (Array.getElem?_eq_some_iff.1 hq).1
  simp at this
  by_cases h : i < l.length
  · exact .inl h
  · exact .inr ⟨i - l.length, by omega, by omega⟩
/-- One of the last may come up only where all ahead of them is done, and then it is the first of them. -/
theorem seq_waits (ok : SeqOk l t) {x X : Array Bool} (h : BothS l t.length x X) {k : Nat} (hk : k < t.length) (hr : l.length + k ∈ Region.ready .any (l ++ t).toArray X) : Region.ready .any l.toArray x = [] := by
  obtain ⟨_, p, hp, hall⟩ := mem_ready.1 hr
  rw [seq_get_behind] at hp
  cases k with
  | succ k =>
    obtain ⟨e, he, hb, hon⟩ := ok.chain k p hp
    have h2 := hall e he hb
    rw [hon, getD_of_size (by rw [h.two]; omega) false true, h.not k (by omega)] at h2
    cases h2
  | zero =>
    have done : ∀ n i, l.length - i ≤ n → i < l.length → x.getD i false = true := fun n => by
      induction n with
      | zero => intro i hn hi; omega
      | succ n ih =>
        intro i hn hi
        rcases ok.waits p hp i hi with ⟨e, he, hb, hon⟩ | ⟨j, q, hq, e, he, hb, hon⟩
        · have h2 := hall e he hb
          rw [hon, h.same i hi false] at h2
          exact h2
        · have hj := (List.getElem?_eq_some_iff.1 hq).1
          have hlow := ok.low j q hq e he hb
          have := h.shut j q hq (ih j (by omega) hj) e he hb
          rw [hon] at this
          exact this
    rw [List.eq_nil_iff_forall_not_mem]
    intro i hi
    have h1 := mem_ready.1 hi
    have hlt : i < l.length := by
      obtain ⟨_, q, hq, _⟩ := h1
      simpa using (Array.getElem?_eq_some_iff.1 hq).1
    have h2 := done _ i (Nat.le_refl _) hlt
    rw [getD_of_size (by rw [h.one]; exact hlt) false true, h1.1] at h2
    cases h2
/-- The last ones, one behind the other. -/
theorem anyG_seq (ok : SeqOk l t) {step : Nat → (Act → World → Prop) → Act → World → Prop} {Qn : Act → World → Prop} {S : Nat → Act → World → Prop}
    (hlast : ∀ (k : Nat) (K' : Act → World → Prop) (a : Act) (w : World), k < t.length → S k a w → (∀ a' w', S (k + 1) a' w' → K' a' w') → step (l.length + k) K' a w)
    (hend : ∀ a w, S t.length a w → Qn a w) :
    ∀ (n k : Nat) (X : Array Bool) (a : Act) (w : World) (f : Nat), t.length - k = n → k ≤ t.length → n ≤ f → X.size = l.length + t.length → (∀ j, j < l.length + k → X.getD j true = true) → (∀ j, k ≤ j → j < t.length → X.getD (l.length + j) true = false) → S k a w → anyG step (l ++ t).toArray Qn f X a w := by
  intro n
  induction n with
  | zero =>
    intro k X a w f hn hk hf hs hd hnot hS
    obtain rfl : k = t.length := by omega
    refine anyG_end (List.eq_nil_iff_forall_not_mem.2 fun i hi => ?_) (hend _ _ hS) f
    have h1 := (mem_ready.1 hi).1
    rcases seq_size hi with hlt | ⟨j, hj, rfl⟩
    · rw [hd i (by omega)] at h1; cases h1
    · rw [hd _ (by omega)] at h1; cases h1
  | succ n ih =>
    intro k X a w f hn hk hf hs hd hnot hS
    obtain ⟨f', rfl⟩ : ∃ f', f = f' + 1 := ⟨f - 1, by omega⟩
    have hkt : k < t.length := by omega
    have hget : t[k]? = some t[k] := List.getElem?_eq_getElem hkt
    have hmem : l.length + k ∈ Region.ready .any (l ++ t).toArray X := mem_ready.2 ⟨hnot k (Nat.le_refl _) hkt, t[k], by rw [seq_get_behind]; exact hget, fun e he hb => by
      have hlt := ok.last k _ hget e he hb
      rw [getD_of_size (by omega) false true]
      exact hd _ hlt⟩
    refine ⟨fun h => (by rw [h] at hmem; cases hmem), fun i hi => ?_⟩
    have h1 := mem_ready.1 hi
    have hik : i = l.length + k := by
      rcases seq_size hi with hlt | ⟨j, hj, rfl⟩
      · have := h1.1
        rw [hd i (by omega)] at this; cases this
      · rcases Nat.lt_trichotomy j k with hlt | rfl | hlt
        · have := h1.1
          rw [hd _ (by omega)] at this; cases this
        · rfl
        · obtain ⟨j', rfl⟩ : ∃ j', j = j' + 1 := ⟨j - 1, by omega⟩
          obtain ⟨_, p, hp, hall⟩ := h1
          rw [seq_get_behind] at hp
          obtain ⟨e, he, hb, hon⟩ := ok.chain j' p hp
          have h2 := hall e he hb
          rw [hon, getD_of_size (by omega) false true, hnot j' (by omega) (by omega)] at h2
          cases h2
    subst hik
    refine hlast k _ a w hkt hS fun a' w' hS' => ih (k + 1) _ a' w' f' (by omega) (by omega) (by omega) (by simp [hs]) (fun j hj => ?_) (fun j hj hjt => ?_) hS'
    · by_cases e : l.length + k = j
      · subst e; simp [hs, hkt]
      · rw [getD_set_ne true e]
        exact hd j (by omega)
    · rw [getD_set_ne true (by omega)]
      exact hnot j (by omega) hjt
theorem anyG_tails (ok : SeqOk l t) {step : Nat → (Act → World → Prop) → Act → World → Prop} {Qn : Act → World → Prop} {Post : Act → Prop} {S : Nat → Act → World → Prop}
    (hstep : ∀ (i : Nat) (K : Act → Prop) (K' : Act → World → Prop) (a : Act) (w : World), i < l.length → C w → (∀ a w', C w' → K a → K' a w') → qOp P l.toArray C i K a → step i K' a w)
    (hpost : ∀ a w, C w → Post a → S 0 a w)
    (hlast : ∀ (k : Nat) (K' : Act → World → Prop) (a : Act) (w : World), k < t.length → S k a w → (∀ a' w', S (k + 1) a' w' → K' a' w') → step (l.length + k) K' a w)
    (hend : ∀ a w, S t.length a w → Qn a w) :
    ∀ (f : Nat) (x X : Array Bool) (a : Act) (w : World), BothS l t.length x X → C w → wpAnyQ P .any l.toArray C Post f x a → anyG step (l ++ t).toArray Qn (f + t.length) X a w := by
  have hfin : ∀ (f : Nat) (x X : Array Bool) (a : Act) (w : World), BothS l t.length x X → C w → Region.ready .any l.toArray x = [] → Post a → anyG step (l ++ t).toArray Qn (f + t.length) X a w := fun f x X a w hb hc hr hp => by
    have hd := seq_done ok hb.one hr
    exact anyG_seq ok hlast hend t.length 0 X a w _ (by omega) (by omega) (by omega) hb.two (fun j hj => by rw [hb.same j (by omega)]; exact hd j (by omega) true) (fun j _ hj => hb.not j hj) (hpost a w hc hp)
  intro f
  induction f with
  | zero => intro x X a w hb hc h; exact hfin 0 x X a w hb hc h.1 h.2
  | succ f ih =>
    intro x X a w hb hc h
    by_cases hr : Region.ready .any l.toArray x = []
    · exact hfin (f + 1) x X a w hb hc hr (h.1 hr)
    · rw [show f + 1 + t.length = (f + t.length) + 1 by omega]
      refine ⟨fun h0 => ?_, fun i hi => ?_⟩
      · obtain ⟨i, hi⟩ := List.exists_mem_of_ne_nil _ hr
        have hlt : i < l.length := by
          obtain ⟨_, q, hq, _⟩ := mem_ready.1 hi
          simpa using (Array.getElem?_eq_some_iff.1 hq).1
        have := (seq_ready_head ok hb hlt).2 hi
        rw [h0] at this
        cases this
      · rcases seq_size hi with hlt | ⟨k, hk, rfl⟩
        · exact hstep i _ _ a w hlt hc (fun a' w' hc' hk => ih _ _ a' w' (hb.set i hlt ((seq_ready_head ok hb hlt).1 hi)) hc' hk) (h.2 i ((seq_ready_head ok hb hlt).1 hi))
        · exact absurd (seq_waits ok hb hk hi) hr
theorem lex_seq (ok : SeqOk l t) {Post : Act → Prop} {a : Act} (h : wpQuiet P (l ++ t).toArray C Post l a) : wpAnyQ P .any l.toArray C Post l.length (Array.replicate l.length false) a := by
  have hl := ok.lex
  simp only [Region.lexB, Bool.and_eq_true] at hl
  exact wpAnyQ_lex hl.1 l 0 (Array.replicate l.length false) a (by simp) (by simpa using hl.2) (seq_quiet ok l 0 a (by simp) h)
/-- AT PLAIN CODE. -/
theorem wp_region_tails {id : Nat} {Q : Exit → Act → World → Prop} {a : Act} {w : World} (hm : P.follows .mixedOrders = true) (hB : seqB l t = true) (hC : C { w with drawn := w.drawn + 1 })
    (h : wpQuiet P (l ++ t).toArray C (fun a' => ∀ w', C w' → wpList P (l ++ t).toArray Q t a' w') l a) : (Code.region id (l ++ t).toArray true).wp P Q a w := by
  have ok := seqOk hB
  refine wp_region_any hm (anyG_wpAny _ _ _ _ ?_)
  have e : (l ++ t).toArray.size = l.length + t.length := by simp
  rw [e]
  refine anyG_tails ok (Post := fun a' => ∀ w', C w' → wpList P (l ++ t).toArray Q t a' w') (S := fun k a w => wpList P (l ++ t).toArray Q (t.drop k) a w) (fun i K K' a w hi hc hk hq => ?_) (fun a w hc hp => by simpa using hp w hc) (fun k K' a w hkt hS hk => ?_) (fun a w h => by simpa [wpList] using h) _ _ _ _ _ BothS.start hC (lex_seq ok h)
  · unfold qOp at hq
    unfold wpOp
    rw [seq_get i hi]
    split
    · rename_i h0; simp only [h0] at hq; exact hk _ _ hc hq
    · rename_i p hp
      simp only [hp] at hq
      rw [seq_wanted ok (k := i) (by simpa using hp)]
      split
      · rename_i hw; simp only [hw, if_true] at hq; exact .inl (Oper.wp_of_quiet hc hk hq)
      · rename_i hw; simp only [hw] at hq; exact hk _ _ hc hq
  · unfold wpOp
    rw [seq_get_behind, List.getElem?_eq_getElem hkt]
    rw [List.drop_eq_getElem_cons hkt] at hS
    simp only [wpList] at hS ⊢
    split
    · rename_i hw
      rw [if_pos hw] at hS
      exact hS.imp (Oper.wp_mono hk) (fun z => z)
    · rename_i hw
      rw [if_neg hw] at hS
      exact hk _ _ hS
/-- The same for a region whose operations are written out, n of them ahead; the class: blocks may have been laid, draws made. -/
theorem wp_region_tails_below {id : Nat} {Q : Exit → Act → World → Prop} {a : Act} {w : World} {L : List Oper} (n : Nat) (hm : P.follows .mixedOrders = true) (hB : seqB (L.take n) (L.drop n) = true)
    (h : wpQuiet P L.toArray (fun w' => ∃ p : Regrown, w' = Go.Sort.grow (redrawn w p.d) p.os) (fun a' => ∀ w', (∃ p : Regrown, w' = Go.Sort.grow (redrawn w p.d) p.os) → wpList P L.toArray Q (L.drop n) a' w') (L.take n) a) : (Code.region id L.toArray true).wp P Q a w := by
  obtain ⟨l, t, hl, ht, rfl⟩ : ∃ l t, L.take n = l ∧ L.drop n = t ∧ L = l ++ t := ⟨_, _, rfl, rfl, (List.take_append_drop n L).symm⟩
  rw [ht, hl] at hB h
  exact wp_region_tails (C := fun w' => ∃ p : Regrown, w' = Go.Sort.grow (redrawn w p.d) p.os) hm hB ⟨⟨w.drawn + 1, #[]⟩, by rw [Go.Sort.grow_empty]; rfl⟩ h
end
end Go.Proofs.Ytkmmmnoipgdedaa
