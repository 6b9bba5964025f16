/-
  A statement that leaves its order open, whose operations are quiet in a class of worlds but for the last one, which waits for all others (a store, an append): walked once, in the order of the text; at plain code, and in a round of a loop over an iterator. No condition on the program.
-/
import Derived.Deep.QuietTactic
import Derived.BigQuiet
import Derived.Lib.QuietBelow
import Derived.OrdersIn
import Derived.TacticsIn
import Derived.RangeFuncCalls
namespace Go.Proofs.Ytkmmmnoipgdedaa
open Go.RowKit

/-- What is asked of the region's text. -/
def tailB (l : List Oper) (o : Oper) : Bool :=
  Region.lexB .any l.toArray
  && ((List.range l.length).all fun k => match l[k]? with
    | none => true
    | some p => (p.after.all fun e => !Region.binds .any e || decide (e.on < k)) && (match p.guard with | none => true | some (j, _) => decide (j < l.length)))
  && ((List.range l.length).all fun i => (o.after.any fun e => Region.binds .any e && e.on == i) || l.any fun p => p.after.any fun e => Region.binds .any e && e.on == i)
  && (o.after.all fun e => !Region.binds .any e || decide (e.on < l.length))
structure TailOk (l : List Oper) (o : Oper) : Prop where
  lex : Region.lexB .any l.toArray = true
  low : ∀ (k : Nat) (p : Oper), l[k]? = some p → ∀ e ∈ p.after, Region.binds .any e = true → e.on < k
  guard : ∀ (k : Nat) (p : Oper), l[k]? = some p → ∀ j b, p.guard = some (j, b) → j < l.length
  waits : ∀ i, i < l.length → (∃ e ∈ o.after, Region.binds .any e = true ∧ e.on = i) ∨ ∃ (j : Nat) (p : Oper), l[j]? = some p ∧ ∃ e ∈ p.after, Region.binds .any e = true ∧ e.on = i
  last : ∀ e ∈ o.after, Region.binds .any e = true → e.on < l.length
theorem tailOk {l : List Oper} {o : Oper} (h : tailB l o = true) : TailOk l o := by
  unfold tailB at h
  simp only [Bool.and_eq_true] at h
  obtain ⟨⟨⟨h1, h2⟩, h3⟩, h4⟩ := h
  have g : ∀ (k : Nat) (p : Oper), l[k]? = some p → (p.after.all fun e => !Region.binds .any e || decide (e.on < k)) = true ∧ (match p.guard with | none => true | some (j, _) => decide (j < l.length)) = true := fun k p hp => by
    have hk : k < l.length := (List.getElem?_eq_some_iff.1 hp).1
    have := List.all_eq_true.1 h2 k (List.mem_range.2 hk)
    rw [hp] at this
    simpa only [Bool.and_eq_true] using this
  refine ⟨h1, fun k p hp e he hb => ?_, fun k p hp j b hg => ?_, fun i hi => ?_, fun e he hb => ?_⟩
  · have := Array.all_eq_true_iff_forall_mem.1 (g k p hp).1 e he
    simpa [hb] using this
  · have := (g k p hp).2
    rw [hg] at this
    simpa using this
  · have := List.all_eq_true.1 h3 i (List.mem_range.2 hi)
    rcases Bool.or_eq_true _ _ ▸ this with this | this
    · obtain ⟨e, he, hb⟩ := Array.any_eq_true'.1 this
      simp only [Bool.and_eq_true, beq_iff_eq] at hb
      exact .inl ⟨e, he, hb.1, hb.2⟩
    · obtain ⟨p, hp, hb⟩ := List.any_eq_true.1 this
      obtain ⟨j, hj⟩ := List.mem_iff_getElem?.1 hp
      obtain ⟨e, he, hb⟩ := Array.any_eq_true'.1 hb
      simp only [Bool.and_eq_true, beq_iff_eq] at hb
      exact .inr ⟨j, p, hj, e, he, hb.1, hb.2⟩
  · have := Array.all_eq_true_iff_forall_mem.1 h4 e he
    simpa [hb] using this

section
variable {P : Program} {l : List Oper} {o : Oper} {C : World → Prop}
theorem tail_get (i : Nat) (h : i < l.length) : (l ++ [o]).toArray[i]? = l.toArray[i]? := by simp [List.getElem?_append_left h]
theorem tail_get_last : (l ++ [o]).toArray[l.length]? = some o := by simp
theorem tail_yielded (t : Array Value) (j : Nat) (h : j < l.length) : yielded (l ++ [o]).toArray t j = yielded l.toArray t j := by
  unfold yielded
  rw [tail_get j h]
theorem tail_wanted (ok : TailOk l o) {k : Nat} {p : Oper} (hp : l[k]? = some p) (t : Array Value) : Region.wanted p (yielded (l ++ [o]).toArray t) = Region.wanted p (yielded l.toArray t) := by
  unfold Region.wanted
  cases hg : p.guard with
  | none => rfl
  | some x => obtain ⟨j, b⟩ := x; simp only []; rw [tail_yielded t j (ok.guard k p hp j b hg)]
theorem tail_quiet (ok : TailOk l o) {Q : Act → Prop} : ∀ (m : List Oper) (k : Nat) (a : Act), (∀ j, m[j]? = l[k + j]?) → wpQuiet P (l ++ [o]).toArray C Q m a → wpQuiet P l.toArray C Q m a
  | [], _, _, _, h => h
  | p :: m, k, a, hm, h => by
    have hp : l[k]? = some p := by have := hm 0; simpa using this.symm
    have hm' : ∀ j, m[j]? = l[k + 1 + j]? := fun j => by have := hm (j + 1); simpa [Nat.add_assoc, Nat.add_comm 1 j] using this
    unfold wpQuiet at h ⊢
    rw [tail_wanted ok hp] at h
    split
    · rename_i hw
      rw [if_pos hw] at h
      exact Oper.quiet_mono (fun a' => tail_quiet ok m (k + 1) a' hm') h
    · rename_i hw
      rw [if_neg hw] at h
      exact tail_quiet ok m (k + 1) _ hm' h

/-- What is listed of the whole, and of all but the last. -/
structure Both (l : List Oper) (x X : Array Bool) : Prop where
  one : x.size = l.length
  two : X.size = l.length + 1
  same : ∀ j, j < l.length → ∀ d, X.getD j d = x.getD j d
  not : X.getD l.length true = false
  shut : ∀ (j : Nat) (p : Oper), l[j]? = some p → x.getD j false = true → ∀ e ∈ p.after, Region.binds .any e = true → x.getD e.on false = true
theorem getD_of_size {x : Array Bool} {j : Nat} (h : j < x.size) (d e : Bool) : x.getD j d = x.getD j e := by simp [h]
theorem Both.set {x X : Array Bool} (h : Both l x X) (i : Nat) (hi : i < l.length) (hr : i ∈ Region.ready .any l.toArray x) : Both l (x.setIfInBounds i true) (X.setIfInBounds i true) := by
  have keep : ∀ m, x.getD m false = true → (x.setIfInBounds i true).getD m false = true := fun m hm => by
    by_cases e : i = m
    · subst e; simp [h.one, hi]
    · rw [getD_set_ne false e]; exact hm
  refine ⟨by simp [h.one], by simp [h.two], fun j hj d => ?_, ?_, fun j p hp hj e he hb => ?_⟩
  · by_cases e : i = j
    · subst e
      simp [h.one, h.two, hi, Nat.lt_succ_of_lt hi]
    · rw [getD_set_ne d e, getD_set_ne d e]
      exact h.same j hj d
  · rw [getD_set_ne true (by omega)]
    exact h.not
  · by_cases e' : i = j
    · subst e'
      obtain ⟨_, q, hq, hall⟩ := mem_ready.1 hr
      rw [show l.toArray[i]? = l[i]? by simp, hp] at hq
      injection hq with hq
      subst hq
      exact keep _ (hall e he hb)
    · rw [getD_set_ne false e'] at hj
      exact keep _ (h.shut j p hp hj e he hb)
theorem Both.start : Both l (Array.replicate l.length false) (Array.replicate (l.length + 1) false) := by
  refine ⟨by simp, by simp, fun j hj d => ?_, ?_, fun j p hp hj => ?_⟩
  · simp [hj, Nat.lt_succ_of_lt hj]
  · simp
  · have := (List.getElem?_eq_some_iff.1 hp).1
    simp [this] at hj
theorem ready_head (ok : TailOk l o) {x X : Array Bool} (h : Both l x X) {i : Nat} (hi : i < l.length) : i ∈ Region.ready .any (l ++ [o]).toArray X ↔ i ∈ Region.ready .any l.toArray x := by
  rw [mem_ready, mem_ready, tail_get i hi, h.same i hi true]
  constructor
  · rintro ⟨h1, p, hp, hall⟩
    refine ⟨h1, p, hp, fun e he hb => ?_⟩
    have hlt := ok.low i p (by simpa using hp) e he hb
    rw [← h.same e.on (by omega) false]
    exact hall e he hb
  · rintro ⟨h1, p, hp, hall⟩
    refine ⟨h1, p, hp, fun e he hb => ?_⟩
    have hlt := ok.low i p (by simpa using hp) e he hb
    rw [h.same e.on (by omega) false]
    exact hall e he hb
/-- Where nothing may come up any more all but the last are done. -/
theorem all_done (ok : TailOk l o) {x : Array Bool} (hs : x.size = l.length) (h : Region.ready .any l.toArray x = []) : ∀ j, j < l.length → ∀ d, x.getD j d = true := by
  intro j
  induction j using Nat.strongRecOn with
  | _ j ih =>
    intro hj d
    cases hx : x.getD j true with
    | true => rw [getD_of_size (by omega) d true]; exact hx
    | false =>
      have hp : l.toArray[j]? = some l[j] := by simp [hj]
      have : j ∈ Region.ready .any l.toArray x := mem_ready.2 ⟨hx, _, hp, fun e he hb => by
        have hlt := ok.low j _ (List.getElem?_eq_getElem hj) e he hb
        exact ih e.on hlt (by omega) false⟩
      rw [h] at this
      cases this
theorem last_ready (ok : TailOk l o) {x X : Array Bool} (h : Both l x X) (hd : ∀ j, j < l.length → ∀ d, x.getD j d = true) : l.length ∈ Region.ready .any (l ++ [o]).toArray X :=
  mem_ready.2 ⟨h.not, o, tail_get_last, fun e he hb => by have hlt := ok.last e he hb; rw [h.same e.on hlt false]; exact hd _ hlt _⟩
theorem last_waits (ok : TailOk l o) {x X : Array Bool} (h : Both l x X) (hr : l.length ∈ Region.ready .any (l ++ [o]).toArray X) : Region.ready .any l.toArray x = [] := by
  obtain ⟨_, p, hp, hall⟩ := mem_ready.1 hr
  rw [tail_get_last] at hp
  injection hp with hp
  subst hp
  have done : ∀ n i, l.length - i ≤ n → i < l.length → x.getD i false = true := fun n => by
    induction n with
    | zero => intro i hn hi; omega
    | succ n ih =>
      intro i hn hi
      rcases ok.waits i hi with ⟨e, he, hb, hon⟩ | ⟨j, q, hq, e, he, hb, hon⟩
      · have h2 := hall e he hb
        rw [hon, h.same i hi false] at h2
        exact h2
      · have hj := (List.getElem?_eq_some_iff.1 hq).1
        have hlow := ok.low j q hq e he hb
        have := h.shut j q hq (ih j (by omega) hj) e he hb
        rw [hon] at this
        exact this
  rw [List.eq_nil_iff_forall_not_mem]
  intro i hi
  have h1 := mem_ready.1 hi
  have hlt : i < l.length := by
    obtain ⟨_, q, hq, _⟩ := h1
    simpa using (Array.getElem?_eq_some_iff.1 hq).1
  have h2 := done _ i (Nat.le_refl _) hlt
  rw [getD_of_size (by rw [h.one]; exact hlt) false true, h1.1] at h2
  cases h2
theorem ready_size {X : Array Bool} {i : Nat} (hi : i ∈ Region.ready .any (l ++ [o]).toArray X) : i < l.length ∨ i = l.length := by
  obtain ⟨_, q, hq, _⟩ := mem_ready.1 hi
  have := (Array.getElem?_eq_some_iff.1 hq).1
  simp at this
  omega
theorem ready_none {X : Array Bool} (h : ∀ j, j < l.length + 1 → X.getD j true = true) : Region.ready .any (l ++ [o]).toArray X = [] := by
  rw [List.eq_nil_iff_forall_not_mem]
  intro i hi
  have h1 := ready_size hi
  have h2 := (mem_ready.1 hi).1
  rw [h i (by omega)] at h2
  cases h2

/-- Whatever order is picked, by whatever carries out one operation. -/
def anyG (step : Nat → (Act → World → Prop) → Act → World → Prop) (ops : Array Oper) (Qn : Act → World → Prop) : Nat → Array Bool → Act → World → Prop
  | 0, x, a, w => Region.ready .any ops x = [] ∧ Qn a w
  | f + 1, x, a, w => (Region.ready .any ops x = [] → Qn a w) ∧ ∀ i ∈ Region.ready .any ops x, step i (anyG step ops Qn f (x.setIfInBounds i true)) a w
theorem anyG_end {step : Nat → (Act → World → Prop) → Act → World → Prop} {ops : Array Oper} {Qn : Act → World → Prop} {x : Array Bool} {a : Act} {w : World} (h : Region.ready .any ops x = []) (hq : Qn a w) : ∀ f, anyG step ops Qn f x a w
  | 0 => ⟨h, hq⟩
  | f + 1 => ⟨fun _ => hq, fun i hi => by rw [h] at hi; cases hi⟩
theorem anyG_tail (ok : TailOk l o) {step : Nat → (Act → World → Prop) → Act → World → Prop} {Qn : Act → World → Prop} {Post : Act → Prop}
    (hstep : ∀ (i : Nat) (K : Act → Prop) (K' : Act → World → Prop) (a : Act) (w : World), i < l.length → C w → (∀ a w', C w' → K a → K' a w') → qOp P l.toArray C i K a → step i K' a w)
    (hlast : ∀ (K' : Act → World → Prop) (a : Act) (w : World), C w → Post a → (∀ a' w', Qn a' w' → K' a' w') → step l.length K' a w) :
    ∀ (f : Nat) (x X : Array Bool) (a : Act) (w : World), Both l x X → C w → wpAnyQ P .any l.toArray C Post f x a → anyG step (l ++ [o]).toArray Qn (f + 1) X a w := by
  have hend : ∀ (f : Nat) (x X : Array Bool) (a : Act) (w : World), Both l x X → C w → Region.ready .any l.toArray x = [] → Post a → anyG step (l ++ [o]).toArray Qn (f + 1) X a w := fun f x X a w hb hc hr hp => by
    have hd := all_done ok hb.one hr
    refine ⟨fun h => ?_, fun i hi => ?_⟩
    · have := last_ready ok hb hd
      rw [h] at this
      cases this
    · rcases ready_size hi with hlt | rfl
      · have h1 := (ready_head ok hb hlt).1 hi
        rw [hr] at h1
        cases h1
      · refine hlast _ a w hc hp fun a' w' hq => anyG_end (ready_none fun j hj => ?_) hq f
        by_cases e : l.length = j
        · subst e; simp [hb.two]
        · rw [getD_set_ne true e, hb.same j (by omega)]
          exact hd j (by omega) true
  intro f
  induction f with
  | zero => intro x X a w hb hc h; exact hend 0 x X a w hb hc h.1 h.2
  | succ f ih =>
    intro x X a w hb hc h
    by_cases hr : Region.ready .any l.toArray x = []
    · exact hend (f + 1) x X a w hb hc hr (h.1 hr)
    · refine ⟨fun h0 => ?_, fun i hi => ?_⟩
      · obtain ⟨i, hi⟩ := List.exists_mem_of_ne_nil _ hr
        have hlt : i < l.length := by
          obtain ⟨_, q, hq, _⟩ := mem_ready.1 hi
          simpa using (Array.getElem?_eq_some_iff.1 hq).1
        have := (ready_head ok hb hlt).2 hi
        rw [h0] at this
        cases this
      · rcases ready_size hi with hlt | rfl
        · exact hstep i _ _ a w hlt hc (fun a' w' hc' hk => ih _ _ a' w' (hb.set i hlt ((ready_head ok hb hlt).1 hi)) hc' hk) (h.2 i ((ready_head ok hb hlt).1 hi))
        · exact absurd (last_waits ok hb hi) hr

theorem anyG_wpAny {ops : Array Oper} {Q : Exit → Act → World → Prop} : ∀ (f : Nat) (x : Array Bool) (a : Act) (w : World), anyG (wpOp P ops Q) ops (Q .normal) f x a w → wpAny P .any ops Q f x a w
  | 0, _, _, _, h => h
  | f + 1, _, _, _, h => ⟨h.1, fun i hi => wpOp_mono (fun a' w' => anyG_wpAny f _ a' w') (h.2 i hi)⟩
theorem anyG_wpAnyIn {F : Fence} {n : Nat} {ops : Array Oper} {Q : Exit → Act → World → Prop} : ∀ (f : Nat) (x : Array Bool) (a : Act) (w : World), anyG (wpOpIn F n P ops Q) ops (Q .normal) f x a w → wpAnyIn F n P .any ops Q f x a w
  | 0, _, _, _, h => h
  | f + 1, _, _, _, h => ⟨h.1, fun i hi => wpOpIn_mono (fun a' w' => anyG_wpAnyIn f _ a' w') (h.2 i hi)⟩

theorem lex_start (ok : TailOk l o) {Post : Act → Prop} {a : Act} (h : wpQuiet P (l ++ [o]).toArray C Post l a) : wpAnyQ P .any l.toArray C Post l.length (Array.replicate l.length false) a := by
  have hl := ok.lex
  simp only [Region.lexB, Bool.and_eq_true] at hl
  exact wpAnyQ_lex hl.1 l 0 (Array.replicate l.length false) a (by simp) (by simpa using hl.2) (tail_quiet ok l 0 a (by simp) h)

/-- AT PLAIN CODE. -/
theorem wp_region_tail {id : Nat} {Q : Exit → Act → World → Prop} {a : Act} {w : World} (hm : P.follows .mixedOrders = true) (hB : tailB l o = true) (hC : C { w with drawn := w.drawn + 1 })
    (h : wpQuiet P (l ++ [o]).toArray C (fun a' => ∀ w', C w' → wpList P (l ++ [o]).toArray Q [o] a' w') l a) : (Code.region id (l ++ [o]).toArray true).wp P Q a w := by
  have ok := tailOk hB
  refine wp_region_any hm (anyG_wpAny _ _ _ _ ?_)
  have e : (l ++ [o]).toArray.size = l.length + 1 := by simp
  rw [e]
  refine anyG_tail ok (Post := fun a' => ∀ w', C w' → wpList P (l ++ [o]).toArray Q [o] a' w') (fun i K K' a w hi hc hk hq => ?_) (fun K' a w hc hp hk => ?_) _ _ _ _ _ Both.start hC (lex_start ok h)
  · unfold qOp at hq
    unfold wpOp
    rw [tail_get i hi]
    split
    · rename_i h0; simp only [h0] at hq; exact hk _ _ hc hq
    · rename_i p hp
      simp only [hp] at hq
      rw [tail_wanted ok (k := i) (by simpa using hp)]
      split
      · rename_i hw; simp only [hw, if_true] at hq; exact .inl (Oper.wp_of_quiet hc hk hq)
      · rename_i hw; simp only [hw] at hq; exact hk _ _ hc hq
  · have h1 := hp w hc
    unfold wpOp
    rw [tail_get_last]
    simp only [wpList] at h1 ⊢
    split
    · rename_i hw
      rw [if_pos hw] at h1
      exact h1.imp (Oper.wp_mono hk) (fun z => z)
    · rename_i hw
      rw [if_neg hw] at h1
      exact hk _ _ h1

theorem Oper.wpIn_of_quiet {p : Oper} {a : Act} {K : Act → Prop} {K' : Act → World → Prop} {Q' : Exit → Act → World → Prop} {w : World} (r : Nat) (n : Nat) (hnd : ∀ c, p.op ≠ .defer c) (hw : C w) (h : ∀ a w', C w' → K a → K' a w') (hh : p.quiet P a C K) : p.wpIn (Fence.wide.inRound r) n P a w K' Q' := by
  obtain ⟨v, h1, h2⟩ := hh
  have h3 := h1 w hw
  unfold Oper.quietAt at h3
  refine ⟨fun _ _ => trivial, ?_⟩
  rw [Oper.semAt_eq _ _ _ hnd]
  generalize (execOp a.eval p).run P w = z at *
  cases z with
  | ok m w' =>
    cases m <;> simp only [Oper.quietUpon] at h3 <;> simp only [Oper.uponIn]
    case value u =>
      obtain ⟨e1, e2⟩ := h3
      rw [e1, e2]
      exact h _ _ hw h2
    case skip =>
      obtain ⟨e1, e2⟩ := h3
      rw [e1, ← e2]
      exact h _ _ hw h2
    case enter f args =>
      obtain ⟨e1, hc⟩ := h3
      rw [e1]
      refine ⟨(fun hd => by cases hd), CallsIn.inRound r (callsIn_wide.2 ?_)⟩
      exact hc.mono fun e w'' ⟨he, hw''⟩ => by subst he; exact h _ _ hw'' h2
  | halt x w' => simp only [Oper.quietUpon] at h3

/-- IN A ROUND. -/
theorem wpIn_region_tail {id : Nat} {r n : Nat} {Q : Exit → Act → World → Prop} {a : Act} {w : World} (hm : P.follows .mixedOrders = true) (hB : tailB l o = true) (hD : (l.all fun p => match p.op with | .defer _ => false | _ => true) = true) (hC : C { w with drawn := w.drawn + 1 })
    (h : wpQuiet P (l ++ [o]).toArray C (fun a' => ∀ w', C w' → wpListIn (Fence.wide.inRound r) n P (l ++ [o]).toArray Q [o] a' w') l a) : (Code.region id (l ++ [o]).toArray true).wpIn (Fence.wide.inRound r) n P Q a w := by
  have ok := tailOk hB
  refine wpIn_region_any hm (anyG_wpAnyIn _ _ _ _ ?_)
  have e : (l ++ [o]).toArray.size = l.length + 1 := by simp
  rw [e]
  refine anyG_tail ok (Post := fun a' => ∀ w', C w' → wpListIn (Fence.wide.inRound r) n P (l ++ [o]).toArray Q [o] a' w') (fun i K K' a w hi hc hk hq => ?_) (fun K' a w hc hp hk => ?_) _ _ _ _ _ Both.start hC (lex_start ok h)
  · unfold qOp at hq
    unfold wpOpIn
    rw [tail_get i hi]
    split
    · rename_i h0; simp only [h0] at hq; exact hk _ _ hc hq
    · rename_i p hp
      simp only [hp] at hq
      rw [tail_wanted ok (k := i) (by simpa using hp)]
      split
      · rename_i hw
        simp only [hw, if_true] at hq
        have hmem : p ∈ l := List.mem_of_getElem? (by simpa using hp)
        have hd := List.all_eq_true.1 hD p hmem
        exact Oper.wpIn_of_quiet r n (fun c ec => by rw [ec] at hd; cases hd) hc hk hq
      · rename_i hw; simp only [hw] at hq; exact ⟨fun _ _ => trivial, hk _ _ hc hq⟩
  · have h1 := hp w hc
    unfold wpOpIn
    rw [tail_get_last]
    simp only [wpListIn] at h1 ⊢
    split
    · rename_i hw
      rw [if_pos hw] at h1
      exact Oper.wpIn_mono hk h1
    · rename_i hw
      rw [if_neg hw] at h1
      exact ⟨h1.1, hk _ _ h1.2⟩
def tailAt (L : List Oper) (n : Nat) : Bool := match L.drop n with | [o] => tailB (L.take n) o && ((L.take n).all fun p => match p.op with | .defer _ => false | _ => true) | _ => false
theorem tailAt_spec {L : List Oper} {n : Nat} (h : tailAt L n = true) : ∃ o, L.drop n = [o] ∧ L = L.take n ++ [o] ∧ tailB (L.take n) o = true ∧ ((L.take n).all fun p => match p.op with | .defer _ => false | _ => true) = true := by
  unfold tailAt at h
  split at h
  · rename_i o ho
    rw [Bool.and_eq_true] at h
    exact ⟨o, ho, by rw [← ho, List.take_append_drop], h.1, h.2⟩
  · cases h
/-- The same for a region whose operations are written out, n of them ahead of the last one; the class: blocks may have been laid, draws made. -/
theorem wp_region_tail_below {id : Nat} {Q : Exit → Act → World → Prop} {a : Act} {w : World} {L : List Oper} (n : Nat) (hm : P.follows .mixedOrders = true) (hB : tailAt L n = true)
    (h : wpQuiet P L.toArray (fun w' => ∃ p : Regrown, w' = Go.Sort.grow (redrawn w p.d) p.os) (fun a' => ∀ w', (∃ p : Regrown, w' = Go.Sort.grow (redrawn w p.d) p.os) → wpList P L.toArray Q (L.drop n) a' w') (L.take n) a) : (Code.region id L.toArray true).wp P Q a w := by
  obtain ⟨o, ho, hL, hT, _⟩ := tailAt_spec hB
  rw [ho] at h
  generalize L.take n = l at *
  subst hL
  exact wp_region_tail (C := fun w' => ∃ p : Regrown, w' = Go.Sort.grow (redrawn w p.d) p.os) hm hT ⟨⟨w.drawn + 1, #[]⟩, by rw [Go.Sort.grow_empty]; rfl⟩ h
theorem wpIn_region_tail_below {id : Nat} (r m : Nat) {Q : Exit → Act → World → Prop} {a : Act} {w : World} {L : List Oper} (n : Nat) (hm : P.follows .mixedOrders = true) (hB : tailAt L n = true)
    (h : wpQuiet P L.toArray (fun w' => ∃ p : Regrown, w' = Go.Sort.grow (redrawn w p.d) p.os) (fun a' => ∀ w', (∃ p : Regrown, w' = Go.Sort.grow (redrawn w p.d) p.os) → wpListIn (Fence.wide.inRound r) m P L.toArray Q (L.drop n) a' w') (L.take n) a) : (Code.region id L.toArray true).wpIn (Fence.wide.inRound r) m P Q a w := by
  obtain ⟨o, ho, hL, hT, hD⟩ := tailAt_spec hB
  rw [ho] at h
  generalize L.take n = l at *
  subst hL
  exact wpIn_region_tail (C := fun w' => ∃ p : Regrown, w' = Go.Sort.grow (redrawn w p.d) p.os) hm hT hD ⟨⟨w.drawn + 1, #[]⟩, by rw [Go.Sort.grow_empty]; rfl⟩ h
theorem frozen_regrown {w : World} {a : Addr} (hb : a.block < w.heap.size) (h : w.frozen? a = false) (d : Nat) (os : Array Obj) : (Go.Sort.grow (redrawn w d) os).frozen? a = false := by
  rw [(below_regrown w d os).frozen hb]; exact h
end
end Go.Proofs.Ytkmmmnoipgdedaa
