/-
  A statement that leaves its order open: quiet operations, beside them boxes of variables that are made whenever the order says (an alloc has no edge to anything), and behind all of them stores, one behind the other ('p, q := f(a), g(b)'; 'c := T{f(a), g(b)}'): walked once, in the order of the text. No condition on the program.
-/
import Derived.Test.YtkmmmnoipgdedaaTas
namespace Go.Proofs.Ytkmmmnoipgdedaa
open Go.RowKit

/-! ### What a call hands back is one value -/
theorem runs_one {P : Program} {m0 m1 m2 : Machine} (h1 : Steps P m0 m1) (h2 : Steps P m0 m2) {o1 o2 : Outcome} {w1 w2 : World} (e1 : step P m1 = .ended o1 w1) (e2 : step P m2 = .ended o2 w2) : m1 = m2 := by
  obtain ⟨a, ha⟩ := h1
  obtain ⟨b, hb⟩ := h2
  have key : ∀ {a b : Nat} {m1 m2 : Machine} {o : Outcome} {w : World}, runN P a m0 = .next m1 → runN P b m0 = .next m2 → step P m1 = .ended o w → b ≤ a := fun {a b m1 m2 o w} ha hb he => by
    rcases Nat.lt_or_ge a b with h | h
    · obtain ⟨c, rfl⟩ : ∃ c, b = a + (c + 1) := ⟨b - a - 1, by omega⟩
      rw [runN_add, ha] at hb
      simp [runN, he] at hb
    · exact h
  have hab := Nat.le_antisymm (key hb ha e2) (key ha hb e1)
  subst hab
  rw [ha] at hb
  injection hb
theorem returned_one {P : Program} {f : FuncId} {args : Array Value} {w : World} {v u : Value} {R R' : World → Prop} (hi : P.inits.idxOf? f = none)
    (h1 : Calls P f args w fun e w' => e = .returned v ∧ R w') (h2 : Calls P f args w fun e w' => e = .returned u ∧ R' w') : v = u := by
  obtain ⟨e1, w1, fr1, ⟨he1, _⟩, c1, f1, l1⟩ := h1 []
  obtain ⟨e2, w2, fr2, ⟨he2, _⟩, c2, f2, l2⟩ := h2 []
  subst he1
  subst he2
  have s1 := step_leave_done l1 (by rw [f1]; exact hi)
  have s2 := step_leave_done l2 (by rw [f2]; exact hi)
  have e := runs_one (show Steps P _ _ from c1) (show Steps P _ _ from c2) s1 s2
  rw [e, s2] at s1
  injection s1 with s1
  injection s1 with s1
  exact s1.symm

/-- An operation that enters no function, or one that is known by its number. -/
def plainOp (P : Program) (o : Oper) : Bool :=
  match o.op with
  | .call c => match c.callee with
    | .value (.func f) => (P.inits.idxOf? f).isNone && ((P.funcs[f]?).map fun fn => fn.body.isSome).getD false
    | .builtin .len => true
    | .builtin .cap => true
    | .builtin .min => true
    | .builtin .max => true
    | _ => false
  | .go _ => false
  | .defer _ => false
  | .send .. => false
  | .recv .. => false
  | .select .. => false
  | .nilCheck _ => true
  | _ => true
section
variable {P : Program}
theorem then_not {α : Type} {r : Result α} {g : α → Value} {w' : World} {f : FuncId} {args : Array Value} : (r.andThen fun a w' => Result.ok (Next.value (g a)) w') ≠ .ok (.enter f args) w' := by
  intro h
  cases r <;> simp [Result.andThen] at h
theorem value_not {s : Sem Value} {w w' : World} {f : FuncId} {args : Array Value} : (do pure (Next.value (← s)) : Sem Next).run P w ≠ .ok (.enter f args) w' := by
  intro h
  simp only [Sem.run_bind] at h
  cases hs : s.run P w with
  | ok v w1 => rw [hs] at h; simp [Result.andThen] at h
  | halt x w1 => rw [hs] at h; simp [Result.andThen] at h
theorem skip_not {s : Sem Unit} {w w' : World} {f : FuncId} {args : Array Value} : (do s; pure Next.skip : Sem Next).run P w ≠ .ok (.enter f args) w' := by
  intro h
  simp only [Sem.run_bind] at h
  cases hs : s.run P w with
  | ok v w1 => rw [hs] at h; simp [Result.andThen] at h
  | halt x w1 => rw [hs] at h; simp [Result.andThen] at h
theorem andThen_not {α : Type} {r : Result α} {g : α → World → Result Next} {w' : World} {f : FuncId} {args : Array Value} (h : ∀ a w1, g a w1 ≠ .ok (.enter f args) w') : r.andThen g ≠ .ok (.enter f args) w' := by
  cases r with
  | ok a w1 => exact h a w1
  | halt x w1 => intro h; cases h
theorem panic_not {w w' : World} {f : FuncId} {args : Array Value} : (runtimePanic .nilDeref : Sem Next).run P w ≠ .ok (.enter f args) w' := by
  intro h
  simp [runtimePanic, goPanic, go_sem] at h

theorem plain_enter {o : Oper} {ρ : Operand → Value} {w w' : World} {f : FuncId} {args : Array Value} (hρ : ∀ g, ρ (.func g) = .func (.func g) #[] #[]) (h : plainOp P o = true) (hr : (execOp ρ o).run P w = .ok (.enter f args) w') : P.inits.idxOf? f = none := by
  obtain ⟨dst, op, type, pos, after, guard⟩ := o
  cases op
  case call c =>
    obtain ⟨callee, cargs, ctypes⟩ := c
    cases callee with
    | value x =>
      cases x with
      | func g =>
        simp only [plainOp, Bool.and_eq_true, Option.isNone_iff_eq_none] at h
        obtain ⟨h1, h2⟩ := h
        simp only [execOp, resolve, hρ, Deferred.ofValue, Sem.run_bind, Sem.run_pure, Result.andThen_ok, invoke, callFunc, run_program] at hr
        cases hf : P.funcs[g]? with
        | none => rw [hf] at h2; simp at h2
        | some fn =>
          rw [hf] at h2 hr
          simp only [Option.map_some, Option.getD_some] at h2
          have hb : fn.body.isNone = false := by cases hb : fn.body <;> simp [hb] at h2 ⊢
          simp only [hb] at hr
          split at hr
          · simp [Sem.run_pure] at hr
          · simp [Sem.run_pure] at hr
            rw [← hr.1.1]
            exact h1
      | _ => simp [plainOp] at h
    | invoke x y => simp [plainOp] at h
    | builtin b =>
      cases b <;> simp only [plainOp, Bool.false_eq_true] at h <;> simp only [execOp, resolve, Sem.run_bind, Sem.run_pure, Result.andThen_ok, invoke, builtin] at hr <;> exact absurd hr (then_not (g := id))
  case nilCheck x =>
    simp only [execOp] at hr
    split at hr
    · exact absurd hr panic_not
    · exact absurd hr panic_not
    · exact absurd hr panic_not
    · split at hr
      · exact absurd hr panic_not
      · simp only [Sem.run_bind] at hr
        refine absurd hr (andThen_not fun a w1 => andThen_not fun b w2 => ?_)
        split
        · simp only [Sem.run_bind]
          exact andThen_not fun _ _ => by simp [Sem.run_pure]
        · simp [Sem.run_pure]
      · simp [Sem.run_pure] at hr
    · simp [Sem.run_pure] at hr
  all_goals first
    | (simp [plainOp] at h; done)
    | (simp only [execOp] at hr; first | exact absurd hr value_not | exact absurd hr skip_not | (simp [Sem.run_pure] at hr; done) | (simp only [Sem.run_bind, Sem.run_pure] at hr; exact absurd hr then_not))
    | skip
end

/-! ### The boxes -/
def ptrTo (b : Nat) : Value := .pointer (some ⟨b, 0, none⟩)
/-- The slot of box k. -/
def slotOf (m : List Oper) (k : Nat) : Tmp := ((m[k]?).bind (·.dst)).getD 0
/-- The boxes ks are in their slots. -/
def boxIn (m : List Oper) (β : Nat → Nat) (ks : List Nat) (a : Act) : Act := ks.foldl (fun a k => a.put (some (slotOf m k)) (ptrTo (β k))) a
/-- What is asked of the text: l ahead, the boxes m, t behind. -/
def aloB (P : Program) (l m t : List Oper) : Bool :=
  seqB (l ++ m) t && Region.lexB .any l.toArray
  && (l.all fun o => plainOp P o && m.all fun b => match b.dst with
    | some d => !(o.looksAt (l ++ m ++ t).toArray).contains d && o.dst != some d
    | none => false)
  && (m.all fun b => b.guard.isNone && b.dst.isSome)
  && ((List.range l.length).all fun k => match l[k]? with
    | none => true
    | some p => (p.after.all fun e => !Region.binds .any e || decide (e.on < k)) && (match p.guard with | none => true | some (j, _) => decide (j < l.length)))
  && ((List.range m.length).all fun i => (List.range m.length).all fun j => i == j || slotOf m i != slotOf m j)
structure AloOk (P : Program) (l m t : List Oper) : Prop where
  seq : SeqOk (l ++ m) t
  lex : Region.lexB .any l.toArray = true
  off : ∀ o ∈ l, plainOp P o = true ∧ ∀ k, k < m.length → slotOf m k ∉ o.looksAt (l ++ m ++ t).toArray ∧ o.dst ≠ some (slotOf m k)
  bare : ∀ k o, m[k]? = some o → o.guard = none ∧ o.dst = some (slotOf m k)
  low : ∀ (k : Nat) (p : Oper), l[k]? = some p → ∀ e ∈ p.after, Region.binds .any e = true → e.on < k
  guard : ∀ (k : Nat) (p : Oper), l[k]? = some p → ∀ j b, p.guard = some (j, b) → j < l.length
  diff : ∀ i j, i < m.length → j < m.length → i ≠ j → slotOf m i ≠ slotOf m j
theorem aloOk {P : Program} {l m t : List Oper} (h : aloB P l m t = true) : AloOk P l m t := by
  unfold aloB at h
  simp only [Bool.and_eq_true] at h
  obtain ⟨⟨⟨⟨⟨h1, h2⟩, h3⟩, h4⟩, h5⟩, h6⟩ := h
  have g : ∀ (k : Nat) (p : Oper), l[k]? = some p → (p.after.all fun e => !Region.binds .any e || decide (e.on < k)) = true ∧ (match p.guard with | none => true | some (j, _) => decide (j < l.length)) = true := fun k p hp => by
    have hk : k < l.length := (List.getElem?_eq_some_iff.1 hp).1
    have := List.all_eq_true.1 h5 k (List.mem_range.2 hk)
    rw [hp] at this
    simpa only [Bool.and_eq_true] using this
  have hb : ∀ k o, m[k]? = some o → o.guard = none ∧ o.dst = some (slotOf m k) := fun k o ho => by
    have := List.all_eq_true.1 h4 o (List.mem_of_getElem? ho)
    simp only [Bool.and_eq_true, Option.isNone_iff_eq_none, Option.isSome_iff_exists] at this
    obtain ⟨h, d, hd⟩ := this
    refine ⟨h, ?_⟩
    unfold slotOf
    rw [ho]
    simp [hd]
  refine ⟨seqOk h1, h2, fun o ho => ?_, hb, fun k p hp e he hbd => ?_, fun k p hp j b hg => ?_, fun i j hi hj hne => ?_⟩
  · have := List.all_eq_true.1 h3 o ho
    rw [Bool.and_eq_true] at this
    refine ⟨this.1, fun k hk => ?_⟩
    have h7 := List.all_eq_true.1 this.2 m[k] (List.getElem_mem hk)
    have h8 := (hb k m[k] (List.getElem?_eq_getElem hk)).2
    rw [h8] at h7
    simpa using h7
  · have := Array.all_eq_true_iff_forall_mem.1 (g k p hp).1 e he
    simpa [hbd] using this
  · have := (g k p hp).2
    rw [hg] at this
    simpa using this
  · have := List.all_eq_true.1 (List.all_eq_true.1 h6 i (List.mem_range.2 hi)) j (List.mem_range.2 hj)
    simpa [hne] using this

section
variable {P : Program} {l m t : List Oper}
theorem boxIn_put {ops : Array Oper} {β : Nat → Nat} {o : Option Tmp} {v : Value} : ∀ (ks : List Nat) (a : Act), (∀ k ∈ ks, o ≠ some (slotOf m k)) → (boxIn m β ks a).put o v = boxIn m β ks (a.put o v)
  | [], _, _ => rfl
  | k :: ks, a, h => by
    show (boxIn m β ks (a.put (some (slotOf m k)) (ptrTo (β k)))).put o v = boxIn m β ks ((a.put o v).put (some (slotOf m k)) (ptrTo (β k)))
    rw [boxIn_put (ops := ops) ks _ fun j hj => h j (List.mem_cons_of_mem _ hj), Act.put_comm a (x := some (slotOf m k)) (y := o) _ _ fun d hd => by
      injection hd with hd
      subst hd
      exact h k List.mem_cons_self]
theorem boxIn_exec {ops : Array Oper} {β : Nat → Nat} {o : Oper} (hs : ∀ cs b, o.op ≠ .select cs b) : ∀ (ks : List Nat) (a : Act), (∀ k ∈ ks, slotOf m k ∉ o.looksAt ops) → execOp (boxIn m β ks a).eval o = execOp a.eval o
  | [], _, _ => rfl
  | k :: ks, a, h => by
    show execOp (boxIn m β ks (a.put (some (slotOf m k)) (ptrTo (β k)))).eval o = _
    rw [boxIn_exec hs ks _ fun j hj => h j (List.mem_cons_of_mem _ hj), execOp_put (ops := ops) o hs a _ _ fun d hd => by
      injection hd with hd
      subst hd
      exact h k List.mem_cons_self]
theorem boxIn_wanted {ops : Array Oper} {β : Nat → Nat} {o : Oper} : ∀ (ks : List Nat) (a : Act), (∀ k ∈ ks, slotOf m k ∉ o.looksAt ops) → Region.wanted o (yielded ops (boxIn m β ks a).tmps) = Region.wanted o (yielded ops a.tmps)
  | [], _, _ => rfl
  | k :: ks, a, h => by
    show Region.wanted o (yielded ops (boxIn m β ks (a.put (some (slotOf m k)) (ptrTo (β k)))).tmps) = _
    rw [boxIn_wanted ks _ fun j hj => h j (List.mem_cons_of_mem _ hj), wanted_put (ops := ops) o a _ _ fun d hd => by
      injection hd with hd
      subst hd
      exact h k List.mem_cons_self]
theorem boxIn_snoc {β : Nat → Nat} {ks : List Nat} {k b : Nat} {a : Act} (hk : k ∉ ks) : (boxIn m β ks a).put (some (slotOf m k)) (ptrTo b) = boxIn m (fun j => if j = k then b else β j) (ks ++ [k]) a := by
  unfold boxIn
  rw [List.foldl_append]
  simp only [List.foldl_cons, List.foldl_nil, if_true]
  congr 1
  have : ∀ (ks : List Nat) (a : Act), k ∉ ks → ks.foldl (fun a k => a.put (some (slotOf m k)) (ptrTo (β k))) a = ks.foldl (fun a j => a.put (some (slotOf m j)) (ptrTo (if j = k then b else β j))) a := by
    intro ks
    induction ks with
    | nil => intro a _; rfl
    | cons j ks ih =>
      intro a hk
      simp only [List.foldl_cons]
      rw [if_neg (by intro e; exact hk (by simp [e]))]
      exact ih _ fun h => hk (List.mem_cons_of_mem _ h)
  exact this ks a hk
theorem boxIn_perm {β : Nat → Nat} {ks ks' : List Nat} {a : Act} (hd : ∀ i ∈ ks, ∀ j ∈ ks, i ≠ j → slotOf m i ≠ slotOf m j) (h : ks.Perm ks') : boxIn m β ks a = boxIn m β ks' a := by
  unfold boxIn
  refine h.foldl_eq' (fun i hi j hj a => ?_) a
  by_cases e : i = j
  · subst e; rfl
  · exact Act.put_comm a _ _ fun d hd' => by
      injection hd' with hd'
      intro h'
      injection h' with h'
      exact hd i hi j hj e (hd'.trans h'.symm)

/-- A world in which the boxes ks are made. -/
structure MadeAt (O : Nat → Obj) (w : World) (β : Nat → Nat) (ks : List Nat) (w1 : World) : Prop where
  below : Below w.heap.size w w1
  at_ : ∀ k ∈ ks, w.heap.size ≤ β k ∧ β k < w1.heap.size ∧ w1.heap[β k]? = some (O k)
  diff : ∀ i ∈ ks, ∀ j ∈ ks, β i = β j → i = j
theorem MadeAt.next {O : Nat → Obj} {w w1 w2 : World} {β : Nat → Nat} {ks : List Nat} (h : MadeAt O w β ks w1) (hb : Below w1.heap.size w1 w2) : MadeAt O w β ks w2 := by
  have hz := hb.size
  refine ⟨h.below.trans (hb.mono h.below.size), fun k hk => ?_, h.diff⟩
  obtain ⟨h1, h2, h3⟩ := h.at_ k hk
  exact ⟨h1, by omega, by rw [hb.block _ h2]; exact h3⟩
/-- The class of a world: blocks may have been laid, draws made. -/
def ClassOf (w : World) : World → Prop := fun w' => ∃ p : Regrown, w' = Go.Sort.grow (redrawn w p.d) p.os
theorem classOf_self (w : World) : ClassOf w w := regrown_of_below (Below.refl _ _)
theorem below_of_class {w w' : World} (h : ClassOf w w') : Below w.heap.size w w' := by
  obtain ⟨p, rfl⟩ := h
  exact below_regrown w p.d p.os
theorem quiet_one {o : Oper} {a : Act} {C C' : World → Prop} {w : World} {v u : Value} (hp : plainOp P o = true) (h1 : o.quietAt P a C w v) (h2 : o.quietAt P a C' w u) : v = u := by
  unfold Oper.quietAt at h1 h2
  cases hr : (execOp a.eval o).run P w with
  | ok n w' =>
    rw [hr] at h1 h2
    cases n <;> simp only [Oper.quietUpon] at h1 h2
    case value x => exact h1.2.symm.trans h2.2
    case skip => exact h1.2.trans h2.2.symm
    case enter f args => exact returned_one (plain_enter (fun _ => rfl) hp hr) h1.2 h2.2
  | halt x w' => rw [hr] at h1; simp only [Oper.quietUpon] at h1

/-- What holds of the run: the boxes ks are made, the boxes rest are still to come. -/
structure AloInv (l m : List Oper) (n : Nat) (O : Nat → Obj) (w : World) (ks rest : List Nat) (β : Nat → Nat) (x x' X : Array Bool) (w1 : World) : Prop where
  both : BothS (l ++ m) n x' X
  size : x.size = l.length
  same : ∀ j, j < l.length → ∀ d, x'.getD j d = x.getD j d
  made : ∀ k, k < m.length → (x'.getD (l.length + k) true = true ↔ k ∈ ks)
  perm : (ks ++ rest).Perm (List.range m.length)
  boxed : MadeAt O w β ks w1
theorem AloInv.lt {n : Nat} {O : Nat → Obj} {w : World} {ks rest : List Nat} {β : Nat → Nat} {x x' X : Array Bool} {w1 : World} (h : AloInv l m n O w ks rest β x x' X w1) : ∀ k ∈ ks, k < m.length := fun _ hk =>
  List.mem_range.1 (h.perm.mem_iff.1 (List.mem_append_left _ hk))
theorem AloInv.nodup {n : Nat} {O : Nat → Obj} {w : World} {ks rest : List Nat} {β : Nat → Nat} {x x' X : Array Bool} {w1 : World} (h : AloInv l m n O w ks rest β x x' X w1) : (ks ++ rest).Nodup :=
  h.perm.nodup_iff.2 List.nodup_range
theorem AloInv.ready (ok : AloOk P l m t) {n : Nat} {O : Nat → Obj} {w : World} {ks rest : List Nat} {β : Nat → Nat} {x x' X : Array Bool} {w1 : World} (h : AloInv l m n O w ks rest β x x' X w1) {i : Nat} (hi : i < l.length) (hr : i ∈ Region.ready .any (l ++ m).toArray x') : i ∈ Region.ready .any l.toArray x := by
  rw [mem_ready, seq_get i hi, h.same i hi true] at hr
  rw [mem_ready]
  obtain ⟨h1, p, hp, hall⟩ := hr
  refine ⟨h1, p, hp, fun e he hbd => ?_⟩
  have hlow := ok.low i p (by simpa using hp) e he hbd
  rw [← h.same e.on (by omega) false]
  exact hall e he hbd
theorem alo_end (ok : AloOk P l m t) {O : Nat → Obj} {Q : Exit → Act → World → Prop} {w : World} {Post : Act → Prop}
    (hpost : ∀ a, Post a → ∀ β w', MadeAt O w β (List.range m.length) w' → wpList P (l ++ m ++ t).toArray Q t (boxIn m β (List.range m.length) a) w')
    {f N : Nat} {ks rest : List Nat} {β : Nat → Nat} {x x' X : Array Bool} {aq : Act} {w1 : World} (hN : t.length ≤ N) (h : AloInv l m t.length O w ks rest β x x' X w1)
    (H : wpAnyQ P .any l.toArray (ClassOf w) Post f x aq) (h0 : Region.ready .any (l ++ m).toArray x' = []) :
    anyG (wpOp P (l ++ m ++ t).toArray Q) (l ++ m ++ t).toArray (Q .normal) N X (boxIn m β ks aq) w1 := by
  have hlen : (l ++ m).length = l.length + m.length := by simp
  have hd := seq_done ok.seq h.both.one h0
  have hrest : rest = [] := by
    rw [List.eq_nil_iff_forall_not_mem]
    intro k hk
    have hkm : k < m.length := List.mem_range.1 (h.perm.mem_iff.1 (List.mem_append_right _ hk))
    have hin := (h.made k hkm).1 (hd _ (by omega) true)
    exact (List.nodup_append.1 h.nodup).2.2 k hin k hk rfl
  subst hrest
  have hperm : ks.Perm (List.range m.length) := by simpa using h.perm
  have hall : ∀ k, k < m.length → k ∈ ks := fun k hk => hperm.mem_iff.2 (List.mem_range.2 hk)
  have hr : Region.ready .any l.toArray x = [] := by
    rw [List.eq_nil_iff_forall_not_mem]
    intro i hi
    have h1 := mem_ready.1 hi
    have hlt : i < l.length := by
      obtain ⟨_, q, hq, _⟩ := h1
      simpa using (Array.getElem?_eq_some_iff.1 hq).1
    have h2 := hd i (by omega) true
    rw [h.same i hlt true, h1.1] at h2
    cases h2
  have hp : Post aq := by
    cases f with
    | zero => exact H.2
    | succ f => exact H.1 hr
  refine anyG_seq ok.seq (S := fun k a w => wpList P (l ++ m ++ t).toArray Q (t.drop k) a w) (fun k K' a w hkt hS hk => ?_) (fun a w h => by simpa [wpList] using h) t.length 0 X _ w1 _ (by omega) (by omega) hN h.both.two (fun j hj => ?_) (fun j _ hj => h.both.not j hj) ?_
  · unfold wpOp
    rw [seq_get_behind, List.getElem?_eq_getElem hkt]
    rw [List.drop_eq_getElem_cons hkt] at hS
    simp only [wpList] at hS ⊢
    split
    · rename_i hw
      rw [if_pos hw] at hS
      exact hS.imp (Oper.wp_mono hk) (fun z => z)
    · rename_i hw
      rw [if_neg hw] at hS
      exact hk _ _ hS
  · rw [h.both.same j (by omega)]
    exact hd j (by omega) true
  · simp only [List.drop_zero]
    rw [boxIn_perm (fun i hi j hj hne => ok.diff i j (h.lt i hi) (h.lt j hj) hne) hperm]
    exact hpost aq hp β w1 ⟨h.boxed.below, fun k hk => h.boxed.at_ k (hall k (List.mem_range.1 hk)), fun i hi j hj => h.boxed.diff i (hall i (List.mem_range.1 hi)) j (hall j (List.mem_range.1 hj))⟩
theorem alo_any (ok : AloOk P l m t) {O : Nat → Obj} {Q : Exit → Act → World → Prop} {w : World} {Post : Act → Prop}
    (hal : ∀ k o, m[k]? = some o → ∀ (ρ : Operand → Value) (w : World), (execOp ρ o).run P w = .ok (.value (ptrTo w.heap.size)) (w.alloc (O k)))
    (hpost : ∀ a, Post a → ∀ β w', MadeAt O w β (List.range m.length) w' → wpList P (l ++ m ++ t).toArray Q t (boxIn m β (List.range m.length) a) w') :
    ∀ (n f : Nat) (ks rest : List Nat) (β : Nat → Nat) (x x' X : Array Bool) (aq : Act) (w1 : World), f + rest.length = n → AloInv l m t.length O w ks rest β x x' X w1 →
      (∀ w2, Below w.heap.size w w2 → wpAnyQ P .any l.toArray (ClassOf w2) Post f x aq) →
      anyG (wpOp P (l ++ m ++ t).toArray Q) (l ++ m ++ t).toArray (Q .normal) (n + t.length) X (boxIn m β ks aq) w1 := by
  have hlen : (l ++ m).length = l.length + m.length := by simp
  have hsel := Region.noSelect_spec (ops := l.toArray) (by
    have := ok.lex
    simp only [Region.lexB, Bool.and_eq_true] at this
    exact this.1)
  intro n
  induction n with
  | zero =>
    intro f ks rest β x x' X aq w1 hn h H
    obtain rfl : f = 0 := by omega
    obtain rfl : rest = [] := List.eq_nil_of_length_eq_zero (by omega)
    refine alo_end ok hpost (by omega) h (H w (Below.refl _ _)) (List.eq_nil_iff_forall_not_mem.2 fun i hi => ?_)
    by_cases hil : i < l.length
    · have := h.ready ok hil hi
      rw [(H w (Below.refl _ _)).1] at this
      cases this
    · have hlti : i < (l ++ m).length := by
        obtain ⟨_, q, hq, _⟩ := mem_ready.1 hi
        simpa using (Array.getElem?_eq_some_iff.1 hq).1
      have h1 := (mem_ready.1 hi).1
      have hin : i - l.length ∈ ks := by
        have := h.perm.mem_iff.2 (List.mem_range.2 (show i - l.length < m.length by omega))
        simpa using this
      have h2 := (h.made (i - l.length) (by omega)).2 hin
      rw [show l.length + (i - l.length) = i by omega, h1] at h2
      cases h2
  | succ n ih =>
    intro f ks rest β x x' X aq w1 hn h H
    by_cases hne : Region.ready .any (l ++ m).toArray x' = []
    · exact alo_end ok hpost (by omega) h (H w (Below.refl _ _)) hne
    have hb := h.both
    have hx := h.size
    have hxx := h.same
    have hks := h.made
    have hlt := h.lt
    have hw := h.boxed
    have hstep : ∀ i ∈ Region.ready .any (l ++ m ++ t).toArray X, wpOp P (l ++ m ++ t).toArray Q i (anyG (wpOp P (l ++ m ++ t).toArray Q) (l ++ m ++ t).toArray (Q .normal) (n + t.length) (X.setIfInBounds i true)) (boxIn m β ks aq) w1 := fun i hi => by
      rcases seq_size hi with hlti | ⟨k, hk, rfl⟩
      · have hi' := (seq_ready_head ok.seq hb hlti).1 hi
        by_cases hil : i < l.length
        · have hxi := h.ready ok hil hi'
          obtain ⟨f', rfl⟩ : ∃ f', f = f' + 1 := by
            cases f with
            | succ f' => exact ⟨f', rfl⟩
            | zero =>
              have := (H w (Below.refl _ _)).1
              rw [this] at hxi
              cases hxi
          have hq := fun w2 hw2 => (H w2 hw2).2 i hxi
          have hoi : l.toArray[i]? = some l[i] := by simp [hil]
          obtain ⟨hplain, hoff⟩ := ok.off l[i] (List.getElem_mem hil)
          have hsi := fun cs b => hsel i l[i] cs b hoi
          have hwt : Region.wanted l[i] (yielded (l ++ m ++ t).toArray (boxIn m β ks aq).tmps) = Region.wanted l[i] (yielded l.toArray aq.tmps) := by
            rw [boxIn_wanted ks aq fun k hk => (hoff k (hlt k hk)).1]
            unfold Region.wanted
            cases hg : l[i].guard with
            | none => rfl
            | some z =>
              obtain ⟨j, b⟩ := z
              simp only []
              have hj := ok.guard i _ (List.getElem?_eq_getElem hil) j b hg
              rw [List.append_assoc, seq_yielded aq.tmps j hj]
          have hget : (l ++ m ++ t).toArray[i]? = some l[i] := by
            rw [List.append_assoc, seq_get i hil]; exact hoi
          have next : ∀ (v : Value) (w' : World), Below w1.heap.size w1 w' → (∀ w2, Below w.heap.size w w2 → wpAnyQ P .any l.toArray (ClassOf w2) Post f' (x.setIfInBounds i true) (aq.put l[i].dst v)) → anyG (wpOp P (l ++ m ++ t).toArray Q) (l ++ m ++ t).toArray (Q .normal) (n + t.length) (X.setIfInBounds i true) ((boxIn m β ks aq).put l[i].dst v) w' := fun v w' hw' H' => by
            rw [boxIn_put (ops := #[]) ks aq fun k hk => (hoff k (hlt k hk)).2]
            refine ih f' ks rest β _ _ _ _ w' (by omega) ⟨hb.set i hlti hi', by simpa using hx, fun j hj d => ?_, fun k hk => ?_, h.perm, hw.next hw'⟩ H'
            · by_cases e : i = j
              · subst e
                have := hb.one
                rw [hlen] at this
                simp [hx, hil, this, Nat.lt_add_right m.length hil]
              · rw [getD_set_ne d e, getD_set_ne d e]
                exact hxx j hj d
            · rw [getD_set_ne true (by omega)]
              exact hks k hk
          unfold wpOp
          rw [hget]
          simp only [hwt]
          by_cases hwd : Region.wanted l[i] (yielded l.toArray aq.tmps) = true
          · simp only [hwd, if_true]
            have hv : ∀ w2, Below w.heap.size w w2 → ∃ v, (∀ w', ClassOf w2 w' → l[i].quietAt P aq (ClassOf w2) w' v) ∧ wpAnyQ P .any l.toArray (ClassOf w2) Post f' (x.setIfInBounds i true) (aq.put l[i].dst v) := fun w2 hw2 => by
              have := hq w2 hw2
              unfold qOp at this
              simp only [hoi, hwd, if_true] at this
              exact this
            obtain ⟨v, hv0, _⟩ := hv w (Below.refl _ _)
            have H' : ∀ w2, Below w.heap.size w w2 → (∀ w', ClassOf w2 w' → l[i].quietAt P aq (ClassOf w2) w' v) ∧ wpAnyQ P .any l.toArray (ClassOf w2) Post f' (x.setIfInBounds i true) (aq.put l[i].dst v) := fun w2 hw2 => by
              obtain ⟨v2, hv2, hK⟩ := hv w2 hw2
              obtain rfl : v2 = v := quiet_one hplain (hv2 w2 (classOf_self w2)) (hv0 w2 (regrown_of_below hw2))
              exact ⟨hv2, hK⟩
            refine .inl (Oper.wp_of_quiet (C := ClassOf w1) (K := fun a' => a' = (boxIn m β ks aq).put l[i].dst v) (classOf_self w1) (fun a' w' hC ha => ?_) ⟨v, fun w' hC => ?_, rfl⟩)
            · subst ha
              exact next v w' (below_of_class hC) fun w2 hw2 => (H' w2 hw2).2
            · have := (H' w1 hw.below).1 w' hC
              unfold Oper.quietAt at this ⊢
              rw [boxIn_exec (ops := (l ++ m ++ t).toArray) hsi ks aq fun k hk => (hoff k (hlt k hk)).1]
              exact this
          · simp only [hwd]
            refine next undef w1 (Below.refl _ _) fun w2 hw2 => ?_
            have := hq w2 hw2
            unfold qOp at this
            simp only [hoi, hwd] at this
            exact this
        · obtain ⟨k, rfl⟩ : ∃ k, i = l.length + k := ⟨i - l.length, by omega⟩
          have hk : k < m.length := by omega
          have hnk : k ∉ ks := fun hin => by
            have h1 := (mem_ready.1 hi').1
            rw [(hks k hk).2 hin] at h1
            cases h1
          have hkr : k ∈ rest := by
            have := h.perm.mem_iff.2 (List.mem_range.2 hk)
            simp only [List.mem_append] at this
            exact this.resolve_left hnk
          have hrl := List.length_erase_of_mem hkr
          have hrp := List.length_pos_of_mem hkr
          have hok : m[k]? = some m[k] := List.getElem?_eq_getElem hk
          obtain ⟨hg, hdst⟩ := ok.bare k _ hok
          have hget : (l ++ m ++ t).toArray[l.length + k]? = some m[k] := by
            rw [List.append_assoc, seq_get_behind]
            simp [List.getElem?_append_left hk]
          unfold wpOp
          rw [hget]
          have hwd : Region.wanted m[k] (yielded (l ++ m ++ t).toArray (boxIn m β ks aq).tmps) = true := by
            unfold Region.wanted
            rw [hg]
          simp only [hwd, if_true]
          left
          unfold Oper.wp
          rw [hal k _ hok]
          simp only [Oper.upon]
          rw [hdst, boxIn_snoc hnk]
          have hnew : Below w1.heap.size w1 (w1.alloc (O k)) := (Below.refl _ _).alloc (Nat.le_refl _) _
          refine ih f (ks ++ [k]) (rest.erase k) _ x _ _ aq _ (by omega) ⟨hb.set _ hlti hi', hx, fun j hj d => ?_, fun j hj => ?_, ?_, ?_⟩ H
          · rw [getD_set_ne d (by omega)]
            exact hxx j hj d
          · by_cases e : k = j
            · subst e
              have := hb.one
              rw [hlen] at this
              simp [this, hk]
            · rw [getD_set_ne true (by omega), hks j hj]
              simp [Ne.symm e]
          · rw [List.append_assoc, List.singleton_append]
            exact ((List.perm_cons_erase hkr).symm.append_left ks).trans h.perm
          · have hz : w1.heap.size < (w1.alloc (O k)).heap.size := by simp
            have hwz := hw.below.size
            refine ⟨hw.below.trans (hnew.mono hwz), fun j hj => ?_, fun i hi j hj he => ?_⟩
            · simp only [List.mem_append, List.mem_singleton] at hj
              by_cases e : j = k
              · subst e
                simp only [if_true]
                exact ⟨hwz, hz, by show (w1.heap.push _)[w1.heap.size]? = _; simp⟩
              · rw [if_neg e]
                obtain ⟨h1, h2, h3⟩ := hw.at_ j (hj.resolve_right e)
                exact ⟨h1, by omega, by rw [hnew.block _ h2]; exact h3⟩
            · simp only [List.mem_append, List.mem_singleton] at hi hj
              by_cases e : i = k
              · by_cases e' : j = k
                · exact e.trans e'.symm
                · rw [if_pos e, if_neg e'] at he
                  have := (hw.at_ j (hj.resolve_right e')).2.1
                  omega
              · by_cases e' : j = k
                · rw [if_neg e, if_pos e'] at he
                  have := (hw.at_ i (hi.resolve_right e)).2.1
                  omega
                · rw [if_neg e, if_neg e'] at he
                  exact hw.diff i (hi.resolve_right e) j (hj.resolve_right e') he
      · exact absurd (seq_waits ok.seq hb hk hi) hne
    rw [show n + 1 + t.length = (n + t.length) + 1 by omega]
    refine ⟨fun h0 => ?_, hstep⟩
    obtain ⟨i, hi⟩ := List.exists_mem_of_ne_nil _ hne
    have hlti : i < (l ++ m).length := by
      obtain ⟨_, q, hq, _⟩ := mem_ready.1 hi
      simpa using (Array.getElem?_eq_some_iff.1 hq).1
    have := (seq_ready_head ok.seq hb hlti).2 hi
    rw [h0] at this
    cases this

/-- **THE LAW.** -/
theorem wp_region_alo {id : Nat} {Q : Exit → Act → World → Prop} {a : Act} {w : World} (O : Nat → Obj) (hm : P.follows .mixedOrders = true) (hB : aloB P l m t = true)
    (hal : ∀ k o, m[k]? = some o → ∀ (ρ : Operand → Value) (w : World), (execOp ρ o).run P w = .ok (.value (ptrTo w.heap.size)) (w.alloc (O k)))
    (h : ∀ w2, Below w.heap.size w w2 → wpQuiet P (l ++ m ++ t).toArray (ClassOf w2) (fun a' => ∀ β w', MadeAt O w β (List.range m.length) w' → wpList P (l ++ m ++ t).toArray Q t (boxIn m β (List.range m.length) a') w') l a) :
    (Code.region id (l ++ m ++ t).toArray true).wp P Q a w := by
  have ok := aloOk hB
  refine wp_region_any hm (anyG_wpAny _ _ _ _ ?_)
  have e : (l ++ m ++ t).toArray.size = l.length + (List.range m.length).length + t.length := by simp; omega
  rw [e]
  have hq : ∀ w2, Below w.heap.size w w2 → wpAnyQ P .any l.toArray (ClassOf w2) (fun a' => ∀ β w', MadeAt O w β (List.range m.length) w' → wpList P (l ++ m ++ t).toArray Q t (boxIn m β (List.range m.length) a') w') l.length (Array.replicate l.length false) a := fun w2 hw2 => by
    have hl := ok.lex
    simp only [Region.lexB, Bool.and_eq_true] at hl
    have h2 := h w2 hw2
    refine wpAnyQ_lex hl.1 l 0 (Array.replicate l.length false) a (by simp) (by simpa using hl.2) ?_
    have key : ∀ (q : List Oper) (k : Nat) (a : Act), (∀ j, q[j]? = l[k + j]?) → wpQuiet P (l ++ m ++ t).toArray (ClassOf w2) (fun a' => ∀ β w', MadeAt O w β (List.range m.length) w' → wpList P (l ++ m ++ t).toArray Q t (boxIn m β (List.range m.length) a') w') q a → wpQuiet P l.toArray (ClassOf w2) (fun a' => ∀ β w', MadeAt O w β (List.range m.length) w' → wpList P (l ++ m ++ t).toArray Q t (boxIn m β (List.range m.length) a') w') q a := by
      intro q
      induction q with
      | nil => intro k a _ h; exact h
      | cons p q ih =>
        intro k a hq h
        have hp : l[k]? = some p := by have := hq 0; simpa using this.symm
        have hq' : ∀ j, q[j]? = l[k + 1 + j]? := fun j => by have := hq (j + 1); simpa [Nat.add_assoc, Nat.add_comm 1 j] using this
        have hwt : Region.wanted p (yielded (l ++ m ++ t).toArray a.tmps) = Region.wanted p (yielded l.toArray a.tmps) := by
          unfold Region.wanted
          cases hg : p.guard with
          | none => rfl
          | some z =>
            obtain ⟨j, b⟩ := z
            simp only []
            rw [List.append_assoc, seq_yielded a.tmps j (ok.guard k p hp j b hg)]
        unfold wpQuiet at h ⊢
        rw [hwt] at h
        split
        · rename_i hw
          rw [if_pos hw] at h
          exact Oper.quiet_mono (fun a' => ih (k + 1) a' hq') h
        · rename_i hw
          rw [if_neg hw] at h
          exact ih (k + 1) _ hq' h
    exact key l 0 a (by simp) h2
  have hwd : Below w.heap.size w { w with drawn := w.drawn + 1 } := (Below.refl _ _).drew
  refine alo_any ok hal (fun a h => h) _ l.length [] (List.range m.length) (fun _ => 0) (Array.replicate l.length false) (Array.replicate (l ++ m).length false) _ a _ rfl ⟨?_, by simp, fun j hj d => ?_, fun k hk => ?_, by simp, ⟨hwd, fun _ hk => (by cases hk), fun _ hk => (by cases hk)⟩⟩ hq
  · have e2 : l.length + (List.range m.length).length + t.length = (l ++ m).length + t.length := by simp
    rw [e2]
    exact BothS.start
  · simp [hj, Nat.lt_add_right m.length hj]
  · simp [hk]
end
end Go.Proofs.Ytkmmmnoipgdedaa
