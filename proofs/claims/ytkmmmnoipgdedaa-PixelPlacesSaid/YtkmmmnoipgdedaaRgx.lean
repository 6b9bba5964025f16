/-
  A statement that leaves its order open: what each operation gives is settled once it is done, whatever the order; some make blocks of their own (rows, closures over variables), some write blocks known whole, themselves or by a callee. No condition on the program.
-/
import Derived.Test.YtkmmmnoipgdedaaSeu
import Derived.Test.YtkmmmnoipgdedaaReb
namespace Go.Proofs.Ytkmmmnoipgdedaa
open Go.RowKit
set_option linter.unusedSimpArgs false
set_option linter.unusedVariables false

/-- What each operation gives: b k is the number of the block that operation k has made. -/
def vsOf (b : Nat → Nat) : Nat → List (Option Nat × (Nat → Value)) → List (Option Nat × Value)
  | _, [] => []
  | k, x :: r => (x.1, x.2 (b k)) :: vsOf b (k + 1) r
def upN (b : Nat → Nat) (k R : Nat) : Nat → Nat := fun j => cond (Nat.beq j k) R (b j)
def doneB (D : Nat → Bool) (k : Nat) : Nat → Bool := fun j => Nat.beq j k || D j
theorem vsOf_length (b : Nat → Nat) : ∀ (fs : List (Option Nat × (Nat → Value))) (k : Nat), (vsOf b k fs).length = fs.length
  | [], _ => rfl
  | x :: r, k => by simp [vsOf, vsOf_length b r]
theorem vsOf_map (b : Nat → Nat) : ∀ (fs : List (Option Nat × (Nat → Value))) (k : Nat), (vsOf b k fs).map (·.1) = fs.map (·.1)
  | [], _ => rfl
  | x :: r, k => by simp [vsOf, vsOf_map b r]
theorem vsOf_get (b : Nat → Nat) : ∀ (fs : List (Option Nat × (Nat → Value))) (k i : Nat) (d : Option Nat) (f : Nat → Value), fs[i]? = some (d, f) → (vsOf b k fs)[i]? = some (d, f (b (k + i)))
  | [], _, _, _, _, h => by simp at h
  | x :: r, k, 0, d, f, h => by simp at h; subst h; simp [vsOf]
  | x :: r, k, i + 1, d, f, h => by
    simp only [vsOf, List.getElem?_cons_succ]
    rw [vsOf_get b r (k + 1) i d f (by simpa using h), show k + 1 + i = k + (i + 1) by omega]
theorem nbeq (j k : Nat) : (j == k) = Nat.beq j k := by
  cases h : Nat.beq j k
  · exact beq_eq_false_iff_ne.2 (Nat.ne_of_beq_eq_false h)
  · exact beq_iff_eq.2 (Nat.eq_of_beq_eq_true h)
theorem nbeq_ne {j k : Nat} (e : j ≠ k) : Nat.beq j k = false := by rw [← nbeq]; exact beq_eq_false_iff_ne.2 e
theorem vsOf_up (b : Nat → Nat) (T : Array Value) (D : Nat → Bool) (k0 R j : Nat) (hk : D k0 = false) : ∀ (fs : List (Option Nat × (Nat → Value))) (k : Nat), lookS T D k (vsOf (upN b k0 R) k fs) j = lookS T D k (vsOf b k fs) j
  | [], _ => rfl
  | x :: r, k => by
    unfold vsOf lookS
    rw [vsOf_up b T D k0 R j hk r (k + 1)]
    by_cases e : k = k0
    · subst e
      simp [hk]
    · have : upN b k0 R k = b k := by
        unfold upN
        rw [nbeq_ne e]
        rfl
      simp [this]

section
variable {P : Program} {ops : Array Oper} {Q : Exit → Act → World → Prop}
/-- What has been done is closed: what it waits for has been done too. -/
def ClosedX (ops : Array Oper) (D : Nat → Bool) : Prop := ∀ i o, ops[i]? = some o → ∀ e ∈ o.after, Region.binds .any e = true → D i = true → D e.on = true
def StepX (ops : Array Oper) (P : Program) (Q : Exit → Act → World → Prop) (T : Array Value) (fs : List (Option Nat × (Nat → Value))) (W : (Nat → Bool) → (Nat → Nat) → World → Prop) (k : Nat) (o : Oper) (f : Nat → Value) : Prop :=
  ∀ D b a w, D k = false → ClosedX ops D → (∀ e ∈ o.after, Region.binds .any e = true → D e.on = true) → (∀ j, a.tmps.getD j undef = lookS T D 0 (vsOf b 0 fs) j) → W D b w →
    o.wp P a w (fun a' w' => ∃ R, a' = a.put o.dst (f R) ∧ W (doneB D k) (upN b k R) w') Q
def StepsX (ops : Array Oper) (P : Program) (Q : Exit → Act → World → Prop) (T : Array Value) (fs : List (Option Nat × (Nat → Value))) (W : (Nat → Bool) → (Nat → Nat) → World → Prop) : Nat → List Oper → List (Option Nat × (Nat → Value)) → Prop
  | _, [], [] => True
  | k, o :: r, x :: gs => (o.dst = x.1 ∧ StepX ops P Q T fs W k o x.2) ∧ StepsX ops P Q T fs W (k + 1) r gs
  | _, _, _ => False
theorem stepsX_len {T : Array Value} {fs : List (Option Nat × (Nat → Value))} {W : (Nat → Bool) → (Nat → Nat) → World → Prop} : ∀ (k : Nat) (l : List Oper) (gs : List (Option Nat × (Nat → Value))), StepsX ops P Q T fs W k l gs → l.length = gs.length
  | _, [], [], _ => rfl
  | k, o :: r, x :: gs, h => by
    unfold StepsX at h
    simp [stepsX_len (k + 1) r gs h.2]
  | _, [], _ :: _, h => by unfold StepsX at h; exact h.elim
  | _, _ :: _, [], h => by unfold StepsX at h; exact h.elim
theorem stepsX_G {T : Array Value} {fs : List (Option Nat × (Nat → Value))} {W : (Nat → Bool) → (Nat → Nat) → World → Prop} : ∀ (k : Nat) (l : List Oper) (gs : List (Option Nat × (Nat → Value))), (∀ i x, gs[i]? = some x → fs[k + i]? = some x) → (∀ i o, l[i]? = some o → ops[k + i]? = some o) → StepsX ops P Q T fs W k l gs → StepsG P Q T (fun b => vsOf b 0 fs) (fun D b w => ClosedX ops D ∧ W D b w) k l
  | _, [], [], _, _, _ => trivial
  | _, [], _ :: _, _, _, h => by unfold StepsX at h; exact h.elim
  | _, _ :: _, [], _, _, h => by unfold StepsX at h; exact h.elim
  | k, o :: r, x :: gs, hg, ho, h => by
    unfold StepsX at h
    refine ⟨fun D b a w hk he hl hW => ?_, stepsX_G (k + 1) r gs (fun i y hi => by have := hg (i + 1) y (by simpa using hi); rwa [show k + (i + 1) = k + 1 + i by omega] at this) (fun i y hi => by have := ho (i + 1) y (by simpa using hi); rwa [show k + (i + 1) = k + 1 + i by omega] at this) h.2⟩
    refine Oper.wp_mono (fun a' w' => ?_) (h.1.2 D b a w hk hW.1 he hl hW.2)
    rintro ⟨R, ha, hW'⟩
    have hx : fs[k]? = some (o.dst, x.2) := by
      have := hg 0 x (by simp)
      rw [Nat.add_zero] at this
      rw [this, h.1.1]
    refine ⟨upN b k R, fun j => vsOf_up b T D k R j hk fs 0, ⟨x.2 R, ?_, ha⟩, ?_⟩
    · have := vsOf_get (upN b k R) fs 0 k _ _ hx
      rw [Nat.zero_add] at this
      rw [this]
      have e : upN b k R k = R := by
        unfold upN
        rw [show Nat.beq k k = true from Nat.beq_refl k]
        rfl
      rw [e]
    · have e : (fun j => D j || j == k) = doneB D k := by
        funext j
        unfold doneB
        rw [Bool.or_comm, nbeq]
      rw [e]
      refine ⟨fun i o2 ho2 e2 he2 hb hd => ?_, hW'⟩
      unfold doneB at hd ⊢
      rw [Bool.or_eq_true] at hd ⊢
      rcases hd with hd | hd
      · obtain rfl := Nat.eq_of_beq_eq_true hd
        have hko := ho 0 o (by simp)
        rw [Nat.add_zero, ho2] at hko
        obtain rfl := Option.some.inj hko
        exact .inr (he e2 he2 hb)
      · exact .inr (hW.1 i o2 ho2 e2 he2 hb hd)
/-- **THE LAW.** -/
theorem wp_region_x {id : Nat} {a : Act} {w : World} (hm : P.follows .mixedOrders = true) (hB : lowB ops = true) (fs : List (Option Nat × (Nat → Value))) (W : (Nat → Bool) → (Nat → Nat) → World → Prop)
    (N : Nat) (hN : a.tmps.size = N) (h1 : oneB (fs.map (·.1)) = true) (h2 : (fs.map (·.1)).all (inN N) = true)
    (h0 : W (fun _ => false) (fun _ => 0) { w with drawn := w.drawn + 1 }) (hs : StepsX ops P Q a.tmps fs W 0 ops.toList fs)
    (hend : ∀ D b w', (∀ k, k < ops.size → D k = true) → W D b w' → Q .normal (putAll a (vsOf b 0 fs)) w') : (Code.region id ops true).wp P Q a w := by
  have hlen := stepsX_len _ _ _ hs
  refine wp_region_settledG (fun _ => 0) hm hB (fun b => vsOf b 0 fs) (fun D b w => ClosedX ops D ∧ W D b w) N hN (fun b => by rw [vsOf_map]; exact h1) (fun b => by rw [vsOf_map]; exact h2) (fun b => by rw [vsOf_length, ← hlen]; simp) ⟨fun i o _ e _ _ h => (by cases h), h0⟩
    (stepsX_G 0 _ _ (fun i x hi => by rw [Nat.zero_add]; exact hi) (fun i o hi => by rw [Nat.zero_add]; simpa using hi) hs) fun D b w' hD hW => hend D b w' hD hW.2
theorem ClosedX.no {ops : Array Oper} {D : Nat → Bool} {i k : Nat} {o : Oper} (h : ClosedX ops D) (g : Ground) (hk : D k = false) (ho : ops[i]? = some o) (he : (⟨k, g⟩ : Edge) ∈ o.after) (hb : Region.binds .any ⟨k, g⟩ = true) : D i = false :=
  Bool.eq_false_iff.2 fun hi => by
    have := h i o ho _ he hb hi
    rw [hk] at this
    cases this
/-- A slot that an operation of the region has filled; one that none fills. -/
theorem vsx_at {T : Array Value} {D : Nat → Bool} {b : Nat → Nat} {fs : List (Option Nat × (Nat → Value))} {i j : Nat} {f : Nat → Value} (h1 : oneB (fs.map (·.1)) = true) (hD : D i = true) (hi : fs[i]? = some (some j, f)) : lookS T D 0 (vsOf b 0 fs) j = f (b i) := by
  have := vsOf_get b fs 0 i _ _ hi
  rw [Nat.zero_add] at this
  exact lookS_at (by rw [vsOf_map]; exact h1) hD this
theorem vsx_no {T : Array Value} {D : Nat → Bool} {b : Nat → Nat} {fs : List (Option Nat × (Nat → Value))} {j : Nat} (h : (fs.map (·.1)).contains (some j) = false) : lookS T D 0 (vsOf b 0 fs) j = T.getD j undef :=
  lookS_absent _ 0 (by rw [vsOf_map]; simpa using h)
end

section
variable {n : Nat} {X : List Nat} {w0 w w' : World} {l l2 : List (Nat × Array Value)} {R : Nat} {cs : Array Value} {c : Bool} {x : Nat × Array Value}
theorem Mem.condB (h : Mem n X w0 w (cond c (x :: l) l)) : Mem n X w0 w l := by
  cases c
  · exact h
  · exact h.sub (List.Sublist.cons _ (List.Sublist.refl _))
theorem Mem.condT (hc : c = true) (h : Mem n X w0 w l) : Mem n X w0 w (cond c l l2) := by subst hc; exact h
theorem Mem.ofT (hc : c = true) (h : Mem n X w0 w (cond c l l2)) : Mem n X w0 w l := by subst hc; exact h
theorem Mem.ofF (hc : c = false) (h : Mem n X w0 w (cond c l l2)) : Mem n X w0 w l2 := by subst hc; exact h
/-- A callee that turns one listed block, beside one that may be there. -/
theorem Mem.callC (h : Mem n X w0 w (cond c (x :: l) l)) {i : Nat} (hi : l[i]? = some (R, cs)) {cs' : Array Value} (hc : Mem w.heap.size [R] w w' [(R, cs')]) : Mem n X w0 w' (cond c (x :: l.set i (R, cs')) (l.set i (R, cs'))) := by
  cases c
  · exact Mem.call h hi hc
  · exact Mem.call (i := i + 1) h (by simpa using hi) hc
end
section
variable {P : Program} {Q : Exit → Act → World → Prop} {o : Oper} {a : Act} {w : World} {K : Act → World → Prop} {n : Nat} {X : List Nat} {w0 : World} {l : List (Nat × Array Value)} {c : Bool} {x : Nat × Array Value}
theorem wp_sstoreAC (ty : TypeId) (p y : Operand) (ho : o.op = .store ty p y) (hdst : o.dst = none) (R : Nat) (hx : a.eval p = .pointer (some ⟨R, 0, none⟩)) (i : Nat) (H : Mem n X w0 w (cond c (x :: l) l)) (cs cs' : Array Value) (hi : l[i]? = some (R, cs)) (hy : a.eval y = .agg cs')
    (hz : (P.info? ty).map (·.size) = some cs'.size) (hl : cs'.size = cs.size) (h1 : cs'.all (·.oneCell') = true)
    (h : ∀ w1, Mem n X w0 w1 (cond c (x :: l.set i (R, cs')) (l.set i (R, cs'))) → K a w1) : o.wp P a w K Q := by
  cases c
  · exact wp_sstoreA ty p y ho hdst R hx i H cs cs' hi hy hz hl h1 h
  · exact wp_sstoreA ty p y ho hdst R hx (i + 1) H cs cs' (by simpa using hi) hy hz hl h1 h
theorem ex_buildN {ρ : Operand → Value} {t : TypeId} {m : Nat} {xs : Array (Nat × Operand)} {vs : Array (Nat × Value)} {V : Nat → Value} {z : Array Value} {T : TypeId} (ho : o.op = .buildSlice t m xs) (hx : xs.map (fun (i, x) => (i, ρ x)) = vs)
    (hr : ∀ w : World, (Instr.buildSlice t m vs).run P w = .ok (V w.heap.size) (w.alloc (.cells z T))) (w : World) : (execOp ρ o).run P w = .ok (.value (V w.heap.size)) (w.alloc (.cells z T)) := by
  subst hx
  unfold execOp
  simp only [ho, Sem.run_bind, Sem.run_pure, hr, Result.andThen_ok]
/-- A variable is made. -/
theorem wp_alx (T : TypeId) (ho : o.op = .alloc T) (cs : Array Value)
    (hz : ∀ w : World, (Instr.alloc T true (.tuple #[])).run P w = .ok (.pointer (some ⟨w.heap.size, 0, none⟩)) (w.alloc (.cells cs T)))
    (h : K (a.put o.dst (.pointer (some ⟨w.heap.size, 0, none⟩))) (w.alloc (.cells cs T))) : o.wp P a w K Q := by
  unfold Oper.wp execOp
  simp only [ho, Sem.run_bind, hz, Result.andThen_ok, Sem.run_pure]
  exact h
/-- A struct is read whole. -/
theorem wp_sloadA (ty : TypeId) (p : Operand) (ho : o.op = .load ty p) (R : Nat) (hx : a.eval p = .pointer (some ⟨R, 0, none⟩)) (i : Nat) {l : List (Nat × Array Value)} (H : Mem n X w0 w l) (cs : Array Value) (hi : l[i]? = some (R, cs))
    (hu : (P.underlying ty).map aggB = some true) (hz : (P.info? ty).map (·.size) = some cs.size) (h : K (a.put o.dst (.agg cs)) w) : o.wp P a w K Q :=
  wp_sload ty p ho R 0 hx i H cs cs hi hu hz (fun j v hj => by rw [Nat.zero_add]; exact hj) h
/-- A row is built of what is at hand. -/
theorem wp_row (t : TypeId) (m : Nat) (xs : Array (Nat × Operand)) (ho : o.op = .buildSlice t m xs) (vs : Array (Nat × Value)) (hx : xs.map (fun (i, x) => (i, a.eval x)) = vs) (z : Array Value) (T : TypeId)
    (hr : ∀ w : World, (Instr.buildSlice t m vs).run P w = .ok (.slice (some ⟨w.heap.size, 0, none⟩) m m) (w.alloc (.cells z T)))
    (h : K (a.put o.dst (.slice (some ⟨w.heap.size, 0, none⟩) m m)) (w.alloc (.cells z T))) : o.wp P a w K Q := by
  unfold Oper.wp
  rw [ex_buildN (V := fun R => .slice (some ⟨R, 0, none⟩) m m) ho hx hr]
  simp only [Oper.upon]
  exact h
/-- A closure is called, known by a contract. -/
theorem wp_callc {f : FuncId} {c : Call} {x : Operand} {vals caps all : Array Value} {R : Ending → World → Prop} (ho : o.op = .call c) (hc : c.callee = .value x) (hx : a.eval x = .func (.func f) #[] caps) (ha : c.args.map a.eval = vals)
    (hb : ((P.funcs[f]?).map fun fn => fn.body.isNone || fn.name == "runtime.NumGoroutine") = some false) (hall : vals ++ caps = all) (hC : Calls P f all w R) (hk : ∀ e w', R e w' → ∃ v, e = .returned v ∧ K (a.put o.dst v) w') : o.wp P a w K Q := by
  subst hall
  obtain ⟨callee, cargs, ctypes⟩ := c
  simp only at hc ha
  subst hc
  have hr : (execOp a.eval o).run P w = .ok (.enter f (vals ++ caps)) w := by
    unfold execOp
    rw [ho]
    cases hf : P.funcs[f]? with
    | none => rw [hf] at hb; simp at hb
    | some fn =>
      rw [hf] at hb
      have hb : fn.body.isNone = false ∧ ¬ fn.name = "runtime.NumGoroutine" := by simpa using hb
      obtain ⟨hb, hb2⟩ := hb
      have hb3 : ¬ fn.body = none := by intro e; rw [e] at hb; cases hb
      simp [resolve, hx, Deferred.ofValue, Sem.run_bind, Sem.run_pure, Result.andThen_ok, invoke, callFunc, run_program, hf, hb2, hb3, ha]
  unfold Oper.wp
  rw [hr, Oper.upon_enter]
  refine hC.mono ?_
  intro e w' h
  obtain ⟨v, rfl, hK⟩ := hk e w' h
  exact hK
end
section
variable {P : Program} {a : Act} {w : World} {n : Nat} {X : List Nat} {w0 : World} {l : List (Nat × Array Value)}
/-- Two structs come back, each of which lies in a block. -/
theorem ret_memAA {fn : Func} {Rr : Ending → World → Prop} {p q : Tmp} {ty tz : TypeId} (hf : fn.results = #[.cell p ty, .cell q tz]) (R S : Nat) (hp : a.tmps.getD p undef = .pointer (some ⟨R, 0, none⟩)) (hq : a.tmps.getD q undef = .pointer (some ⟨S, 0, none⟩)) (i j : Nat) (H : Mem n X w0 w l) (cs ds : Array Value) (hi : l[i]? = some (R, cs)) (hj : l[j]? = some (S, ds))
    (hu : (P.underlying ty).map aggB = some true) (hz : (P.info? ty).map (·.size) = some cs.size) (hu2 : (P.underlying tz).map aggB = some true) (hz2 : (P.info? tz).map (·.size) = some ds.size) (hd : a.defers = []) (h : Rr (.returned (.tuple #[.agg cs, .agg ds])) w) : bodyPost P fn Rr .ret a w := by
  obtain ⟨t, hg⟩ := H.get hi
  obtain ⟨t2, hg2⟩ := H.get hj
  refine bodyPost_ret ?_ hd h
  have hl := run_loadVar_part (P := P) w R 0 t ty cs cs hg hu hz (fun j v hj => by rw [Nat.zero_add]; exact hj)
  have hl2 := run_loadVar_part (P := P) w S 0 t2 tz ds ds hg2 hu2 hz2 (fun j v hj => by rw [Nat.zero_add]; exact hj)
  have hp' : a.tmps[p]?.getD undef = .pointer (some ⟨R, 0, none⟩) := by simpa using hp
  have hq' : a.tmps[q]?.getD undef = .pointer (some ⟨S, 0, none⟩) := by simpa using hq
  simp [results, hf, hp', hq', asAddr, hl, hl2]
end
end Go.Proofs.Ytkmmmnoipgdedaa
