/-
  A statement that leaves its order open and whose operations give what is not known ahead (a row that an append makes, what a callee tells): what each gives is settled once it is done, whatever the order. No condition on the program.
-/
import Derived.Test.YtkmmmnoipgdedaaSet
namespace Go.Proofs.Ytkmmmnoipgdedaa
open Go.RowKit
set_option linter.unusedSimpArgs false
set_option linter.unusedVariables false

section
variable {P : Program} {ops : Array Oper} {Q : Exit → Act → World → Prop}
/-- What an operation has to show. -/
def StepG {β : Type} (P : Program) (Q : Exit → Act → World → Prop) (T : Array Value) (vs : β → List (Option Nat × Value)) (W : (Nat → Bool) → β → World → Prop) (k : Nat) (o : Oper) : Prop :=
  ∀ D b a w, D k = false → (∀ e ∈ o.after, Region.binds .any e = true → D e.on = true) → (∀ j, a.tmps.getD j undef = lookS T D 0 (vs b) j) → W D b w →
    o.wp P a w (fun a' w' => ∃ b', (∀ j, lookS T D 0 (vs b') j = lookS T D 0 (vs b) j) ∧ (∃ v, (vs b')[k]? = some (o.dst, v) ∧ a' = a.put o.dst v) ∧ W (fun j => D j || j == k) b' w') Q
def StepsG {β : Type} (P : Program) (Q : Exit → Act → World → Prop) (T : Array Value) (vs : β → List (Option Nat × Value)) (W : (Nat → Bool) → β → World → Prop) : Nat → List Oper → Prop
  | _, [] => True
  | k, o :: rest => StepG P Q T vs W k o ∧ StepsG P Q T vs W (k + 1) rest
/-- **THE LAW.** b: what is not known ahead: the numbers of blocks that are made, values that a callee tells. -/
theorem wp_region_settledG {β : Type} (b0 : β) {id : Nat} {a : Act} {w : World} (hm : P.follows .mixedOrders = true) (hB : lowB ops = true) (vs : β → List (Option Nat × Value)) (W : (Nat → Bool) → β → World → Prop)
    (N : Nat) (hN : a.tmps.size = N) (h1 : ∀ b, oneB ((vs b).map (·.1)) = true) (h2b : ∀ b, ((vs b).map (·.1)).all (inN N) = true) (h3 : ∀ b, (vs b).length = ops.size)
    (h0 : W (fun _ => false) b0 { w with drawn := w.drawn + 1 }) (hs : StepsG P Q a.tmps vs W 0 ops.toList)
    (hend : ∀ D b w', (∀ k, k < ops.size → D k = true) → W D b w' → Q .normal (putAll a (vs b)) w') : (Code.region id ops true).wp P Q a w := by
  have h2 : ∀ b, ∀ x ∈ vs b, ∀ n, x.1 = some n → n < a.tmps.size := fun b x hx n hn => by
    have := List.all_eq_true.1 (h2b b) x.1 (List.mem_map.2 ⟨x, hx, rfl⟩)
    rw [hn] at this
    rw [hN]
    simpa [inN] using this
  refine wp_region_settle hm hB (fun D a' w' => ∃ b, a'.tmps.size = a.tmps.size ∧ a'.defers = a.defers ∧ (∀ j, a'.tmps.getD j undef = lookS a.tmps D 0 (vs b) j) ∧ W D b w') ⟨b0, rfl, rfl, fun j => ?_, h0⟩ ?_ ?_
  · have : ∀ (l : List (Option Nat × Value)) (k : Nat), lookS a.tmps (fun _ => false) k l j = a.tmps.getD j undef := by
      intro l
      induction l with
      | nil => intro k; rfl
      | cons x l ih => intro k; unfold lookS; rw [ih]; simp
    exact (this _ _).symm
  · have key : ∀ (l : List Oper) (k : Nat), StepsG P Q a.tmps vs W k l → Settles P Q (fun D a' w' => ∃ b, a'.tmps.size = a.tmps.size ∧ a'.defers = a.defers ∧ (∀ j, a'.tmps.getD j undef = lookS a.tmps D 0 (vs b) j) ∧ W D b w') k l := by
      intro l
      induction l with
      | nil => intro k _; trivial
      | cons o l ih =>
        intro k h
        refine ⟨fun D a' w' hk he ⟨b, hz, hdf, hl, hW⟩ => ?_, ih (k + 1) h.2⟩
        refine Oper.wp_mono (fun a2 w2 ⟨b', hb, ⟨v, hv, ha⟩, hW'⟩ => ?_) (h.1 D b a' w' hk he hl hW)
        subst ha
        have hdin : ∀ n, o.dst = some n → n < a'.tmps.size := fun n hn => by rw [hz]; exact h2 b' _ (List.mem_of_getElem? hv) n hn
        refine ⟨b', ?_, ?_, fun j => ?_, hW'⟩
        · rw [← hz]; cases hd : o.dst <;> simp [Act.put]
        · rw [← hdf]; cases hd : o.dst <;> simp [Act.put]
        · have e := lookS_step (T := a.tmps) (D := D) (j := j) (vs b') 0 k o.dst v (h1 b') hv
          rw [Nat.zero_add] at e
          rw [put_get a' o.dst v j hdin, e, hb j, hl j]
    exact key _ _ hs
  · rintro D a' w' hD ⟨b, hz, hdf, hl, hW⟩
    have e : a' = putAll a (vs b) := by
      have hp := putAll_size (vs b) a
      refine act_eq (hz.trans hp.1.symm) (hdf.trans hp.2.symm) fun j => ?_
      rw [hl j, putAll_get (D := D) (vs b) 0 a (h1 b) (h2 b) (fun i hi => by rw [Nat.zero_add]; exact hD i (by rw [← h3 b]; exact hi))]
    rw [e]
    exact hend D b w' hD hW
end
section
variable {P : Program} {Q : Exit → Act → World → Prop}
/-- A function is called, known by a contract that tells what comes back, and what holds then. -/
theorem wp_callp {o : Oper} {a : Act} {w : World} {K : Act → World → Prop} {f : FuncId} {c : Call} {vals : Array Value} {R : Ending → World → Prop} (ho : o.op = .call c) (hc : c.callee = .value (.func f)) (ha : c.args.map a.eval = vals)
    (hb : ((P.funcs[f]?).map fun fn => fn.body.isNone || fn.name == "runtime.NumGoroutine") = some false) (hC : Calls P f vals w R) (hk : ∀ e w', R e w' → ∃ v, e = .returned v ∧ K (a.put o.dst v) w') : o.wp P a w K Q := by
  obtain ⟨callee, cargs, ctypes⟩ := c
  simp only at hc ha
  subst hc
  have hr : (execOp a.eval o).run P w = .ok (.enter f vals) w := by
    unfold execOp
    rw [ho]
    have e1 : a.eval (.func f) = .func (.func f) #[] #[] := rfl
    cases hf : P.funcs[f]? with
    | none => rw [hf] at hb; simp at hb
    | some fn =>
      rw [hf] at hb
      have hb : fn.body.isNone = false ∧ ¬ fn.name = "runtime.NumGoroutine" := by simpa using hb
      obtain ⟨hb, hb2⟩ := hb
      have hb3 : ¬ fn.body = none := by intro e; rw [e] at hb; cases hb
      simp [resolve, e1, Deferred.ofValue, Sem.run_bind, Sem.run_pure, Result.andThen_ok, invoke, callFunc, run_program, hf, hb2, hb3, ha]
  unfold Oper.wp
  rw [hr, Oper.upon_enter]
  refine hC.mono ?_
  intro e w' h
  obtain ⟨v, rfl, hK⟩ := hk e w' h
  exact hK
end
end Go.Proofs.Ytkmmmnoipgdedaa
