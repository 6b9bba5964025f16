/-
  A statement that leaves its order open, with operations that hang on tests, of which some are done and some are not: what each gives is settled, whatever the order. No condition on the program.
-/
import Derived.Test.YtphnpahjofacfaaSev
namespace Go.Proofs.Ytphnpahjofacfaa
open Go.RowKit
set_option linter.unusedSimpArgs false
set_option linter.unusedVariables false

section
variable {P : Program} {ops : Array Oper} {Q : Exit → Act → World → Prop}
def SettlesZ (P : Program) (ops : Array Oper) (Q : Exit → Act → World → Prop) (S : (Nat → Bool) → Act → World → Prop) : Nat → List Oper → Prop
  | _, [] => True
  | k, o :: rest => (∀ D a w, D k = false → (∀ e ∈ o.after, Region.binds .any e = true → D e.on = true) → S D a w → (Region.wanted o (yielded ops a.tmps) = true ∧ o.wp P a w (S (fun j => D j || j == k)) Q) ∨ (Region.wanted o (yielded ops a.tmps) = false ∧ S (fun j => D j || j == k) (a.put o.dst undef) w)) ∧ SettlesZ P ops Q S (k + 1) rest
theorem settlesz_at {S : (Nat → Bool) → Act → World → Prop} : ∀ (l : List Oper) (k i : Nat) (o : Oper), SettlesZ P ops Q S k l → l[i]? = some o →
    ∀ D a w, D (k + i) = false → (∀ e ∈ o.after, Region.binds .any e = true → D e.on = true) → S D a w → (Region.wanted o (yielded ops a.tmps) = true ∧ o.wp P a w (S (fun j => D j || j == k + i)) Q) ∨ (Region.wanted o (yielded ops a.tmps) = false ∧ S (fun j => D j || j == k + i) (a.put o.dst undef) w)
  | [], _, _, _, _, h => by simp at h
  | x :: l, k, 0, o, hs, h => by
    simp at h
    subst h
    exact hs.1
  | x :: l, k, i + 1, o, hs, h => by
    have := settlesz_at l (k + 1) i o hs.2 (by simpa using h)
    rwa [show k + 1 + i = k + (i + 1) by omega] at this
theorem wp_region_settleZ {id : Nat} {a : Act} {w : World} (hm : P.follows .mixedOrders = true) (hB : lowWB ops = true) (S : (Nat → Bool) → Act → World → Prop)
    (h0 : S (fun _ => false) a { w with drawn := w.drawn + 1 }) (hs : SettlesZ P ops Q S 0 ops.toList)
    (hend : ∀ D a w, (∀ k, k < ops.size → D k = true) → S D a w → Q .normal a w) : (Code.region id ops true).wp P Q a w := by
  refine wp_region_any hm ?_
  have hlow : ∀ k o, ops[k]? = some o → ∀ e ∈ o.after, Region.binds .any e = true → e.on < k := fun k o ho => by
    have hk : k < ops.size := (Array.getElem?_eq_some_iff.1 ho).1
    have := List.all_eq_true.1 hB k (List.mem_range.2 hk)
    rw [ho] at this
    simp only [Array.all_eq_true_iff_forall_mem] at this
    exact fun e he hb => by have := this e he; simpa [hb] using this
  have key : ∀ (fuel : Nat) (listed : Array Bool) (a : Act) (w : World), listed.size = ops.size → listed.toList.count false ≤ fuel → S (fun j => listed.getD j false) a w → wpAny P .any ops Q fuel listed a w := by
    have hready : ∀ listed : Array Bool, listed.size = ops.size → Region.ready .any ops listed = [] → ∀ k, k < ops.size → listed.getD k false = true := by
      intro listed hsz hr k
      induction k using Nat.strongRecOn with
      | _ k ih =>
        intro hk
        rcases hl : listed.getD k false with _ | _
        · exfalso
          have hmem : k ∈ Region.ready .any ops listed := by
            unfold Region.ready
            rw [List.mem_filter]
            refine ⟨List.mem_range.2 hk, ?_⟩
            have hko : ops[k]? = some ops[k] := Array.getElem?_eq_getElem hk
            have hgt : listed.getD k true = false := by
              have hkl : k < listed.size := by omega
              simp [Array.getD, hkl] at hl ⊢
              exact hl
            rw [hgt, hko]
            simp only [Bool.not_false, Option.map_some, Option.getD_some, Bool.true_and, Array.all_eq_true_iff_forall_mem]
            intro e he
            cases hb : Region.binds .any e
            · rfl
            · have hlt := hlow k _ hko e he hb
              simp [ih e.on hlt (by omega)]
          rw [hr] at hmem
          cases hmem
        · rfl
    intro fuel
    induction fuel with
    | zero =>
      intro listed a w hsz hc hS
      have hall : ∀ k, k < ops.size → listed.getD k false = true := fun k hk => by
        have hkl : k < listed.size := by omega
        rcases hl : listed.getD k false with _ | _
        · exfalso
          have : 0 < listed.toList.count false := List.count_pos_iff.2 (by
            simp [Array.getD, hkl] at hl
            rw [← hl]
            simp)
          omega
        · rfl
      refine ⟨?_, hend _ _ _ hall hS⟩
      unfold Region.ready
      rw [List.filter_eq_nil_iff]
      intro i hi
      have hi := List.mem_range.1 hi
      have hil : i < listed.size := by omega
      have := hall i hi
      simp [Array.getD, hil] at this ⊢
      simp [this]
    | succ fuel ih =>
      intro listed a w hsz hc hS
      refine ⟨fun hr => hend _ _ _ (hready listed hsz hr) hS, fun i hi => ?_⟩
      unfold Region.ready at hi
      rw [List.mem_filter] at hi
      obtain ⟨hi, hr⟩ := hi
      have hi := List.mem_range.1 hi
      have hil : i < listed.size := by omega
      have hio : ops[i]? = some ops[i] := Array.getElem?_eq_getElem hi
      rw [hio] at hr
      simp only [Bool.and_eq_true, Option.map_some, Option.getD_some, Array.all_eq_true_iff_forall_mem] at hr
      obtain ⟨hr1, hr2⟩ := hr
      have hfalse : listed[i] = false := by simpa [Array.getD, hil] using hr1
      unfold wpOp
      rw [hio]
      have h1 := settlesz_at ops.toList 0 i ops[i] hs (by simp [hio]) (fun j => listed.getD j false) a w (by simp [Array.getD, hil, hfalse]) (fun e he hb => by have := hr2 e he; simpa [hb] using this) hS
      have hnext : ∀ a' w', S (fun j => listed.getD j false || j == 0 + i) a' w' → wpAny P .any ops Q fuel (listed.setIfInBounds i true) a' w' := fun a' w' h => by
        refine ih _ a' w' (by simpa using hsz) ?_ ?_
        · have h2 : (listed.setIfInBounds i true).toList = listed.toList.set i true := by simp
          rw [h2, List.count_set (by simpa using hil)]
          have hpos : 0 < listed.toList.count false := List.count_pos_iff.2 (by rw [← hfalse]; simp)
          have hget : listed.toList[i]'(by simpa using hil) = false := by simpa using hfalse
          rw [hget]
          have e9 : (if (true == false) = true then 1 else 0) = (0 : Nat) := rfl
          have e8 : (if (false == false) = true then 1 else 0) = (1 : Nat) := rfl
          rw [e8, e9]
          omega
        · have h2 : (fun j => (listed.setIfInBounds i true).getD j false) = fun j => listed.getD j false || j == 0 + i := by
            funext j
            by_cases hj : j = i
            · subst hj
              simp [Array.getD, hil]
            · by_cases hjl : j < listed.size
              · simp [Array.getD, hjl, Array.getElem_setIfInBounds, Ne.symm hj, hj]
              · simp [Array.getD, hjl, hj]
          rw [h2]
          exact h
      rcases h1 with ⟨hw, h1⟩ | ⟨hw, h1⟩
      · simp only [hw, if_true]
        left
        exact Oper.wp_mono hnext h1
      · simp only [hw, Bool.false_eq_true, if_false]
        exact hnext _ _ h1
  refine key ops.size _ a _ (by simp) ?_ ?_
  · simp [List.count_replicate]
  · have : (fun j => (Array.replicate ops.size false).getD j false) = fun _ => false := by
      funext j
      by_cases hj : j < ops.size <;> simp [Array.getD, hj]
    rw [this]
    exact h0

/-- What an operation has to show. -/
def StepZ {β : Type} (P : Program) (ops : Array Oper) (Q : Exit → Act → World → Prop) (T : Array Value) (vs : β → List (Option Nat × Value)) (W : (Nat → Bool) → β → World → Prop) (k : Nat) (o : Oper) : Prop :=
  ∀ D b a w, D k = false → (∀ e ∈ o.after, Region.binds .any e = true → D e.on = true) → a.tmps.size = T.size → (∀ j, a.tmps.getD j undef = lookS T D 0 (vs b) j) → W D b w →
    (Region.wanted o (yielded ops a.tmps) = true ∧ o.wp P a w (fun a' w' => ∃ b', (∀ j, lookS T D 0 (vs b') j = lookS T D 0 (vs b) j) ∧ (∃ v, (vs b')[k]? = some (o.dst, v) ∧ a' = a.put o.dst v) ∧ W (fun j => D j || j == k) b' w') Q) ∨
    (Region.wanted o (yielded ops a.tmps) = false ∧ (vs b)[k]? = some (o.dst, undef) ∧ W (fun j => D j || j == k) b w)
def StepsZ {β : Type} (P : Program) (ops : Array Oper) (Q : Exit → Act → World → Prop) (T : Array Value) (vs : β → List (Option Nat × Value)) (W : (Nat → Bool) → β → World → Prop) : Nat → List Oper → Prop
  | _, [] => True
  | k, o :: rest => StepZ P ops Q T vs W k o ∧ StepsZ P ops Q T vs W (k + 1) rest
/-- **THE LAW.** b: what is not known ahead: the numbers of blocks that are made, values that a callee tells. -/
theorem wp_region_settledZ {β : Type} (b0 : β) {id : Nat} {a : Act} {w : World} (hm : P.follows .mixedOrders = true) (hB : lowWB ops = true) (vs : β → List (Option Nat × Value)) (W : (Nat → Bool) → β → World → Prop)
    (N : Nat) (hN : a.tmps.size = N) (h1 : ∀ b, oneB ((vs b).map (·.1)) = true) (h2b : ∀ b, ((vs b).map (·.1)).all (inN N) = true) (h3 : ∀ b, (vs b).length = ops.size)
    (h0 : W (fun _ => false) b0 { w with drawn := w.drawn + 1 }) (hs : StepsZ P ops Q a.tmps vs W 0 ops.toList)
    (hend : ∀ D b w', (∀ k, k < ops.size → D k = true) → W D b w' → Q .normal (putAll a (vs b)) w') : (Code.region id ops true).wp P Q a w := by
  have h2 : ∀ b, ∀ x ∈ vs b, ∀ n, x.1 = some n → n < a.tmps.size := fun b x hx n hn => by
    have := List.all_eq_true.1 (h2b b) x.1 (List.mem_map.2 ⟨x, hx, rfl⟩)
    rw [hn] at this
    rw [hN]
    simpa [inN] using this
  refine wp_region_settleZ hm hB (fun D a' w' => ∃ b, a'.tmps.size = a.tmps.size ∧ a'.defers = a.defers ∧ (∀ j, a'.tmps.getD j undef = lookS a.tmps D 0 (vs b) j) ∧ W D b w') ⟨b0, rfl, rfl, fun j => ?_, h0⟩ ?_ ?_
  · have : ∀ (l : List (Option Nat × Value)) (k : Nat), lookS a.tmps (fun _ => false) k l j = a.tmps.getD j undef := by
      intro l
      induction l with
      | nil => intro k; rfl
      | cons x l ih => intro k; unfold lookS; rw [ih]; simp
    exact (this _ _).symm
  · have key : ∀ (l : List Oper) (k : Nat), StepsZ P ops Q a.tmps vs W k l → SettlesZ P ops Q (fun D a' w' => ∃ b, a'.tmps.size = a.tmps.size ∧ a'.defers = a.defers ∧ (∀ j, a'.tmps.getD j undef = lookS a.tmps D 0 (vs b) j) ∧ W D b w') k l := by
      intro l
      induction l with
      | nil => intro k _; trivial
      | cons o l ih =>
        intro k h
        refine ⟨fun D a' w' hk he ⟨b, hz, hdf, hl, hW⟩ => ?_, ih (k + 1) h.2⟩
        have hput : ∀ (b' : β) (v : Value) (w2 : World), (∀ j, lookS a.tmps D 0 (vs b') j = lookS a.tmps D 0 (vs b) j) → (vs b')[k]? = some (o.dst, v) → W (fun j => D j || j == k) b' w2 →
            ∃ b, (a'.put o.dst v).tmps.size = a.tmps.size ∧ (a'.put o.dst v).defers = a.defers ∧ (∀ j, (a'.put o.dst v).tmps.getD j undef = lookS a.tmps (fun j => D j || j == k) 0 (vs b) j) ∧ W (fun j => D j || j == k) b w2 := by
          intro b' v w2 hb hv hW'
          have hdin : ∀ n, o.dst = some n → n < a'.tmps.size := fun n hn => by rw [hz]; exact h2 b' _ (List.mem_of_getElem? hv) n hn
          refine ⟨b', ?_, ?_, fun j => ?_, hW'⟩
          · rw [← hz]; cases hd : o.dst <;> simp [Act.put]
          · rw [← hdf]; cases hd : o.dst <;> simp [Act.put]
          · have e := lookS_step (T := a.tmps) (D := D) (j := j) (vs b') 0 k o.dst v (h1 b') hv
            rw [Nat.zero_add] at e
            rw [put_get a' o.dst v j hdin, e, hb j, hl j]
        rcases h.1 D b a' w' hk he hz hl hW with ⟨hw, hp⟩ | ⟨hw, hv, hW2⟩
        · refine .inl ⟨hw, Oper.wp_mono (fun a2 w2 ⟨b', hb, ⟨v, hv, ha⟩, hW'⟩ => ?_) hp⟩
          subst ha
          exact hput b' v w2 hb hv hW'
        · exact .inr ⟨hw, hput b undef w' (fun _ => rfl) hv hW2⟩
    exact key _ _ hs
  · rintro D a' w' hD ⟨b, hz, hdf, hl, hW⟩
    have e : a' = putAll a (vs b) := by
      have hp := putAll_size (vs b) a
      refine act_eq (hz.trans hp.1.symm) (hdf.trans hp.2.symm) fun j => ?_
      rw [hl j, putAll_get (D := D) (vs b) 0 a (h1 b) (h2 b) (fun i hi => by rw [Nat.zero_add]; exact hD i (by rw [← h3 b]; exact hi))]
    rw [e]
    exact hend D b w' hD hW
end
end Go.Proofs.Ytphnpahjofacfaa
