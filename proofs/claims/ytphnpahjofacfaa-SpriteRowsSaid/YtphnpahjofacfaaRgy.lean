/-
  The law of XRgx, with whatever an operation may choose (numbers of blocks, room): a statement that leaves its order open. No condition on the program.
-/
import Derived.Test.YtphnpahjofacfaaRgx
namespace Go.Proofs.Ytphnpahjofacfaa
open Go.RowKit
set_option linter.unusedSimpArgs false
set_option linter.unusedVariables false

section
variable {γ : Type}
/-- What each operation gives: b k is the number of the block that operation k has made. -/
def vsYf (b : Nat → γ) : Nat → List (Option Nat × (γ → Value)) → List (Option Nat × Value)
  | _, [] => []
  | k, x :: r => (x.1, x.2 (b k)) :: vsYf b (k + 1) r
def upY (b : Nat → γ) (k : Nat) (R : γ) : Nat → γ := fun j => cond (Nat.beq j k) R (b j)
theorem vsYf_length (b : Nat → γ) : ∀ (fs : List (Option Nat × (γ → Value))) (k : Nat), (vsYf b k fs).length = fs.length
  | [], _ => rfl
  | x :: r, k => by simp [vsYf, vsYf_length b r]
theorem vsYf_map (b : Nat → γ) : ∀ (fs : List (Option Nat × (γ → Value))) (k : Nat), (vsYf b k fs).map (·.1) = fs.map (·.1)
  | [], _ => rfl
  | x :: r, k => by simp [vsYf, vsYf_map b r]
theorem vsYf_get (b : Nat → γ) : ∀ (fs : List (Option Nat × (γ → Value))) (k i : Nat) (d : Option Nat) (f : γ → Value), fs[i]? = some (d, f) → (vsYf b k fs)[i]? = some (d, f (b (k + i)))
  | [], _, _, _, _, h => by simp at h
  | x :: r, k, 0, d, f, h => by simp at h; subst h; simp [vsYf]
  | x :: r, k, i + 1, d, f, h => by
    simp only [vsYf, List.getElem?_cons_succ]
    rw [vsYf_get b r (k + 1) i d f (by simpa using h), show k + 1 + i = k + (i + 1) by omega]
theorem vsYf_up (b : Nat → γ) (T : Array Value) (D : Nat → Bool) (k0 : Nat) (R : γ) (j : Nat) (hk : D k0 = false) : ∀ (fs : List (Option Nat × (γ → Value))) (k : Nat), lookS T D k (vsYf (upY b k0 R) k fs) j = lookS T D k (vsYf b k fs) j
  | [], _ => rfl
  | x :: r, k => by
    unfold vsYf lookS
    rw [vsYf_up b T D k0 R j hk r (k + 1)]
    by_cases e : k = k0
    · subst e
      simp [hk]
    · have : upY b k0 R k = b k := by
        unfold upY
        rw [nbeq_ne e]
        rfl
      simp [this]

section
variable {P : Program} {ops : Array Oper} {Q : Exit → Act → World → Prop}
def StepY (ops : Array Oper) (P : Program) (Q : Exit → Act → World → Prop) (T : Array Value) (fs : List (Option Nat × (γ → Value))) (W : (Nat → Bool) → (Nat → γ) → World → Prop) (k : Nat) (o : Oper) (f : γ → Value) : Prop :=
  ∀ D b a w, D k = false → ClosedX ops D → (∀ e ∈ o.after, Region.binds .any e = true → D e.on = true) → (∀ j, a.tmps.getD j undef = lookS T D 0 (vsYf b 0 fs) j) → W D b w →
    o.wp P a w (fun a' w' => ∃ R, a' = a.put o.dst (f R) ∧ W (doneB D k) (upY b k R) w') Q
def StepsY (ops : Array Oper) (P : Program) (Q : Exit → Act → World → Prop) (T : Array Value) (fs : List (Option Nat × (γ → Value))) (W : (Nat → Bool) → (Nat → γ) → World → Prop) : Nat → List Oper → List (Option Nat × (γ → Value)) → Prop
  | _, [], [] => True
  | k, o :: r, x :: gs => (o.dst = x.1 ∧ StepY ops P Q T fs W k o x.2) ∧ StepsY ops P Q T fs W (k + 1) r gs
  | _, _, _ => False
theorem stepsY_len {T : Array Value} {fs : List (Option Nat × (γ → Value))} {W : (Nat → Bool) → (Nat → γ) → World → Prop} : ∀ (k : Nat) (l : List Oper) (gs : List (Option Nat × (γ → Value))), StepsY ops P Q T fs W k l gs → l.length = gs.length
  | _, [], [], _ => rfl
  | k, o :: r, x :: gs, h => by
    unfold StepsY at h
    simp [stepsY_len (k + 1) r gs h.2]
  | _, [], _ :: _, h => by unfold StepsY at h; exact h.elim
  | _, _ :: _, [], h => by unfold StepsY at h; exact h.elim
theorem stepsY_G {T : Array Value} {fs : List (Option Nat × (γ → Value))} {W : (Nat → Bool) → (Nat → γ) → World → Prop} : ∀ (k : Nat) (l : List Oper) (gs : List (Option Nat × (γ → Value))), (∀ i x, gs[i]? = some x → fs[k + i]? = some x) → (∀ i o, l[i]? = some o → ops[k + i]? = some o) → StepsY ops P Q T fs W k l gs → StepsG P Q T (fun b => vsYf b 0 fs) (fun D b w => ClosedX ops D ∧ W D b w) k l
  | _, [], [], _, _, _ => trivial
  | _, [], _ :: _, _, _, h => by unfold StepsY at h; exact h.elim
  | _, _ :: _, [], _, _, h => by unfold StepsY at h; exact h.elim
  | k, o :: r, x :: gs, hg, ho, h => by
    unfold StepsY at h
    refine ⟨fun D b a w hk he hl hW => ?_, stepsY_G (k + 1) r gs (fun i y hi => by have := hg (i + 1) y (by simpa using hi); rwa [show k + (i + 1) = k + 1 + i by omega] at this) (fun i y hi => by have := ho (i + 1) y (by simpa using hi); rwa [show k + (i + 1) = k + 1 + i by omega] at this) h.2⟩
    refine Oper.wp_mono (fun a' w' => ?_) (h.1.2 D b a w hk hW.1 he hl hW.2)
    rintro ⟨R, ha, hW'⟩
    have hx : fs[k]? = some (o.dst, x.2) := by
      have := hg 0 x (by simp)
      rw [Nat.add_zero] at this
      rw [this, h.1.1]
    refine ⟨upY b k R, fun j => vsYf_up b T D k R j hk fs 0, ⟨x.2 R, ?_, ha⟩, ?_⟩
    · have := vsYf_get (upY b k R) fs 0 k _ _ hx
      rw [Nat.zero_add] at this
      rw [this]
      have e : upY b k R k = R := by
        unfold upY
        rw [show Nat.beq k k = true from Nat.beq_refl k]
        rfl
      rw [e]
    · have e : (fun j => D j || j == k) = doneB D k := by
        funext j
        unfold doneB
        rw [Bool.or_comm, nbeq]
      rw [e]
      refine ⟨fun i o2 ho2 e2 he2 hb hd => ?_, hW'⟩
      unfold doneB at hd ⊢
      rw [Bool.or_eq_true] at hd ⊢
      rcases hd with hd | hd
      · obtain rfl := Nat.eq_of_beq_eq_true hd
        have hko := ho 0 o (by simp)
        rw [Nat.add_zero, ho2] at hko
        obtain rfl := Option.some.inj hko
        exact .inr (he e2 he2 hb)
      · exact .inr (hW.1 i o2 ho2 e2 he2 hb hd)
/-- **THE LAW.** -/
theorem wp_region_y (g0 : γ) {id : Nat} {a : Act} {w : World} (hm : P.follows .mixedOrders = true) (hB : lowB ops = true) (fs : List (Option Nat × (γ → Value))) (W : (Nat → Bool) → (Nat → γ) → World → Prop)
    (N : Nat) (hN : a.tmps.size = N) (h1 : oneB (fs.map (·.1)) = true) (h2 : (fs.map (·.1)).all (inN N) = true)
    (h0 : W (fun _ => false) (fun _ => g0) { w with drawn := w.drawn + 1 }) (hs : StepsY ops P Q a.tmps fs W 0 ops.toList fs)
    (hend : ∀ D b w', (∀ k, k < ops.size → D k = true) → W D b w' → Q .normal (putAll a (vsYf b 0 fs)) w') : (Code.region id ops true).wp P Q a w := by
  have hlen := stepsY_len _ _ _ hs
  refine wp_region_settledG (fun _ => g0) hm hB (fun b => vsYf b 0 fs) (fun D b w => ClosedX ops D ∧ W D b w) N hN (fun b => by rw [vsYf_map]; exact h1) (fun b => by rw [vsYf_map]; exact h2) (fun b => by rw [vsYf_length, ← hlen]; simp) ⟨fun i o _ e _ _ h => (by cases h), h0⟩
    (stepsY_G 0 _ _ (fun i x hi => by rw [Nat.zero_add]; exact hi) (fun i o hi => by rw [Nat.zero_add]; simpa using hi) hs) fun D b w' hD hW => hend D b w' hD hW.2
/-- A slot that an operation of the region has filled; one that none fills. -/
theorem vsy_at {T : Array Value} {D : Nat → Bool} {b : Nat → γ} {fs : List (Option Nat × (γ → Value))} {i j : Nat} {f : γ → Value} (h1 : oneB (fs.map (·.1)) = true) (hD : D i = true) (hi : fs[i]? = some (some j, f)) : lookS T D 0 (vsYf b 0 fs) j = f (b i) := by
  have := vsYf_get b fs 0 i _ _ hi
  rw [Nat.zero_add] at this
  exact lookS_at (by rw [vsYf_map]; exact h1) hD this
theorem vsy_no {T : Array Value} {D : Nat → Bool} {b : Nat → γ} {fs : List (Option Nat × (γ → Value))} {j : Nat} (h : (fs.map (·.1)).contains (some j) = false) : lookS T D 0 (vsYf b 0 fs) j = T.getD j undef :=
  lookS_absent _ 0 (by rw [vsYf_map]; simpa using h)
end


end
section
variable {γ : Type}
/-- A slot that an operation of the region will fill, but has not. -/
theorem vsy_off {T : Array Value} {D : Nat → Bool} {b : Nat → γ} {fs : List (Option Nat × (γ → Value))} {i j : Nat} {f : γ → Value} (h1 : oneB (fs.map (·.1)) = true) (hD : D i = false) (hi : fs[i]? = some (some j, f)) : lookS T D 0 (vsYf b 0 fs) j = T.getD j undef := by
  have key : ∀ (l : List (Option Nat × Value)) (k i : Nat) (v : Value), oneB (l.map (·.1)) = true → D (k + i) = false → l[i]? = some (some j, v) → lookS T D k l j = T.getD j undef := by
    intro l
    induction l with
    | nil => intro k i v _ _ h; simp at h
    | cons x l ih =>
      intro k i v ho hd hx
      cases i with
      | zero =>
        simp at hx
        subst hx
        unfold lookS
        rw [if_pos rfl, Nat.add_zero] at *
        simp [hd]
      | succ i =>
        simp only [List.map_cons, oneB, Bool.and_eq_true] at ho
        have hx2 : l[i]? = some (some j, v) := by simpa using hx
        unfold lookS
        by_cases e : x.1 = some j
        · rw [if_pos e]
          have h2 := ho.1
          rw [e] at h2
          have hm : some j ∈ l.map (·.1) := List.mem_map.2 ⟨_, List.mem_of_getElem? hx2, rfl⟩
          simp only [Option.isNone_some, Bool.false_or, Bool.not_eq_true', List.contains_eq_mem, decide_eq_false_iff_not] at h2
          exact absurd hm h2
        · rw [if_neg e]
          exact ih (k + 1) i v ho.2 (by rwa [show k + 1 + i = k + (i + 1) by omega]) hx2
  have := vsYf_get b fs 0 i _ _ hi
  rw [Nat.zero_add] at this
  exact key _ 0 i _ (by rw [vsYf_map]; exact h1) (by rwa [Nat.zero_add]) this
end
theorem pcond_f {c : Bool} {p q : Prop} (h : c = false) (x : cond c p q) : q := by subst h; exact x
theorem pcond_t {c : Bool} {p q : Prop} (h : c = true) (x : cond c p q) : p := by subst h; exact x
theorem pcond_mk {c : Bool} {p q : Prop} (h : c = false) (x : q) : cond c p q := by subst h; exact x
section
variable {P : Program} {Q : Exit → Act → World → Prop} {o : Oper} {a : Act} {w : World} {K : Act → World → Prop}
theorem wp_apx (s x : Operand) (t1 t2 : TypeId) (ho : o.op = .call { callee := .builtin .append, args := #[s, x], argTypes := #[t1, t2] }) (V X : Value) (hs : a.eval s = V) (hx : a.eval x = X) (v' : Value) (w' : World)
    (hrun : (Builtin.append_ #[t1, t2] o.type #[V, X]).run P w = .ok v' w') (h : K (a.put o.dst v') w') : o.wp P a w K Q := by
  unfold Oper.wp
  simp [execOp, ho, resolve, invoke, builtin, hs, hx, hrun, Result.andThen]
  exact h
end
end Go.Proofs.Ytphnpahjofacfaa
