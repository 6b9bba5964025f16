/-
  A statement that leaves its order open and that makes a variable of its own, and writes it, while others of its operations still read ('a, b := x.f, x.g'): what each operation gives is settled, whatever the order. No condition on the program.
-/
import Derived.Test.YtkmmmnoipgdedaaMem
namespace Go.Proofs.Ytkmmmnoipgdedaa
open Go.RowKit
set_option linter.unusedSimpArgs false
set_option linter.unusedVariables false

section
variable {P : Program} {ops : Array Oper} {Q : Exit → Act → World → Prop}
/-- Each operation waits for earlier ones alone, and none hangs on a test. -/
def lowB (ops : Array Oper) : Bool := (List.range ops.size).all fun k => match ops[k]? with
  | some o => o.guard.isNone && o.after.all fun e => !Region.binds .any e || decide (e.on < k)
  | none => false
def Settles (P : Program) (Q : Exit → Act → World → Prop) (S : (Nat → Bool) → Act → World → Prop) : Nat → List Oper → Prop
  | _, [] => True
  | k, o :: rest => (∀ D a w, D k = false → (∀ e ∈ o.after, Region.binds .any e = true → D e.on = true) → S D a w → o.wp P a w (S (fun j => D j || j == k)) Q) ∧ Settles P Q S (k + 1) rest
theorem settles_at {S : (Nat → Bool) → Act → World → Prop} : ∀ (l : List Oper) (k i : Nat) (o : Oper), Settles P Q S k l → l[i]? = some o →
    ∀ D a w, D (k + i) = false → (∀ e ∈ o.after, Region.binds .any e = true → D e.on = true) → S D a w → o.wp P a w (S (fun j => D j || j == k + i)) Q
  | [], _, _, _, _, h => by simp at h
  | x :: l, k, 0, o, hs, h => by
    simp at h
    subst h
    exact hs.1
  | x :: l, k, i + 1, o, hs, h => by
    have := settles_at l (k + 1) i o hs.2 (by simpa using h)
    rwa [show k + 1 + i = k + (i + 1) by omega] at this
theorem wp_region_settle {id : Nat} {a : Act} {w : World} (hm : P.follows .mixedOrders = true) (hB : lowB ops = true) (S : (Nat → Bool) → Act → World → Prop)
    (h0 : S (fun _ => false) a { w with drawn := w.drawn + 1 }) (hs : Settles P Q S 0 ops.toList)
    (hend : ∀ D a w, (∀ k, k < ops.size → D k = true) → S D a w → Q .normal a w) : (Code.region id ops true).wp P Q a w := by
  refine wp_region_any hm ?_
  have hlow : ∀ k o, ops[k]? = some o → o.guard = none ∧ ∀ e ∈ o.after, Region.binds .any e = true → e.on < k := fun k o ho => by
    have hk : k < ops.size := (Array.getElem?_eq_some_iff.1 ho).1
    have := List.all_eq_true.1 hB k (List.mem_range.2 hk)
    rw [ho] at this
    simp only [Bool.and_eq_true, Option.isNone_iff_eq_none, Array.all_eq_true_iff_forall_mem] at this
    exact ⟨this.1, fun e he hb => by have := this.2 e he; simpa [hb] using this⟩
  have key : ∀ (fuel : Nat) (listed : Array Bool) (a : Act) (w : World), listed.size = ops.size → listed.toList.count false ≤ fuel → S (fun j => listed.getD j false) a w → wpAny P .any ops Q fuel listed a w := by
    have hready : ∀ listed : Array Bool, listed.size = ops.size → Region.ready .any ops listed = [] → ∀ k, k < ops.size → listed.getD k false = true := by
      intro listed hsz hr k
      induction k using Nat.strongRecOn with
      | _ k ih =>
        intro hk
        rcases hl : listed.getD k false with _ | _
        · exfalso
          have hmem : k ∈ Region.ready .any ops listed := by
            unfold Region.ready
            rw [List.mem_filter]
            refine ⟨List.mem_range.2 hk, ?_⟩
            have hko : ops[k]? = some ops[k] := Array.getElem?_eq_getElem hk
            have hgt : listed.getD k true = false := by
              have hkl : k < listed.size := by omega
              simp [Array.getD, hkl] at hl ⊢
              exact hl
            rw [hgt, hko]
            simp only [Bool.not_false, Option.map_some, Option.getD_some, Bool.true_and, Array.all_eq_true_iff_forall_mem]
            intro e he
            cases hb : Region.binds .any e
            · rfl
            · have hlt := (hlow k _ hko).2 e he hb
              simp [ih e.on hlt (by omega)]
          rw [hr] at hmem
          cases hmem
        · rfl
    intro fuel
    induction fuel with
    | zero =>
      intro listed a w hsz hc hS
      have hall : ∀ k, k < ops.size → listed.getD k false = true := fun k hk => by
        have hkl : k < listed.size := by omega
        rcases hl : listed.getD k false with _ | _
        · exfalso
          have : 0 < listed.toList.count false := List.count_pos_iff.2 (by
            simp [Array.getD, hkl] at hl
            rw [← hl]
            simp)
          omega
        · rfl
      refine ⟨?_, hend _ _ _ hall hS⟩
      unfold Region.ready
      rw [List.filter_eq_nil_iff]
      intro i hi
      have hi := List.mem_range.1 hi
      have hil : i < listed.size := by omega
      have := hall i hi
      simp [Array.getD, hil] at this ⊢
      simp [this]
    | succ fuel ih =>
      intro listed a w hsz hc hS
      refine ⟨fun hr => hend _ _ _ (hready listed hsz hr) hS, fun i hi => ?_⟩
      unfold Region.ready at hi
      rw [List.mem_filter] at hi
      obtain ⟨hi, hr⟩ := hi
      have hi := List.mem_range.1 hi
      have hil : i < listed.size := by omega
      have hio : ops[i]? = some ops[i] := Array.getElem?_eq_getElem hi
      rw [hio] at hr
      simp only [Bool.and_eq_true, Option.map_some, Option.getD_some, Array.all_eq_true_iff_forall_mem] at hr
      obtain ⟨hr1, hr2⟩ := hr
      have hfalse : listed[i] = false := by simpa [Array.getD, hil] using hr1
      unfold wpOp
      rw [hio]
      simp only [Region.wanted, (hlow i _ hio).1, if_true]
      left
      have h1 := settles_at ops.toList 0 i ops[i] hs (by simp [hio]) (fun j => listed.getD j false) a w (by simp [Array.getD, hil, hfalse]) (fun e he hb => by have := hr2 e he; simpa [hb] using this) hS
      refine Oper.wp_mono (fun a' w' h => ih _ a' w' (by simpa using hsz) ?_ ?_) h1
      · have h2 : (listed.setIfInBounds i true).toList = listed.toList.set i true := by simp
        rw [h2, List.count_set (by simpa using hil)]
        have hpos : 0 < listed.toList.count false := List.count_pos_iff.2 (by rw [← hfalse]; simp)
        have hget : listed.toList[i]'(by simpa using hil) = false := by simpa using hfalse
        rw [hget]
        have e9 : (if (true == false) = true then 1 else 0) = (0 : Nat) := rfl
        have e8 : (if (false == false) = true then 1 else 0) = (1 : Nat) := rfl
        rw [e8, e9]
        omega
      · have h2 : (fun j => (listed.setIfInBounds i true).getD j false) = fun j => listed.getD j false || j == 0 + i := by
          funext j
          by_cases hj : j = i
          · subst hj
            simp [Array.getD, hil]
          · by_cases hjl : j < listed.size
            · simp [Array.getD, hjl, Array.getElem_setIfInBounds, Ne.symm hj, hj]
            · simp [Array.getD, hjl, hj]
        rw [h2]
        exact h
  refine key ops.size _ a _ (by simp) ?_ ?_
  · simp [List.count_replicate]
  · have : (fun j => (Array.replicate ops.size false).getD j false) = fun _ => false := by
      funext j
      by_cases hj : j < ops.size <;> simp [Array.getD, hj]
    rw [this]
    exact h0

/-- What stands in slot j where the operations of D have been done. -/
def lookS (T : Array Value) (D : Nat → Bool) : Nat → List (Option Nat × Value) → Nat → Value
  | _, [], j => T.getD j undef
  | k, x :: rest, j => if x.1 = some j then (if D k = true then x.2 else T.getD j undef) else lookS T D (k + 1) rest j
def putAll (a : Act) (vs : List (Option Nat × Value)) : Act := vs.foldl (fun a x => a.put x.1 x.2) a
def oneB (ds : List (Option Nat)) : Bool := match ds with
  | [] => true
  | d :: rest => (d.isNone || !rest.contains d) && oneB rest
theorem lookS_absent {T : Array Value} {D : Nat → Bool} {j : Nat} : ∀ (l : List (Option Nat × Value)) (k : Nat), some j ∉ l.map (·.1) → lookS T D k l j = T.getD j undef
  | [], _, _ => rfl
  | x :: l, k, h => by
    simp only [List.map_cons, List.mem_cons, not_or] at h
    unfold lookS
    rw [if_neg (fun e => h.1 e.symm), lookS_absent l (k + 1) h.2]
theorem lookS_step {T : Array Value} {D : Nat → Bool} {j : Nat} : ∀ (l : List (Option Nat × Value)) (k i : Nat) (d : Option Nat) (v : Value), oneB (l.map (·.1)) = true → l[i]? = some (d, v) →
    lookS T (fun n => D n || n == k + i) k l j = if d = some j then v else lookS T D k l j
  | [], _, _, _, _, _, h => by simp at h
  | x :: l, k, 0, d, v, ho, h => by
    simp at h
    subst h
    unfold lookS
    by_cases hd : d = some j
    · subst hd
      simp
    · simp only [hd, if_false]
      have hcong : ∀ (l : List (Option Nat × Value)) (m : Nat), k < m → lookS T (fun n => D n || n == k + 0) m l j = lookS T D m l j := by
        intro l
        induction l with
        | nil => intro m _; rfl
        | cons y l ih =>
          intro m hm
          unfold lookS
          rw [ih (m + 1) (by omega)]
          have : (m == k + 0) = false := by simp; omega
          rw [this]
          simp
      exact hcong l (k + 1) (by omega)
  | x :: l, k, i + 1, d, v, ho, h => by
    simp only [List.map_cons, oneB, Bool.and_eq_true] at ho
    have ih := lookS_step (T := T) (D := D) (j := j) l (k + 1) i d v ho.2 (by simpa using h)
    unfold lookS
    rw [show k + (i + 1) = k + 1 + i by omega, ih]
    have hk : (k == k + 1 + i) = false := by simp; omega
    rw [hk]
    by_cases hx : x.1 = some j
    · have hne : d ≠ some j := fun e => by
        have h1 : d ∈ l.map (·.1) := List.mem_map.2 ⟨(d, v), List.mem_of_getElem? (by simpa using h), rfl⟩
        have h2 := ho.1
        rw [hx] at h2
        simp only [Option.isNone_some, Bool.false_or, Bool.not_eq_true', List.contains_eq_mem, decide_eq_false_iff_not] at h2
        exact h2 (e ▸ h1)
      simp [hx, hne]
    · simp [hx]
theorem putAll_size : ∀ (l : List (Option Nat × Value)) (a : Act), (putAll a l).tmps.size = a.tmps.size ∧ (putAll a l).defers = a.defers
  | [], _ => ⟨rfl, rfl⟩
  | x :: l, a => by
    have := putAll_size l (a.put x.1 x.2)
    refine ⟨this.1.trans ?_, this.2.trans ?_⟩
    · cases hx : x.1 <;> simp [Act.put]
    · cases hx : x.1 <;> simp [Act.put]
theorem put_get (a : Act) (d : Option Nat) (v : Value) (j : Nat) (hd : ∀ n, d = some n → n < a.tmps.size) : (a.put d v).tmps.getD j undef = if d = some j then v else a.tmps.getD j undef := by
  cases d with
  | none => simp [Act.put]
  | some n =>
    have hn := hd n rfl
    by_cases hj : n = j
    · subst hj
      simp [Act.put, Array.getD, hn]
    · by_cases hjs : j < a.tmps.size
      · simp [Act.put, Array.getD, hjs, hj, Array.getElem_setIfInBounds]
      · simp [Act.put, Array.getD, hjs, hj]
theorem putAll_get {D : Nat → Bool} {j : Nat} : ∀ (l : List (Option Nat × Value)) (k : Nat) (a : Act), oneB (l.map (·.1)) = true → (∀ x ∈ l, ∀ n, x.1 = some n → n < a.tmps.size) → (∀ i, i < l.length → D (k + i) = true) →
    (putAll a l).tmps.getD j undef = lookS a.tmps D k l j
  | [], _, _, _, _, _ => rfl
  | x :: l, k, a, ho, hin, hD => by
    have ho' := ho
    simp only [List.map_cons, oneB, Bool.and_eq_true] at ho
    have hsz : (a.put x.1 x.2).tmps.size = a.tmps.size := by cases hx : x.1 <;> simp [Act.put]
    have ih := putAll_get (D := D) (j := j) l (k + 1) (a.put x.1 x.2) ho.2 (fun y hy n hn => by rw [hsz]; exact hin y (by simp [hy]) n hn) (fun i hi => by have := hD (i + 1) (by simp; omega); rwa [show k + (i + 1) = k + 1 + i by omega] at this)
    have e : putAll a (x :: l) = putAll (a.put x.1 x.2) l := rfl
    rw [e, ih]
    have hg := put_get a x.1 x.2 j (hin x (by simp))
    unfold lookS
    by_cases hx : x.1 = some j
    · have habs : some j ∉ l.map (·.1) := fun hm => by
        have h2 := ho.1
        rw [hx] at h2
        simp only [Option.isNone_some, Bool.false_or, Bool.not_eq_true', List.contains_eq_mem, decide_eq_false_iff_not] at h2
        exact h2 hm
      have h0 := hD 0 (by simp)
      simp only [Nat.add_zero] at h0
      rw [if_pos hx, if_pos h0]
      have e1 := lookS_absent (T := (a.put x.1 x.2).tmps) (D := D) l (k + 1) habs
      rw [hg, if_pos hx] at e1
      cases l with
      | nil => exact e1
      | cons y l => exact e1
    · rw [if_neg hx]
      have hcong : ∀ (l : List (Option Nat × Value)) (m : Nat), lookS (a.put x.1 x.2).tmps D m l j = lookS a.tmps D m l j := by
        intro l
        rw [if_neg hx] at hg
        induction l with
        | nil => intro m; exact hg
        | cons y l ih =>
          intro m
          unfold lookS
          rw [ih (m + 1), hg]
      have := hcong l (k + 1)
      cases l with
      | nil => exact this
      | cons y l => exact this
theorem act_eq {a b : Act} (h1 : a.tmps.size = b.tmps.size) (h2 : a.defers = b.defers) (h3 : ∀ j, a.tmps.getD j undef = b.tmps.getD j undef) : a = b := by
  obtain ⟨ta, da⟩ := a
  obtain ⟨tb, db⟩ := b
  simp only at h1 h2 h3
  subst h2
  have : ta = tb := by
    apply Array.ext h1
    intro i hi1 hi2
    have := h3 i
    simpa [Array.getD, hi1, hi2] using this
  rw [this]

/-- What an operation has to show. -/
def Step1 (P : Program) (Q : Exit → Act → World → Prop) (T : Array Value) (vs : Nat → List (Option Nat × Value)) (W : (Nat → Bool) → Nat → World → Prop) (k : Nat) (o : Oper) : Prop :=
  ∀ D b a w, D k = false → (∀ e ∈ o.after, Region.binds .any e = true → D e.on = true) → (∀ j, a.tmps.getD j undef = lookS T D 0 (vs b) j) → W D b w →
    o.wp P a w (fun a' w' => ∃ b', (∀ j, lookS T D 0 (vs b') j = lookS T D 0 (vs b) j) ∧ (∃ v, (vs b')[k]? = some (o.dst, v) ∧ a' = a.put o.dst v) ∧ W (fun j => D j || j == k) b' w') Q
def Steps1 (P : Program) (Q : Exit → Act → World → Prop) (T : Array Value) (vs : Nat → List (Option Nat × Value)) (W : (Nat → Bool) → Nat → World → Prop) : Nat → List Oper → Prop
  | _, [] => True
  | k, o :: rest => Step1 P Q T vs W k o ∧ Steps1 P Q T vs W (k + 1) rest
def inN (N : Nat) : Option Nat → Bool
  | some n => decide (n < N)
  | none => true
/-- **THE LAW.** b: the number of the block that is made. -/
theorem wp_region_settled {id : Nat} {a : Act} {w : World} (hm : P.follows .mixedOrders = true) (hB : lowB ops = true) (vs : Nat → List (Option Nat × Value)) (W : (Nat → Bool) → Nat → World → Prop)
    (N : Nat) (hN : a.tmps.size = N) (h1 : ∀ b, oneB ((vs b).map (·.1)) = true) (h2b : ∀ b, ((vs b).map (·.1)).all (inN N) = true) (h3 : ∀ b, (vs b).length = ops.size)
    (h0 : W (fun _ => false) 0 { w with drawn := w.drawn + 1 }) (hs : Steps1 P Q a.tmps vs W 0 ops.toList)
    (hend : ∀ D b w', (∀ k, k < ops.size → D k = true) → W D b w' → Q .normal (putAll a (vs b)) w') : (Code.region id ops true).wp P Q a w := by
  have h2 : ∀ b, ∀ x ∈ vs b, ∀ n, x.1 = some n → n < a.tmps.size := fun b x hx n hn => by
    have := List.all_eq_true.1 (h2b b) x.1 (List.mem_map.2 ⟨x, hx, rfl⟩)
    rw [hn] at this
    rw [hN]
    simpa [inN] using this
  refine wp_region_settle hm hB (fun D a' w' => ∃ b, a'.tmps.size = a.tmps.size ∧ a'.defers = a.defers ∧ (∀ j, a'.tmps.getD j undef = lookS a.tmps D 0 (vs b) j) ∧ W D b w') ⟨0, rfl, rfl, fun j => ?_, h0⟩ ?_ ?_
  · have : ∀ (l : List (Option Nat × Value)) (k : Nat), lookS a.tmps (fun _ => false) k l j = a.tmps.getD j undef := by
      intro l
      induction l with
      | nil => intro k; rfl
      | cons x l ih => intro k; unfold lookS; rw [ih]; simp
    exact (this _ _).symm
  · have key : ∀ (l : List Oper) (k : Nat), Steps1 P Q a.tmps vs W k l → Settles P Q (fun D a' w' => ∃ b, a'.tmps.size = a.tmps.size ∧ a'.defers = a.defers ∧ (∀ j, a'.tmps.getD j undef = lookS a.tmps D 0 (vs b) j) ∧ W D b w') k l := by
      intro l
      induction l with
      | nil => intro k _; trivial
      | cons o l ih =>
        intro k h
        refine ⟨fun D a' w' hk he ⟨b, hz, hdf, hl, hW⟩ => ?_, ih (k + 1) h.2⟩
        refine Oper.wp_mono (fun a2 w2 ⟨b', hb, ⟨v, hv, ha⟩, hW'⟩ => ?_) (h.1 D b a' w' hk he hl hW)
        subst ha
        have hdin : ∀ n, o.dst = some n → n < a'.tmps.size := fun n hn => by rw [hz]; exact h2 b' _ (List.mem_of_getElem? hv) n hn
        refine ⟨b', ?_, ?_, fun j => ?_, hW'⟩
        · rw [← hz]; cases hd : o.dst <;> simp [Act.put]
        · rw [← hdf]; cases hd : o.dst <;> simp [Act.put]
        · have e := lookS_step (T := a.tmps) (D := D) (j := j) (vs b') 0 k o.dst v (h1 b') hv
          rw [Nat.zero_add] at e
          rw [put_get a' o.dst v j hdin, e, hb j, hl j]
    exact key _ _ hs
  · rintro D a' w' hD ⟨b, hz, hdf, hl, hW⟩
    have e : a' = putAll a (vs b) := by
      have hp := putAll_size (vs b) a
      refine act_eq (hz.trans hp.1.symm) (hdf.trans hp.2.symm) fun j => ?_
      rw [hl j, putAll_get (D := D) (vs b) 0 a (h1 b) (h2 b) (fun i hi => by rw [Nat.zero_add]; exact hD i (by rw [← h3 b]; exact hi))]
    rw [e]
    exact hend D b w' hD hW
theorem lookS_at {T : Array Value} {D : Nat → Bool} {j i : Nat} {v : Value} {l : List (Option Nat × Value)} (ho : oneB (l.map (·.1)) = true) (hD : D i = true) (hi : l[i]? = some (some j, v)) : lookS T D 0 l j = v := by
  have key : ∀ (l : List (Option Nat × Value)) (k i : Nat), oneB (l.map (·.1)) = true → D (k + i) = true → l[i]? = some (some j, v) → lookS T D k l j = v := by
    intro l
    induction l with
    | nil => intro k i _ _ h; simp at h
    | cons x l ih =>
      intro k i ho hD hi
      simp only [List.map_cons, oneB, Bool.and_eq_true] at ho
      cases i with
      | zero =>
        simp at hi
        subst hi
        unfold lookS
        simp only [if_true]
        rw [if_pos (by simpa using hD)]
      | succ i =>
        have h1 : l[i]? = some (some j, v) := by simpa using hi
        have hm : some j ∈ l.map (·.1) := List.mem_map.2 ⟨_, List.mem_of_getElem? h1, rfl⟩
        have hx : x.1 ≠ some j := fun e => by
          have h2 := ho.1
          rw [e] at h2
          simp only [Option.isNone_some, Bool.false_or, Bool.not_eq_true', List.contains_eq_mem, decide_eq_false_iff_not] at h2
          exact h2 hm
        unfold lookS
        rw [if_neg hx]
        exact ih (k + 1) i ho.2 (by rwa [show k + 1 + i = k + (i + 1) by omega]) h1
  exact key l 0 i ho (by rwa [Nat.zero_add]) hi
section
variable {o : Oper} {a : Act} {w : World} {K : Act → World → Prop} {n : Nat} {X : List Nat} {w0 : World} {l : List (Nat × Array Value)}
theorem wp_val (v : Value) (h : (execOp a.eval o).run P w = .ok (.value v) w) (hk : K (a.put o.dst v) w) : o.wp P a w K Q := by
  unfold Oper.wp
  rw [h]
  exact hk
theorem wp_sload (ty : TypeId) (x : Operand) (ho : o.op = .load ty x) (R off : Nat) (hx : a.eval x = .pointer (some ⟨R, off, none⟩)) (i : Nat) (H : Mem n X w0 w l) (cs sub : Array Value) (hi : l[i]? = some (R, cs))
    (hu : (P.underlying ty).map aggB = some true) (hz : (P.info? ty).map (·.size) = some sub.size) (hs : ∀ j v, sub[j]? = some v → cs[off + j]? = some v)
    (h : K (a.put o.dst (.agg sub)) w) : o.wp P a w K Q := by
  obtain ⟨t, hg⟩ := H.get hi
  unfold Oper.wp execOp
  simp only [ho, hx, Instr.loadAt, Instr.sureAddr, Sem.run_bind, Sem.run_pure, Result.andThen_ok, run_loadVar_part w R off t ty cs sub hg hu hz hs]
  exact h
theorem wp_sload1 (ty : TypeId) (x : Operand) (ho : o.op = .load ty x) (R off : Nat) (hx : a.eval x = .pointer (some ⟨R, off, none⟩)) (i : Nat) (H : Mem n X w0 w l) (cs : Array Value) (v : Value) (hi : l[i]? = some (R, cs)) (hs : cs[off]? = some v)
    (hu : (P.underlying ty).map aggB = some false) (h : K (a.put o.dst v) w) : o.wp P a w K Q := by
  obtain ⟨t, hg⟩ := H.get hi
  unfold Oper.wp execOp
  simp only [ho, hx, Instr.loadAt, Instr.sureAddr, Sem.run_bind, Sem.run_pure, Result.andThen_ok, run_loadVar_one w R off t ty cs v hg hu hs]
  exact h
theorem wp_salloc (T : TypeId) (ho : o.op = .alloc T) (H : Mem n X w0 w l) (cs : Array Value)
    (hz : ∀ w : World, (Instr.alloc T true (.tuple #[])).run P w = .ok (.pointer (some ⟨w.heap.size, 0, none⟩)) (w.alloc (.cells cs T)))
    (h : ∀ R w1, Mem n X w0 w1 ((R, cs) :: l) → K (a.put o.dst (.pointer (some ⟨R, 0, none⟩))) w1) : o.wp P a w K Q := by
  unfold Oper.wp execOp
  simp only [ho, Sem.run_bind, hz, Result.andThen_ok, Sem.run_pure]
  exact h _ _ (H.new cs T)
theorem wp_sstoreA (ty : TypeId) (x y : Operand) (ho : o.op = .store ty x y) (hdst : o.dst = none) (R : Nat) (hx : a.eval x = .pointer (some ⟨R, 0, none⟩)) (i : Nat) (H : Mem n X w0 w l) (cs cs' : Array Value) (hi : l[i]? = some (R, cs)) (hy : a.eval y = .agg cs')
    (hz : (P.info? ty).map (·.size) = some cs'.size) (hl : cs'.size = cs.size) (h1 : cs'.all (·.oneCell') = true)
    (h : ∀ w1, Mem n X w0 w1 (l.set i (R, cs')) → K a w1) : o.wp P a w K Q := by
  obtain ⟨t, hg⟩ := H.get hi
  have hc : (splice cs.toList 0 (Value.agg cs').cells.toList).toArray = cs' := by
    have e : (Value.agg cs').cells.toList = cs'.toList := rfl
    have e2 : cs.toList.drop (0 + cs'.toList.length) = [] := List.drop_of_length_le (by simp; omega)
    unfold splice
    rw [e, e2]
    simp
  unfold Oper.wp execOp
  simp only [ho, hx, hy, Instr.storeAt, Instr.sureAddr, Sem.run_bind, Sem.run_pure, Result.andThen_ok, run_storeVar_part w R 0 t ty cs (.agg cs') hg hz (by show 0 + cs'.size ≤ _; omega) h1]
  rw [hc]
  have := h _ (H.setRow hi cs')
  simp only [Oper.upon_skip, hdst, Act.put]
  exact this
end
end
section
variable {P : Program} {Q : Exit → Act → World → Prop}
/-- A function is called, known by its contract. -/
theorem wp_callf {o : Oper} {a : Act} {w : World} {K : Act → World → Prop} {f : FuncId} {c : Call} {vals : Array Value} {v : Value} (ho : o.op = .call c) (hc : c.callee = .value (.func f)) (ha : c.args.map a.eval = vals)
    (hb : ((P.funcs[f]?).map fun fn => fn.body.isNone || fn.name == "runtime.NumGoroutine") = some false) (hC : Calls P f vals w fun e w' => e = .returned v ∧ Below w.heap.size w w') (hk : ∀ w', Below w.heap.size w w' → K (a.put o.dst v) w') : o.wp P a w K Q := by
  obtain ⟨callee, cargs, ctypes⟩ := c
  simp only at hc ha
  subst hc
  have hr : (execOp a.eval o).run P w = .ok (.enter f vals) w := by
    unfold execOp
    rw [ho]
    have e1 : a.eval (.func f) = .func (.func f) #[] #[] := rfl
    cases hf : P.funcs[f]? with
    | none => rw [hf] at hb; simp at hb
    | some fn =>
      rw [hf] at hb
      have hb : fn.body.isNone = false ∧ ¬ fn.name = "runtime.NumGoroutine" := by simpa using hb
      obtain ⟨hb, hb2⟩ := hb
      have hb3 : ¬ fn.body = none := by intro e; rw [e] at hb; cases hb
      simp [resolve, e1, Deferred.ofValue, Sem.run_bind, Sem.run_pure, Result.andThen_ok, invoke, callFunc, run_program, hf, hb2, hb3, ha]
  unfold Oper.wp
  rw [hr, Oper.upon_enter]
  refine hC.mono ?_
  rintro e w' ⟨rfl, hB⟩
  exact hk w' hB
end
section
variable {n : Nat} {X : List Nat} {w0 w w1 : World} {L : List (Nat × Array Value)} {st al k b b' : Nat} {zs cs : Array Value} {D : Nat → Bool}
theorem Mem.drew (h : Mem n X w0 w L) : Mem n X w0 { w with drawn := w.drawn + 1 } L := h.next ⟨rfl, rfl, rfl, Nat.le_refl _, fun _ _ => rfl⟩
/-- One variable is made by operation al, and written by operation st. -/
def WBox (n : Nat) (X : List Nat) (w0 : World) (al st : Nat) (zs cs : Array Value) (L : List (Nat × Array Value)) (D : Nat → Bool) (b : Nat) (w : World) : Prop :=
  (D st = true → D al = true) ∧ Mem n X w0 w (if D al = true then (b, if D st = true then cs else zs) :: L else L)
theorem WBox.start (h : Mem n X w0 w L) : WBox n X w0 al st zs cs L (fun _ => false) 0 { w with drawn := w.drawn + 1 } := ⟨fun e => (by cases e), (by simpa using h.drew)⟩
theorem WBox.base (h : WBox n X w0 al st zs cs L D b w) : Mem n X w0 w L := by
  have := h.2
  split at this
  · exact this.sub (List.Sublist.cons _ (List.Sublist.refl _))
  · exact this
theorem WBox.keep (h : WBox n X w0 al st zs cs L D b w) (h1 : al ≠ k) (h2 : st ≠ k) : WBox n X w0 al st zs cs L (fun j => D j || j == k) b w := by
  have e1 : (D al || al == k) = D al := by simp [h1]
  have e2 : (D st || st == k) = D st := by simp [h2]
  unfold WBox
  simp only [e1, e2]
  exact h
theorem WBox.next (h : WBox n X w0 al st zs cs L D b w) (hb : Below w.heap.size w w1) : WBox n X w0 al st zs cs L D b w1 := ⟨h.1, h.2.next hb⟩
theorem WBox.alloc (h : WBox n X w0 al st zs cs L D b w) (hd : D al = false) (hne : st ≠ al) (hM : Mem n X w0 w1 ((b', zs) :: L)) : WBox n X w0 al st zs cs L (fun j => D j || j == al) b' w1 := by
  have e3 : D st = false := by
    rcases hs : D st with _ | _
    · rfl
    · have := h.1 hs
      rw [hd] at this
      cases this
  have e1 : (D al || al == al) = true := by simp
  have e2 : (D st || st == al) = false := by simp [e3, hne]
  unfold WBox
  simp only [e1, e2]
  exact ⟨fun _ => trivial, hM⟩
theorem WBox.on (h : WBox n X w0 al st zs cs L D b w) (hd : D al = true) (hs : D st = false) : Mem n X w0 w ((b, zs) :: L) := by
  have := h.2
  simpa [hd, hs] using this
theorem WBox.store (hd : D al = true) (hM : Mem n X w0 w1 ((b, cs) :: L)) : WBox n X w0 al st zs cs L (fun j => D j || j == st) b w1 := by
  have e1 : (D al || al == st) = true := by simp [hd]
  have e2 : (D st || st == st) = true := by simp
  unfold WBox
  simp only [e1, e2]
  exact ⟨fun _ => trivial, hM⟩
theorem WBox.done (h : WBox n X w0 al st zs cs L D b w) (hd : D al = true) (hs : D st = true) : Mem n X w0 w ((b, cs) :: L) := by
  have := h.2
  simpa [hd, hs] using this
end
end Go.Proofs.Ytkmmmnoipgdedaa
