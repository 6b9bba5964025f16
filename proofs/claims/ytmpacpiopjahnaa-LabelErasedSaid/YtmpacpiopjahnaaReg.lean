/-
  A statement that leaves its order open, by an invariant: what holds of the operations that are done, of the slots, and of memory. No condition on the program.
-/
import Derived.Test.YtmpacpiopjahnaaLbl
namespace Go.Proofs.Ytmpacpiopjahnaa
open Go.RowKit

/-- How many operations are still to come. -/
def stillTo (n : Nat) (listed : Array Bool) : Nat := ((List.range n).filter fun i => !listed.getD i true).length
theorem getD_set (listed : Array Bool) (i j : Nat) : (listed.setIfInBounds i true).getD j true = if i = j then true else listed.getD j true := by
  simp only [Array.getD_eq_getD_getElem?, Array.getElem?_setIfInBounds]
  by_cases h : i = j
  · subst h
    by_cases hl : i < listed.size <;> simp [hl]
  · simp [h]
theorem stillTo_set (listed : Array Bool) (i : Nat) : ∀ n, stillTo n (listed.setIfInBounds i true) + (if i < n ∧ listed.getD i true = false then 1 else 0) = stillTo n listed := by
  intro n
  induction n with
  | zero => simp [stillTo]
  | succ n ih =>
    unfold stillTo at ih ⊢
    rw [List.range_succ, List.filter_append, List.filter_append, List.length_append, List.length_append, ← ih]
    simp only [List.filter_cons, List.filter_nil, getD_set]
    by_cases h : i = n
    · subst h
      by_cases hb : listed.getD i true = false
      · simp [hb]
      · have hb' : listed.getD i true = true := by simpa using hb
        simp [hb']
    · have e : (i < n + 1 ∧ listed.getD i true = false) ↔ (i < n ∧ listed.getD i true = false) := by constructor <;> (rintro ⟨h1, h2⟩; exact ⟨by omega, h2⟩)
      simp only [if_neg h, e]
      omega
theorem ready_lt {md : Region.Mode} {ops : Array Oper} {listed : Array Bool} {i : Nat} (h : i ∈ Region.ready md ops listed) : i < ops.size ∧ listed.getD i true = false := by
  unfold Region.ready at h
  rw [List.mem_filter, List.mem_range] at h
  refine ⟨h.1, ?_⟩
  have := h.2
  simp only [Bool.and_eq_true, Bool.not_eq_true'] at this
  exact this.1
theorem ready_nil {md : Region.Mode} {ops : Array Oper} {listed : Array Bool} (h : stillTo ops.size listed = 0) : Region.ready md ops listed = [] := by
  rw [List.eq_nil_iff_forall_not_mem]
  intro i hi
  obtain ⟨h1, h2⟩ := ready_lt hi
  have := stillTo_set listed i ops.size
  rw [if_pos ⟨h1, h2⟩] at this
  omega
/-- What an operation that may come up waits for is done. -/
theorem ready_dep {md : Region.Mode} {ops : Array Oper} {listed : Array Bool} {i : Nat} (h : i ∈ Region.ready md ops listed) (j : Nat)
    (hd : ((ops[i]?).map fun o => o.after.any fun e => Region.binds md e && e.on == j).getD false = true) : listed.getD j false = true := by
  unfold Region.ready at h
  rw [List.mem_filter] at h
  have h2 := h.2
  simp only [Bool.and_eq_true] at h2
  obtain ⟨_, h3⟩ := h2
  cases ho : ops[i]? with
  | none => rw [ho] at hd; simp at hd
  | some o =>
    rw [ho] at hd h3
    simp only [Option.map_some, Option.getD_some] at hd h3
    rw [Array.any_eq_true'] at hd
    obtain ⟨e, he, hb⟩ := hd
    rw [Array.all_eq_true'] at h3
    have := h3 e he
    simp only [Bool.and_eq_true, beq_iff_eq] at hb
    rw [hb.1, hb.2] at this
    simpa using this
/-- The region by its invariant. -/
theorem wpAny_inv {P : Program} {md : Region.Mode} {ops : Array Oper} {Q : Exit → Act → World → Prop} (Inv : Array Bool → Act → World → Prop)
    (hstep : ∀ (listed : Array Bool) (a : Act) (w : World) (i : Nat), Inv listed a w → i ∈ Region.ready md ops listed → wpOp P ops Q i (Inv (listed.setIfInBounds i true)) a w)
    (hend : ∀ (listed : Array Bool) (a : Act) (w : World), Inv listed a w → Region.ready md ops listed = [] → Q .normal a w) :
    ∀ (fuel : Nat) (listed : Array Bool) (a : Act) (w : World), Inv listed a w → stillTo ops.size listed ≤ fuel → wpAnyH P md ops Q (fun _ => True) fuel listed a w
  | 0, listed, a, w, hi, hf => ⟨ready_nil (by omega), hend listed a w hi (ready_nil (by omega))⟩
  | fuel + 1, listed, a, w, hi, hf => ⟨fun h => hend listed a w hi h, fun i hr => by
      refine wpOp_mono (fun a' w' h' => ⟨trivial, wpAny_inv Inv hstep hend fuel _ a' w' h' ?_⟩) (hstep listed a w i hi hr)
      have h1 := stillTo_set listed i ops.size
      rw [if_pos (ready_lt hr)] at h1
      omega⟩
theorem wp_region_inv {P : Program} {ops : Array Oper} {Q : Exit → Act → World → Prop} {id : Nat} {a : Act} {w : World} (hm : P.follows .mixedOrders = true) (Inv : Array Bool → Act → World → Prop)
    (h0 : Inv (Array.replicate ops.size false) a w.drew)
    (hstep : ∀ (listed : Array Bool) (a : Act) (w : World) (i : Nat), Inv listed a w → i ∈ Region.ready .any ops listed → wpOp P ops Q i (Inv (listed.setIfInBounds i true)) a w)
    (hend : ∀ (listed : Array Bool) (a : Act) (w : World), Inv listed a w → Region.ready .any ops listed = [] → Q .normal a w) : (Code.region id ops true).wp P Q a w :=
  wp_region_held_drew (S := fun _ => True) hm trivial fun _ => wpAny_inv Inv hstep hend _ _ _ _ h0 (Nat.le_trans (List.length_filter_le _ _) (by rw [List.length_range]; exact Nat.le_refl _))
/-- One operation, handed over behind a continuation that no tactic looks into. -/
theorem wpOp_cons {P : Program} {ops : Array Oper} {Q : Exit → Act → World → Prop} {i : Nat} {K : Act → World → Prop} {a : Act} {w : World} {o : Oper} (ho : ops[i]? = some o)
    (h : ∀ K' : Act → World → Prop, Shut (∀ a w, K a w → K' a w) → if Region.wanted o (yielded ops a.tmps) = true then Oper.wp P o a w K' Q else K' (a.put o.dst undef) w) : wpOp P ops Q i K a w := by
  have := h K (fun _ _ h => h)
  unfold wpOp
  rw [ho]
  show if Region.wanted o (yielded ops a.tmps) = true then Oper.wp P o a w K Q ∨ (o.asks P a w ∧ LetsOut Q) else K (a.put o.dst undef) w
  split
  · rename_i hw; rw [if_pos hw] at this; exact .inl this
  · rename_i hw; rw [if_neg hw] at this; exact this
theorem set_imp {listed : Array Bool} {i j : Nat} (h : (listed.setIfInBounds i true).getD j false = true) (hn : j ≠ i) : listed.getD j false = true := by
  simp only [Array.getD_eq_getD_getElem?, Array.getElem?_setIfInBounds, if_neg (Ne.symm hn)] at h ⊢
  exact h
/-- Where nothing may come up any more each operation whose forerunners are done is done. -/
theorem ready_all {md : Region.Mode} {ops : Array Oper} {listed : Array Bool} (h : Region.ready md ops listed = []) (hs : listed.size = ops.size) (i : Nat) {o : Oper} (ho : ops[i]? = some o)
    (hd : (o.after.all fun e => !Region.binds md e || listed.getD e.on false) = true) : listed.getD i false = true := by
  have hi : i < ops.size := (Array.getElem?_eq_some_iff.1 ho).1
  by_cases hl : listed.getD i true = true
  · have e : listed[i]? = some (listed[i]'(by omega)) := Array.getElem?_eq_getElem (by omega)
    simp only [Array.getD_eq_getD_getElem?, e, Option.getD_some] at hl ⊢
    exact hl
  · have : i ∈ Region.ready md ops listed := by
      unfold Region.ready
      rw [List.mem_filter, List.mem_range]
      refine ⟨hi, ?_⟩
      rw [ho]
      simp only [Option.map_some, Option.getD_some, hd, Bool.and_true]
      simpa using hl
    rw [h] at this
    cases this
theorem set_mono {listed : Array Bool} {i j : Nat} (h : listed.getD j false = true) : (listed.setIfInBounds i true).getD j false = true := by
  simp only [Array.getD_eq_getD_getElem?, Array.getElem?_setIfInBounds] at h ⊢
  by_cases e : i = j
  · subst e
    by_cases hl : i < listed.size
    · simp [hl]
    · simp [hl] at h
  · rw [if_neg e]; exact h
theorem not_both {listed : Array Bool} {i : Nat} (h : listed.getD i true = false) (h' : listed.getD i false = true) : False := by
  simp only [Array.getD_eq_getD_getElem?] at h h'
  cases e : listed[i]? with
  | none => rw [e] at h; simp at h
  | some v => rw [e] at h h'; simp at h h'; rw [h] at h'; cases h'
end Go.Proofs.Ytmpacpiopjahnaa
