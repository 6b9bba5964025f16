/-
  A statement that leaves its order open, with one box beside its quiet operations, its operations written out. No condition on the program.
-/
import Derived.Test.YtphnpahjofacfaaAlo
namespace Go.Proofs.Ytphnpahjofacfaa
open Go.RowKit

section
variable {P : Program}
/-- The same for a region whose operations are written out: n quiet ones, one box, whose slot is d, and what stands behind. -/
theorem wp_region_box1 {id : Nat} {Q : Exit → Act → World → Prop} {a : Act} {w : World} {L : List Oper} (n : Nat) (d : Tmp) (T : TypeId) (O : Obj) (hm : P.follows .mixedOrders = true)
    (hB : aloB P (L.take n) ((L.drop n).take 1) ((L.drop n).drop 1) = true) (hd : (slotOf ((L.drop n).take 1) 0 == d && ((L.drop n).take 1).length == 1) = true)
    (hop : ((L.drop n).take 1).map (fun o => o.op) = [Op.alloc T])
    (hal : ∀ o : Oper, o.op = .alloc T → ∀ (ρ : Operand → Value) (w : World), (execOp ρ o).run P w = .ok (.value (ptrTo w.heap.size)) (w.alloc O))
    (h : ∀ w2, Below w.heap.size w w2 → wpQuiet P L.toArray (fun w' => ∃ p : Regrown, w' = Go.Sort.grow (redrawn w2 p.d) p.os) (fun a' => ∀ b w', Below w.heap.size w w' → w.heap.size ≤ b → b < w'.heap.size → w'.heap[b]? = some O →
      wpList P L.toArray Q ((L.drop n).drop 1) (a'.put (some d) (ptrTo b)) w') (L.take n) a) :
    (Code.region id L.toArray true).wp P Q a w := by
  rw [Bool.and_eq_true, beq_iff_eq, beq_iff_eq] at hd
  obtain ⟨hd, hl⟩ := hd
  have hL : L = L.take n ++ (L.drop n).take 1 ++ (L.drop n).drop 1 := by rw [List.append_assoc, List.take_append_drop, List.take_append_drop]
  obtain ⟨l, m, t, e1, e2, e3⟩ : ∃ l m t, L.take n = l ∧ (L.drop n).take 1 = m ∧ (L.drop n).drop 1 = t := ⟨_, _, _, rfl, rfl, rfl⟩
  rw [e1, e2, e3] at hL hB
  rw [e2] at hd hl hop
  rw [e1, e3] at h
  subst hL
  refine wp_region_alo (fun _ => O) hm hB (fun k o ho => hal o (by
    have : o.op ∈ m.map (fun o => o.op) := List.mem_map_of_mem (List.mem_of_getElem? ho)
    rw [hop] at this
    simpa using this)) fun w2 hw2 => ?_
  have hr : ∀ (q : List Oper) (a : Act) (R R' : Act → Prop), (∀ a, R a → R' a) → wpQuiet P (l ++ m ++ t).toArray (ClassOf w2) R q a → wpQuiet P (l ++ m ++ t).toArray (ClassOf w2) R' q a := by
    intro q
    induction q with
    | nil => intro a R R' hR h; exact hR a h
    | cons p q ih =>
      intro a R R' hR h
      unfold wpQuiet at h ⊢
      split
      · rename_i hw
        rw [if_pos hw] at h
        exact Oper.quiet_mono (fun a' => ih a' R R' hR) h
      · rename_i hw
        rw [if_neg hw] at h
        exact ih _ R R' hR h
  refine hr l a _ _ (fun a' ha β w' hM => ?_) (h w2 hw2)
  have hin : 0 ∈ List.range m.length := List.mem_range.2 (by omega)
  obtain ⟨g1, g2, g3⟩ := hM.at_ 0 hin
  have := ha (β 0) w' hM.below g1 g2 g3
  rw [hl]
  show wpList P _ Q t (a'.put (some (slotOf m 0)) (ptrTo (β 0))) w'
  rw [hd]
  exact this
end
end Go.Proofs.Ytphnpahjofacfaa
