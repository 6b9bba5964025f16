/-
  What ScriptMore leans on, without any world: alike goes both ways; a script is alike to itself; to no secrets just the same is alike; to more secrets what is alike stays so.
-/
import Derived.Test.YtdafilfnmdfacaaSca
import Derived.Test.YtdafilfnmdfacaaSrh
namespace Go.Proofs.Ytdafilfnmdfacaa
open Go.RowKit
set_option linter.unusedSimpArgs false
set_option linter.unusedVariables false

theorem agree_comm (low : Nat → Bool) (x y : ByteArray) : agreeB low x y = agreeB low y x := by
  rw [Bool.eq_iff_iff, agree_iff, agree_iff]
  constructor
  · rintro ⟨h, g⟩; exact ⟨h.symm, fun k hk => (g k (by omega)).imp Eq.symm id⟩
  · rintro ⟨h, g⟩; exact ⟨h.symm, fun k hk => (g k (by omega)).imp Eq.symm id⟩
theorem agree_self (low : Nat → Bool) (x : ByteArray) : agreeB low x x = true := agree_yes low x x rfl fun _ _ => .inl rfl
theorem agree_mono {low low' : Nat → Bool} {x y : ByteArray} (h : ∀ k, low k = false → low' k = false) (ha : agreeB low x y = true) : agreeB low' x y = true := by
  obtain ⟨h1, h2⟩ := (agree_iff _ _ _).1 ha
  exact (agree_iff _ _ _).2 ⟨h1, fun k hk => (h2 k hk).imp id (h k)⟩
theorem bytes_ext {x y : ByteArray} (h1 : x.size = y.size) (h2 : ∀ k, k < x.size → byteAt x k = byteAt y k) : x = y := by
  have e : x.data = y.data := by
    apply Array.ext h1
    intro i hi hi2
    have h := h2 i hi
    rw [byteAt_lt x i hi, byteAt_lt y i hi2] at h
    have h3 : (x[i]'hi).toNat = (y[i]'hi2).toNat := by omega
    exact UInt8.toNat_inj.1 h3
  cases x; cases y
  simp only at e
  rw [e]
theorem agree_all (x y : ByteArray) (low : Nat → Bool) (hl : ∀ k, low k = true) : agreeB low x y = decide (x = y) := by
  rw [Bool.eq_iff_iff, agree_iff, decide_eq_true_eq]
  constructor
  · rintro ⟨h, g⟩
    exact bytes_ext h fun k hk => (g k hk).elim id fun e => by rw [hl k] at e; cases e
  · rintro rfl; exact ⟨rfl, fun _ _ => .inl rfl⟩
theorem eqL_comm {α : Type} [DecidableEq α] (l m : List α) : eqL l m = eqL m l := by
  unfold eqL; rw [Bool.eq_iff_iff, decide_eq_true_eq, decide_eq_true_eq]; exact eq_comm
section
variable (p q : Bool) (ra sa : List (Int × Int)) (a s m : ByteArray) (l : List Int) (b t n : ByteArray) (l2 : List Int)
theorem alike_comm : scrAlike p q ra sa a s m l b t n l2 = scrAlike p q ra sa b t n l2 a s m l := by
  unfold scrAlike agP agS
  rw [agree_comm _ a b, agree_comm _ s t, agree_comm _ m n, eqL_comm l l2]
  cases decide (okC (polMay ra sa) (scrMay a l s m) = 0) <;> cases decide (okC (polMay ra sa) (scrMay b l2 t n) = 0) <;> rfl
theorem okC_yes (hp : polMay ra sa = true) (hs : scrMay a l s m = true) : decide (okC (polMay ra sa) (scrMay a l s m) = 0) = true := by
  rw [hp, hs]; rfl
theorem alike_self (hp : polMay ra sa = true) (hs : scrMay a l s m = true) : scrAlike p q ra sa a s m l a s m l = true := by
  unfold scrAlike agP agS
  rw [okC_yes ra sa a s m l hp hs, eqL_self, agree_self, agree_self, agree_self]; rfl
theorem alike_none (hs : scrMay a l s m = true) (ht : scrMay b l2 t n = true) : scrAlike false false [] [] a s m l b t n l2 = sameS a s m l b t n l2 := by
  unfold scrAlike agP agS sameS
  rw [okC_yes [] [] a s m l rfl hs, okC_yes [] [] b t n l2 rfl ht, agree_all a b _ (fun k => by cases k % 2 <;> simp), agree_all s t _ (fun k => by simp [inB]), agree_all m n _ (fun k => by simp [inB])]
  cases decide (a = b) <;> cases eqL l l2 <;> cases decide (s = t) <;> cases decide (m = n) <;> rfl
theorem alike_more (p2 q2 : Bool) (rb sb TA TB : List (Int × Int)) (hA : Tidied (ra ++ rb) TA) (hB : Tidied (sa ++ sb) TB) (hm : polMay TA TB = true) (h : scrAlike p q ra sa a s m l b t n l2 = true) : scrAlike (p || p2) (q || q2) TA TB a s m l b t n l2 = true := by
  unfold scrAlike at h ⊢
  simp only [Bool.and_eq_true] at h ⊢
  obtain ⟨h1, h2, h3, h4, h5, h6⟩ := h
  have f : ∀ {x : Bool}, decide (okC (polMay ra sa) x = 0) = true → decide (okC (polMay TA TB) x = 0) = true := fun {x} hx => by
    rw [hm]
    cases hp : polMay ra sa
    · rw [hp] at hx; simp [okC] at hx
    · rw [hp] at hx; exact hx
  have low : ∀ (L M T : List (Int × Int)), Tidied (L ++ M) T → ∀ k : Nat, (!inB L k) = false → (!inB T k) = false := fun L M T hT k hk => by
    rw [hT.2, inB_append]
    simp at hk ⊢
    intro e; rw [hk] at e; cases e
  refine ⟨f h1, f h2, h3, agree_mono (fun k hk => ?_) h4, agree_mono (low _ _ _ hB) h5, agree_mono (low _ _ _ hA) h6⟩
  split <;> rename_i hk2
  · rw [if_pos hk2] at hk; simp at hk ⊢; intro e; rw [hk] at e; cases e
  · rw [if_neg hk2] at hk; simp at hk ⊢; intro e; rw [hk] at e; cases e
end
theorem more_area {n : Int} {a b T : List (Int × Int)} (h : Tidied (a ++ b) T) (ha : areaMay n a = true) (hb : areaMay n b = true) : areaMay n T = true := by
  have no : ∀ l : List (Int × Int), areaMay n l = true → ∀ r ∈ l, ¬ n ≤ r.2 := fun l hl r hr hn => by
    unfold areaMay at hl
    simp only [Bool.and_eq_true, Bool.not_eq_true'] at hl
    have : topB n l = true := List.any_eq_true.2 ⟨r, hr, by simpa using hn⟩
    rw [hl.2] at this
    cases this
  have ht : topB n T = false := by
    rw [Bool.eq_false_iff]
    intro hc
    obtain ⟨r, hr, hn⟩ := List.any_eq_true.1 hc
    have hn : n ≤ r.2 := by simpa using hn
    have hw := (wholeB_iff r).1 (List.all_eq_true.1 (mayB_wholes T 0 h.1) r hr)
    have hin : inB T r.2 = true := (inB_iff T r.2).2 ⟨r, hr, hw.2.1, Int.le_refl _⟩
    rw [h.2] at hin
    obtain ⟨s, hs, h1, h2⟩ := (inB_iff _ _).1 hin
    rcases List.mem_append.1 hs with hs | hs
    · exact no a ha s hs (by omega)
    · exact no b hb s hs (by omega)
  unfold areaMay
  rw [h.1, ht]; rfl
theorem more_pol {ra sa rb sb TA TB : List (Int × Int)} (hA : Tidied (ra ++ rb) TA) (hB : Tidied (sa ++ sb) TB) (h1 : polMay ra sa = true) (h2 : polMay rb sb = true) : polMay TA TB = true := by
  unfold polMay at *
  simp only [Bool.and_eq_true] at *
  exact ⟨more_area hA h1.1 h2.1, more_area hB h1.2 h2.2⟩
theorem pol_wholes {ra sa : List (Int × Int)} (h : polMay ra sa = true) : ra.all wholeB = true ∧ sa.all wholeB = true := by
  unfold polMay areaMay at h
  simp only [Bool.and_eq_true] at h
  exact ⟨mayB_wholes ra 0 h.1.1, mayB_wholes sa 0 h.2.1⟩
end Go.Proofs.Ytdafilfnmdfacaa
