/-
  What is made is read back: plain maths of headers and of texts put together. No condition on the program.
-/
import Derived.Test.YtaljenjnedijgaaHmk
namespace Go.Proofs.Ytaljenjnedijgaa

theorem oct_append (a b : ByteArray) (i : Nat) (h : i < a.size) : oct (a ++ b) i = oct a i := by
  unfold oct
  have e : (a ++ b).data.toList = a.data.toList ++ b.data.toList := by simp
  have hl : a.data.toList.length = a.size := by simp
  rw [e, List.getD_eq_getElem?_getD, List.getD_eq_getElem?_getD, List.getElem?_append_left (by omega)]
theorem oct_nums (l : List Int) (i : Nat) (h : ∀ x ∈ l, 0 ≤ x ∧ x < 256) : oct (strOfNums l) i = l.getD i 0 := by
  unfold oct
  rw [strOfNums_data, List.getD_eq_getElem?_getD, List.getD_eq_getElem?_getD, List.getElem?_map]
  cases hi : l[i]? with
  | none => rfl
  | some x =>
    have := h x (List.mem_of_getElem? hi)
    simp
    omega
theorem V1_in (v : Bool) : V1 v = 0 ∨ V1 v = 1 := by unfold V1; split <;> simp
theorem B2_in (v : Bool) : B2 v = 0 ∨ B2 v = 2 := by unfold B2; split <;> simp
theorem F8_in (v : Bool) : F8 v = 0 ∨ F8 v = 8 := by unfold F8; split <;> simp
theorem mkN_in (c : Crt) (h : chkN c = 0) : ∀ x ∈ mkN c, 0 ≤ x ∧ x < 256 := by
  obtain ⟨hm, hp, hk, ho, s0, s1, hts⟩ := chkN_zero.1 h
  rw [prgOk_iff] at hp
  rw [mapOk_iff] at hm
  rw [chrOk_iff] at hk
  have p0 : 0 ≤ c.p ∧ c.p ≤ 524288 := by omega
  have m0 : 0 ≤ c.m ∧ c.m ≤ 7 := by omega
  have k0 : 0 ≤ c.k ∧ c.k ≤ 262144 := by omega
  clear hp hm hk
  have hv := V1_in c.v
  have hb := B2_in c.b
  have hf := F8_in c.f
  have ht := F8_in c.t
  have hg : 0 ≤ givN c ∧ givN c ≤ 262144 := by unfold givN; split <;> omega
  intro x hx
  simp only [mkN, List.mem_cons, List.not_mem_nil, or_false] at hx
  omega
theorem mkS_size (c : Crt) : (mkS c).size = 16 := by
  unfold mkS
  rw [strOfNums_size]
  rfl
set_option maxHeartbeats 1000000 in
/-- What begins as a made header does, but for its trainer's bit (tr), is read as what it was made of. -/
theorem hdr_back (c : Crt) (h : chkN c = 0) (s : ByteArray) (tr : Int) (htr : tr = 0 ∨ tr = 1) (hs : 16 ≤ s.size) (o0 : oct s 0 = 78) (o1 : oct s 1 = 69) (o2 : oct s 2 = 83) (o3 : oct s 3 = 26) (o4 : oct s 4 = c.p / 16384)
    (o5 : oct s 5 = givN c / 8192) (o6 : oct s 6 = c.m * 16 + V1 c.v + B2 c.b + F8 c.f + 4 * tr) (o7 : oct s 7 = F8 c.t) (o8 : oct s 8 = c.s * 16) (o9 : oct s 9 = 0) :
    magB s = true ∧ hdrC s = c ∧ trnN s = 512 * tr := by
  obtain ⟨hm, hp, hk, ho, s0, s1, hts⟩ := chkN_zero.1 h
  rw [prgOk_iff] at hp
  rw [mapOk_iff] at hm
  rw [chrOk_iff] at hk
  have p0 : 0 < c.p := by omega
  have p4 : c.p % 16384 = 0 := by omega
  have k0 : 0 < c.k := by omega
  have k4 : c.k % 8192 = 0 := by omega
  have m0 : 0 ≤ c.m := by omega
  have m1 : c.m ≤ 7 := by omega
  clear hp hm hk
  have hv := V1_in c.v
  have hb := B2_in c.b
  have hf := F8_in c.f
  refine ⟨by unfold magB; rw [o0, o1, o2, o3]; simp [hs], ?_, ?_⟩
  · have h7 : secK (F8 c.t) = c.t := by cases c.t <;> rfl
    have e9 : y9 s = 0 := by unfold y9; rw [o9]; split <;> rfl
    have e8 : y8 s = c.s * 16 := by
      unfold y8
      rw [o7, h7, o8]
      rcases hts with ht | ht
      · rw [if_pos ht]
      · rw [ht]; split <;> rfl
    have ep : amt (c.p / 16384) 0 16384 = c.p := by unfold amt; rw [if_neg (by decide)]; omega
    have ek : amt (givN c / 8192) 0 8192 = givN c := by
      unfold amt
      rw [if_neg (by decide)]
      unfold givN
      split <;> omega
    have z1 : (0 : Int) % 16 = 0 := rfl
    have z2 : (0 : Int) / 16 = 0 := rfl
    have hF : F8 c.t = 0 ∨ F8 c.t = 8 := F8_in c.t
    have eM : c.s * 16 % 16 * 256 + F8 c.t / 16 * 16 + (c.m * 16 + V1 c.v + B2 c.b + F8 c.f + 4 * tr) / 16 = c.m := by omega
    have eS : c.s * 16 / 16 = c.s := by omega
    have eK : (if givN c = 0 then 8192 else givN c) = c.k := by
      unfold givN
      cases hoo : c.o
      · simp; omega
      · simp [ho hoo]
    have eO : decide (givN c = 0) = c.o := by
      unfold givN
      cases hoo : c.o
      · simp; omega
      · simp
    have eB : decide ((c.m * 16 + V1 c.v + B2 c.b + F8 c.f + 4 * tr) / 2 % 2 = 1) = c.b := by
      cases hcb : c.b
      · have : B2 false = 0 := rfl
        rw [decide_eq_false_iff_not, this]; clear hb; omega
      · have : B2 true = 2 := rfl
        rw [decide_eq_true_eq, this]; clear hb; omega
    have eF : decide ((c.m * 16 + V1 c.v + B2 c.b + F8 c.f + 4 * tr) / 8 % 2 = 1) = c.f := by
      cases hcf : c.f
      · have : F8 false = 0 := rfl
        rw [decide_eq_false_iff_not, this]; clear hf; omega
      · have : F8 true = 8 := rfl
        rw [decide_eq_true_eq, this]; clear hf; omega
    have eV : decide ((c.m * 16 + V1 c.v + B2 c.b + F8 c.f + 4 * tr) % 2 = 1) = c.v := by
      cases hcv : c.v
      · have : V1 false = 0 := rfl
        rw [decide_eq_false_iff_not, this]; clear hv; omega
      · have : V1 true = 1 := rfl
        rw [decide_eq_true_eq, this]; clear hv; omega
    unfold hdrC crtOf
    rw [o4, o5, o6, o7, e8, e9, z1, z2, ep, ek, h7, eM, eS, eK, eO, eB, eF, eV]
  · unfold trnN
    rw [o6]
    rcases htr with rfl | rfl
    · rw [if_neg (by omega)]; rfl
    · rw [if_pos (by omega)]; rfl
/-- The error of what is made, with whatever stands behind. -/
theorem whole_made (c : Crt) (h : chkN c = 0) (r : ByteArray) : hdrC (mkS c ++ r) = c ∧ atN (mkS c ++ r) = 16 ∧ wholeE (mkS c ++ r) = if c.p + givN c ≤ (r.size : Int) then 0 else 5 := by
  have hin := mkN_in c h
  have hsz : (mkS c ++ r).size = 16 + r.size := by rw [ByteArray.size_append, mkS_size]
  have o : ∀ i, i < 16 → oct (mkS c ++ r) i = (mkN c).getD i 0 := fun i hi => by rw [oct_append _ _ _ (by rw [mkS_size]; exact hi)]; exact oct_nums _ _ hin
  obtain ⟨h1, h2, h3⟩ := hdr_back c h (mkS c ++ r) 0 (.inl rfl) (by omega) (o 0 (by omega)) (o 1 (by omega)) (o 2 (by omega)) (o 3 (by omega)) (o 4 (by omega)) (o 5 (by omega)) (by rw [o 6 (by omega)]; simp [mkN]) (o 7 (by omega)) (o 8 (by omega)) (o 9 (by omega))
  have hat : atN (mkS c ++ r) = 16 := by unfold atN; rw [h3]; rfl
  refine ⟨h2, hat, ?_⟩
  unfold wholeE
  rw [if_pos h1, h2, if_pos h, hat, hsz]
  by_cases hle : c.p + givN c ≤ (r.size : Int)
  · rw [if_pos (by omega), if_pos hle]
  · rw [if_neg (by omega), if_neg hle]
/-- n zeros. -/
def zS (n : Nat) : ByteArray := strOfNums (List.replicate n 0)
theorem zS_size (n : Nat) : (zS n).size = n := by unfold zS; rw [strOfNums_size]; simp
end Go.Proofs.Ytaljenjnedijgaa
