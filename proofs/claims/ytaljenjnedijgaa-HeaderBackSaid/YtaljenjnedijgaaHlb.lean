/-
  What HeaderBack's texts are: with a trainer; one octet as a text. Over this seat's translation; no condition.
-/
import Derived.Test.YtaljenjnedijgaaHax
namespace Go.Proofs.Ytaljenjnedijgaa
open Go.RowKit

def six (c : Crt) : Int := c.m * 16 + V1 c.v + B2 c.b + F8 c.f
theorem or_four (m : Int) (hm : mapOk m = true) (v b f : Bool) : bits .or .u8 (m * 16 + V1 v + B2 b + F8 f) 4 = m * 16 + V1 v + B2 b + F8 f + 4 := by
  rcases mapOk_iff.1 hm with rfl | rfl | rfl | rfl | rfl | rfl
  all_goals cases v <;> cases b <;> cases f <;> decide
def trN (c : Crt) : List Int := [78, 69, 83, 26, c.p / 16384, givN c / 8192, six c + 4, F8 c.t, c.s * 16, 0, 0, 0, 0, 0, 0, 0]
theorem trN_in (c : Crt) (h : chkN c = 0) : ∀ x ∈ trN c, 0 ≤ x ∧ x < 256 := by
  obtain ⟨hm, hp, hk, ho, s0, s1, hts⟩ := chkN_zero.1 h
  rw [prgOk_iff] at hp
  rw [mapOk_iff] at hm
  rw [chrOk_iff] at hk
  have p0 : 0 ≤ c.p ∧ c.p ≤ 524288 := by omega
  have m0 : 0 ≤ c.m ∧ c.m ≤ 7 := by omega
  have k0 : 0 ≤ c.k ∧ c.k ≤ 262144 := by omega
  clear hp hm hk
  have hv := V1_in c.v
  have hb := B2_in c.b
  have hf := F8_in c.f
  have ht := F8_in c.t
  have hg : 0 ≤ givN c ∧ givN c ≤ 262144 := by unfold givN; split <;> omega
  intro x hx
  simp only [trN, six, List.mem_cons, List.not_mem_nil, or_false] at hx
  omega
theorem trS_size (c : Crt) : (strOfNums (trN c)).size = 16 := by
  rw [strOfNums_size]
  rfl
theorem whole_trained (c : Crt) (h : chkN c = 0) (r : ByteArray) : hdrC (strOfNums (trN c) ++ r) = c ∧ wholeE (strOfNums (trN c) ++ r) = if 512 + c.p + givN c ≤ (r.size : Int) then 0 else 5 := by
  have hin := trN_in c h
  have hsz : (strOfNums (trN c) ++ r).size = 16 + r.size := by rw [ByteArray.size_append, trS_size]
  have o : ∀ i, i < 16 → oct (strOfNums (trN c) ++ r) i = (trN c).getD i 0 := fun i hi => by rw [oct_append _ _ _ (by rw [trS_size]; exact hi)]; exact oct_nums _ _ hin
  obtain ⟨h1, h2, h3⟩ := hdr_back c h (strOfNums (trN c) ++ r) 1 (.inr rfl) (by omega) (o 0 (by omega)) (o 1 (by omega)) (o 2 (by omega)) (o 3 (by omega)) (o 4 (by omega)) (o 5 (by omega)) (by rw [o 6 (by omega)]; rfl) (o 7 (by omega)) (o 8 (by omega)) (o 9 (by omega))
  have hat : atN (strOfNums (trN c) ++ r) = 528 := by unfold atN; rw [h3]; rfl
  refine ⟨h2, ?_⟩
  unfold wholeE
  rw [if_pos h1, h2, if_pos h, hat, hsz]
  by_cases hle : 512 + c.p + givN c ≤ (r.size : Int)
  · rw [if_pos (by omega), if_pos hle]
  · rw [if_neg (by omega), if_neg hle]
theorem trained_eq (c : Crt) : (mkS c).extract 0 6 ++ strOfNums [six c + 4] ++ (mkS c).extract 7 16 = strOfNums (trN c) := by
  apply Go.WideShapes.bytes_inj
  simp [mkS, mkN, trN, six, strOfNums]
theorem conv_one (W : World) (q : Int) : (convert 30 9 (.slice (some ⟨W.heap.size, 0, none⟩) 1 1)).run Try.prog (W.alloc (.cells #[.int .u8 q] 5)) = .ok (.string (strOfNums [q])) (W.alloc (.cells #[.int .u8 q] 5)) :=
  run_convert_bytes_arg (P := Try.prog) _ 30 5 Try.underlying30 Try.underlying5 W.heap.size 0 1 1 [q] rfl (fun i hi => by
    rw [Nat.zero_add, Lib.cell_of_heap (World.alloc_heap_new W _)]
    match i, hi with
    | 0, _ => rfl) _ Try.underlying9
theorem conv_one_drew (W : World) (q : Int) : (convert 30 9 (.slice (some ⟨W.heap.size, 0, none⟩) 1 1)).run Try.prog (W.alloc (.cells #[.int .u8 q] 5)).drew = .ok (.string (strOfNums [q])) (W.alloc (.cells #[.int .u8 q] 5)).drew :=
  run_convert_bytes_arg (P := Try.prog) _ 30 5 Try.underlying30 Try.underlying5 W.heap.size 0 1 1 [q] rfl (fun i hi => by
    rw [Nat.zero_add]
    show (W.alloc _).cell? _ = _
    rw [Lib.cell_of_heap (World.alloc_heap_new W _)]
    match i, hi with
    | 0, _ => rfl) _ Try.underlying9
end Go.Proofs.Ytaljenjnedijgaa
