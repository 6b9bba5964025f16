/-
  Package mapper's Check. Over this seat's translation; no condition.
-/
import Derived.Test.YtodmhmkbiafahaaMck
import Derived.Outline
namespace Go.Proofs.Ytodmhmkbiafahaa
open Go.RowKit

def max2 (x y : Int) : Int := if y > x then y else x
theorem run_max5 {P : Program} {w : World} (ts : Array TypeId) (t : TypeId) (a b c d e : Int) : (Builtin.max_ ts t #[.int .u8 a, .int .u8 b, .int .u8 c, .int .u8 d, .int .u8 e]).run P w = .ok (.int .u8 (max2 (max2 (max2 (max2 a b) c) d) e)) w := by
  simp [Builtin.max_, Builtin.max2, max2]
theorem max2_le {x y n : Int} : n ≤ max2 x y ↔ n ≤ x ∨ n ≤ y := by unfold max2; split <;> omega
def errB (b : Bool) : Int := if b = true then 0 else 1
set_option maxHeartbeats 1000000 in
theorem mcheck_ct (m : Mp) (w : World) : Calls Try.prog 21 #[mpV m] w fun e w' => e = .returned (.int .i64 (errB (mayB m))) ∧ Below w.heap.size w w' := by
  have HK := Lib.hid (fun wr => mknown_ct m.k wr)
  have H := Mem.start w
  have hmx := fun W => run_max5 (P := Try.prog) (w := W) #[5, 5, 5, 5, 5] 5 m.sh m.cl m.c0 m.c1 m.pr
  have h32 : 32 ≤ max2 (max2 (max2 (max2 m.sh m.cl) m.c0) m.c1) m.pr ↔ 32 ≤ m.sh ∨ 32 ≤ m.cl ∨ 32 ≤ m.c0 ∨ 32 ≤ m.c1 ∨ 32 ≤ m.pr := by
    rw [max2_le, max2_le, max2_le, max2_le]; omega
  obtain ⟨g, hg⟩ : ∃ g, max2 (max2 (max2 (max2 m.sh m.cl) m.c0) m.c1) m.pr = g := ⟨_, rfl⟩
  rw [hg] at hmx h32
  clear hg
  obtain ⟨E, hE⟩ : ∃ E, errB (mayB m) = E := ⟨_, rfl⟩
  rw [hE]
  unfold errB mayB at hE
  simp only [Bool.and_eq_true, decide_eq_true_eq] at hE
  have hcase : (mapOk m.k = false ∧ E = 1) ∨ (mapOk m.k = true ∧ decide (32 ≤ g) = true ∧ E = 1) ∨ (mapOk m.k = true ∧ decide (32 ≤ g) = false ∧ decide (5 ≤ m.ct) = true ∧ E = 1) ∨
      (mapOk m.k = true ∧ decide (32 ≤ g) = false ∧ decide (5 ≤ m.ct) = false ∧ decide (m.lo < 0) = true ∧ E = 1) ∨ (mapOk m.k = true ∧ decide (32 ≤ g) = false ∧ decide (5 ≤ m.ct) = false ∧ decide (m.lo < 0) = false ∧ decide (100 < m.lo) = true ∧ E = 1) ∨
      (mapOk m.k = true ∧ decide (32 ≤ g) = false ∧ decide (5 ≤ m.ct) = false ∧ decide (m.lo < 0) = false ∧ decide (100 < m.lo) = false ∧ E = 0) := by
    simp only [decide_eq_true_eq, decide_eq_false_iff_not]
    cases hk : mapOk m.k
    · left
      rw [hk] at hE
      simp at hE
      exact ⟨rfl, hE.symm⟩
    · right
      rw [hk] at hE
      simp only [true_and] at hE
      by_cases h1 : 32 ≤ g
      · left; exact ⟨rfl, h1, by rw [if_neg (by omega)] at hE; omega⟩
      · right
        by_cases h2 : 5 ≤ m.ct
        · left; exact ⟨rfl, h1, h2, by rw [if_neg (by omega)] at hE; omega⟩
        · right
          by_cases h3 : m.lo < 0
          · left; exact ⟨rfl, h1, h2, h3, by rw [if_neg (by omega)] at hE; omega⟩
          · right
            by_cases h4 : 100 < m.lo
            · left; exact ⟨rfl, h1, h2, h3, h4, by rw [if_neg (by omega)] at hE; omega⟩
            · right; exact ⟨rfl, h1, h2, h3, h4, by rw [if_pos (by omega)] at hE; omega⟩
  clear hE h32
  unfold mpV
  rcases hcase with ⟨h0, rfl⟩ | ⟨h0, h1, rfl⟩ | ⟨h0, h1, h2, rfl⟩ | ⟨h0, h1, h2, h3, rfl⟩ | ⟨h0, h1, h2, h3, h4, rfl⟩ | ⟨h0, h1, h2, h3, h4, rfl⟩
  all_goals
    rw [h0] at HK
    clear h0
    go_enter Try.func21, Try.ntmps21
    go_wp2_with (first
      | (refine wpList_mboxA rfl _ _ rfl H _ rfl ?_; clear H; intro R w1 hR H)
      | (refine wpList_mload1 rfl _ _ rfl _ _ rfl 0 H _ (.int _ _) rfl rfl (by kernel_rfl) ?_)
      | (go_at_call 31; refine (HK.out _).mono ?_; rintro e w2 ⟨rfl, hB⟩; replace H := H.next hB; have c4 := H.cell (i := 0) rfl (mp_at4 m); have c26 := H.cell (i := 0) rfl (mp_at26 m); clear hB))
    go_ret
    exact ⟨rfl, H.toBelow⟩
end Go.Proofs.Ytodmhmkbiafahaa
