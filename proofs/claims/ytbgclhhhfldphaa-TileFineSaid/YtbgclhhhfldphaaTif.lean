/-
  The walk of TileFine. Over this seat's translation; no condition. (Written by gen_ti.py.)
-/
import Derived.Test.YtbgclhhhfldphaaTis
namespace Go.Proofs.Ytbgclhhhfldphaa
open Go.RowKit Go.Sort
set_option linter.unusedSimpArgs false
set_option linter.unusedVariables false
set_option maxRecDepth 20000

attribute [local irreducible] wpList
set_option maxHeartbeats 4000000 in
theorem tileFine_walk (q : Ta) (w : World) : Calls Try.prog 5 #[.agg (taC q)] w fun e w' => e = .returned (.bool true) ∧ Below w.heap.size w w' := by
  obtain ⟨t, lo, ls, hi, hs, tint, s, x⟩ := q
  have hx := w8_lt x
  obtain ⟨Z, hZ⟩ : ∃ Z, w8 x = Z := ⟨_, rfl⟩
  rw [hZ] at hx
  obtain ⟨X, hX⟩ : ∃ X, Z % 8 = X := ⟨_, rfl⟩
  obtain ⟨Y, hY⟩ : ∃ Y, Z / 8 = Y := ⟨_, rfl⟩
  have x0 : 0 ≤ X := by omega
  have x7 : X < 8 := by omega
  have y0 : 0 ≤ Y := by omega
  have y7 : Y < 32 := by omega
  have hm : Z.tmod 8 = X := by rw [Int.tmod_eq_emod_of_nonneg hx.1, hX]
  have hd : Z.tdiv 8 = Y := by rw [Int.tdiv_eq_ediv_of_nonneg hx.1, hY]
  have e1 : (X % 8).toNat = X.toNat := by rw [Int.emod_eq_of_lt x0 x7]
  have e2 : ((X + 8 * Y) % 8).toNat = X.toNat := by omega
  have K1 := fun wr => tdoti_ct t X x0 (by omega) wr
  have K2 := fun wr => tdoti_ct (shlT t X.toNat) 0 (by decide) (by decide) wr
  have K3 := fun wr => tdoti_ct t (X + 8 * Y) (by omega) (by omega) wr
  have K4 := fun wr => tshifted_ct t X x0 (by omega) wr
  rw [e1] at K1
  rw [show ((0 : Int) % 8).toNat = 0 from rfl, dot_shl t X.toNat 0 (by omega), sec_shl t X.toNat 0 (by omega)] at K2
  rw [e2] at K3
  simp only [Nat.add_zero] at K2
  generalize dotT t X.toNat = v at *
  generalize secT t X.toNat = z at *
  generalize shlT t X.toNat = u at *
  have QW := Lib.hid (fun wr => awake14_ct wr)
  have Q1 := Lib.hid K1
  have Q2 := Lib.hid K2
  have Q3 := Lib.hid K3
  have Q4 := Lib.hid K4
  clear K1 K2 K3 K4 hX hY e1 e2
  have H := Mem.start w
  have M1 : True := trivial
  go_enter Try.func5, Try.ntmps5
  go_wp2_with (first | (clear M1; refine wpList_mboxA rfl _ _ rfl H _ rfl ?_; clear H; intro Rq w1 _ H) | (refine gate_load _ _ rfl ?_; refine wpList_mload1 rfl 5 _ rfl _ _ rfl 0 H _ (.int .u8 _) rfl rfl (by decide +kernel) ?_) | (refine gate_load _ _ rfl ?_; refine wpList_mload rfl 24 _ rfl _ _ rfl 0 H _ (tiC _) rfl (by decide +kernel) (by kernel_rfl) (ta_tile _) ?_) | (go_at_call 8; (first | (with_reducible refine (Q1.out _).mono ?_) | (with_reducible refine (Q2.out _).mono ?_) | (with_reducible refine (Q3.out _).mono ?_)); rintro e w2 ⟨rfl, hB⟩; replace H := H.next hB; clear hB) | (go_at_call 18; (first | (with_reducible refine (Q4.out _).mono ?_)); rintro e w2 ⟨rfl, hB⟩; replace H := H.next hB; clear hB) | (go_at_call 17; (with_reducible refine (QW.out _).mono ?_); rintro e w2 ⟨rfl, hB⟩; replace H := H.next hB; clear hB) | fail)
  go_ret
  exact ⟨rfl, H.toBelow⟩
end Go.Proofs.Ytbgclhhhfldphaa
