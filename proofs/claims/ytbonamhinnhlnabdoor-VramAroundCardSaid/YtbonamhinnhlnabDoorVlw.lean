/-
  The walks of VramTells, VramWithin and VramAround. Over this seat's translation; addresses are from 0 to 65535.
-/
import Derived.Test.YtbonamhinnhlnabDoorVrr
import Derived.Test.YtbonamhinnhlnabDoorOpn
import Derived.Test.YtbonamhinnhlnabDoorWsm
namespace Go.Proofs.YtbonamhinnhlnabDoor
open Go.RowKit
set_option linter.unusedSimpArgs false
set_option linter.unusedVariables false
set_option maxRecDepth 20000

theorem wf_u16v {n : Int} (h : (Lit.int .u16 n).wf = true) : 0 ≤ n ∧ n < 65536 := by
  simp only [Lit.wf, IntKind.min, IntKind.max, IntKind.signed, IntKind.bits] at h
  simp at h
  omega
theorem scV_le (a l : Int) (l0 : 0 ≤ l) (l1 : l < 5) : 0 ≤ scV a l ∧ (scV a l < 2048 ∨ l = 4) ∧ scV a l < 4096 := by
  have h := noV_le a l
  unfold scV
  by_cases e : l = 4
  · omega
  · have := h.2.2 e l0 l1
    omega
theorem plV_le (a : Int) : 0 ≤ plV a ∧ plV a < 32 := by unfold plV; split <;> omega
/-- Addresses that are the same modulo 16384 are told the same; screens' modulo 4096. -/
theorem kd_mod (a b : Int) (h : a % 16384 = b % 16384) : kdV a = kdV b := by unfold kdV; rw [h]
theorem sc_mod (a b s : Int) (h : a % 4096 = b % 4096) : scV a s = scV b s := by
  unfold scV noV
  rw [show a / 2048 % 2 = b / 2048 % 2 by omega, show a / 1024 % 2 = b / 1024 % 2 by omega, show a / 1024 % 4 = b / 1024 % 4 by omega, show a % 1024 = b % 1024 by omega]
theorem pl_mod (a b : Int) (h : a % 32 = b % 32) : plV a = plV b := by unfold plV; rw [h]
theorem xor_16384 (a : Int) (h0 : 0 ≤ a) (h1 : a < 65536) : ∃ b, bits .xor .u16 a 16384 = b ∧ 0 ≤ b ∧ b < 65536 ∧ b % 16384 = a % 16384 := by
  obtain ⟨n, rfl⟩ : ∃ n : Nat, a = n := ⟨a.toNat, by omega⟩
  have e := b16_xor n 16384 (by omega) (by omega)
  rw [show ((16384 : Nat) : Int) = 16384 from rfl] at e
  have hm : (n ^^^ 16384) % 2 ^ 14 = n % 2 ^ 14 := by rw [Nat.xor_mod_two_pow]; simp
  have hl : n ^^^ 16384 < 2 ^ 16 := Nat.xor_lt_two_pow (by omega) (by decide)
  exact ⟨_, e, by omega, by omega, by omega⟩
theorem kd_low (x : Int) (h0 : 0 ≤ x) (h1 : x < 3840) : kdV (8192 + x) = 1 ∧ kdV (8192 + x + 4096) = 1 := by
  unfold kdV
  constructor
  · rw [if_neg (by omega), if_pos (by omega)]
  · rw [if_neg (by omega), if_pos (by omega)]
theorem kd_pal (x : Int) (h0 : 0 ≤ x) (h1 : x < 256) : kdV (16128 + x) = 2 := by
  unfold kdV
  rw [if_neg (by omega), if_neg (by omega)]
set_option maxHeartbeats 4000000 in
theorem vramAround_walk (a s : Int) (w : World) (G : GlobV w) (h0 : 0 ≤ a) (h1 : a < 65536) (s0 : 0 ≤ s) (s1 : s < 256) : Calls Tryd.prog 3 #[.int .u16 a, .int .u8 s] w fun e w' => e = .returned (.bool true) ∧ Below w.heap.size w w' := by
  obtain ⟨l, hl⟩ : ∃ l, s % 5 = l := ⟨_, rfl⟩
  obtain ⟨b, hb, b0, b1, hm⟩ := xor_16384 a h0 h1
  obtain ⟨p, hp⟩ : ∃ p, a % 3840 = p := ⟨_, rfl⟩
  obtain ⟨q, hq⟩ : ∃ q, a % 256 = q := ⟨_, rfl⟩
  obtain ⟨r, hr⟩ : ∃ r, a % 32 = r := ⟨_, rfl⟩
  have l0 : 0 ≤ l ∧ l < 5 := by omega
  have p0 : 0 ≤ p ∧ p < 3840 := by omega
  have q0 : 0 ≤ q ∧ q < 256 := by omega
  have r0 : 0 ≤ r ∧ r < 32 := by omega
  have K1 := fun wr (g : GlobV wr) => vscr_ct a l wr g h0 h1
  have K2 := fun wr (g : GlobV wr) => vscr_ct b l wr g b0 b1
  have K3 := fun wr => vpal_ct a wr h0 h1
  have K4 := fun wr => vpal_ct b wr b0 b1
  have K5 := fun wr => vkind_ct a wr h0 h1
  have K6 := fun wr => vkind_ct b wr b0 b1
  have K7 := fun wr (g : GlobV wr) => vscr_ct (8192 + p) l wr g (by omega) (by omega)
  have K8 := fun wr (g : GlobV wr) => vscr_ct (8192 + p + 4096) l wr g (by omega) (by omega)
  have K9 := fun wr => vpal_ct (16128 + q) wr (by omega) (by omega)
  have KA := fun wr => vpal_ct (16128 + r) wr (by omega) (by omega)
  have QW := Lib.hid (fun wr (g : GlobV wr) => awake13_ct wr g)
  unfold scR plR at *
  rw [(kd_low p p0.1 p0.2).1] at K7
  rw [(kd_low p p0.1 p0.2).2] at K8
  rw [kd_pal q q0.1 q0.2] at K9
  rw [kd_pal r r0.1 (by omega)] at KA
  rw [kd_mod b a hm, sc_mod b a l (by omega)] at K2
  rw [kd_mod b a hm, pl_mod b a (by omega)] at K4
  rw [kd_mod b a hm] at K6
  rw [sc_mod (8192 + p + 4096) (8192 + p) l (by omega)] at K8
  rw [pl_mod (16128 + q) (16128 + r) (by omega)] at K9
  generalize (if kdV a = 1 ∧ 0 ≤ l ∧ l < 5 then (scV a l, (0 : Int)) else (0, 1)).1 = x1 at *
  generalize (if kdV a = 1 ∧ 0 ≤ l ∧ l < 5 then (scV a l, (0 : Int)) else (0, 1)).2 = x2 at *
  generalize (if kdV a = 2 then (plV a, (0 : Int)) else (0, 1)).1 = y1 at *
  generalize (if kdV a = 2 then (plV a, (0 : Int)) else (0, 1)).2 = y2 at *
  generalize scV (8192 + p) l = z1 at *
  generalize plV (16128 + r) = z2 at *
  generalize kdV a = k at *
  simp only [l0.1, l0.2, and_true, if_true, true_and] at K7 K8 K9 KA
  have Q1 := Lib.hid K1
  have Q2 := Lib.hid K2
  have Q3 := Lib.hid K3
  have Q4 := Lib.hid K4
  have Q5 := Lib.hid K5
  have Q6 := Lib.hid K6
  have Q7 := Lib.hid K7
  have Q8 := Lib.hid K8
  have Q9 := Lib.hid K9
  have QA := Lib.hid KA
  clear K1 K2 K3 K4 K5 K6 K7 K8 K9 KA
  have GG := Lib.hid G
  clear G
  have H := Mem.start w
  go_enter Tryd.func3, Tryd.ntmps3
  go_wp2_with (first
    | (go_at_call 5; first
      | ((with_reducible refine (Q1.out _ (GG.out.mem H)).mono ?_); rintro e w2 ⟨rfl, hB⟩; replace H := H.next hB; clear hB)
      | ((with_reducible refine (Q2.out _ (GG.out.mem H)).mono ?_); rintro e w2 ⟨rfl, hB⟩; replace H := H.next hB; clear hB)
      | ((with_reducible refine (Q7.out _ (GG.out.mem H)).mono ?_); rintro e w2 ⟨rfl, hB⟩; replace H := H.next hB; clear hB)
      | ((with_reducible refine (Q8.out _ (GG.out.mem H)).mono ?_); rintro e w2 ⟨rfl, hB⟩; replace H := H.next hB; clear hB))
    | (go_at_call 6; first
      | ((with_reducible refine (Q3.out _).mono ?_); rintro e w2 ⟨rfl, hB⟩; replace H := H.next hB; clear hB)
      | ((with_reducible refine (Q4.out _).mono ?_); rintro e w2 ⟨rfl, hB⟩; replace H := H.next hB; clear hB)
      | ((with_reducible refine (Q9.out _).mono ?_); rintro e w2 ⟨rfl, hB⟩; replace H := H.next hB; clear hB)
      | ((with_reducible refine (QA.out _).mono ?_); rintro e w2 ⟨rfl, hB⟩; replace H := H.next hB; clear hB))
    | (go_at_call 7; first
      | ((with_reducible refine (Q5.out _).mono ?_); rintro e w2 ⟨rfl, hB⟩; replace H := H.next hB; clear hB)
      | ((with_reducible refine (Q6.out _).mono ?_); rintro e w2 ⟨rfl, hB⟩; replace H := H.next hB; clear hB))
    | (go_at_call 8; (with_reducible refine (QW.out _ (GG.out.mem H)).mono ?_); rintro e w2 ⟨rfl, hB⟩; replace H := H.next hB; clear hB)
    | fail)
  go_ret
  exact ⟨rfl, H.toBelow⟩
end Go.Proofs.YtbonamhinnhlnabDoor
