/-
  The walks of VramTells, VramWithin and VramAround. Over this seat's translation; addresses are from 0 to 65535.
-/
import Derived.Test.YtbonamhinnhlnaaDoorVrr
import Derived.Test.YtbonamhinnhlnaaDoorOpn
import Derived.Test.YtbonamhinnhlnaaDoorWsm
namespace Go.Proofs.YtbonamhinnhlnaaDoor
open Go.RowKit
set_option linter.unusedSimpArgs false
set_option linter.unusedVariables false
set_option maxRecDepth 20000

theorem wf_u16v {n : Int} (h : (Lit.int .u16 n).wf = true) : 0 ≤ n ∧ n < 65536 := by
  simp only [Lit.wf, IntKind.min, IntKind.max, IntKind.signed, IntKind.bits] at h
  simp at h
  omega
set_option maxHeartbeats 2000000 in
theorem vramTells_walk (a s : Int) (w : World) (G : GlobV w) (h0 : 0 ≤ a) (h1 : a < 65536) : Calls Tryd.prog 3 #[.int .u16 a, .int .i64 s] w fun e w' => e = .returned (.bool true) ∧ Below w.heap.size w w' := by
  have Q1 := Lib.hid (fun wr (g : GlobV wr) => vscr_ct a s wr g h0 h1)
  have Q2 := Lib.hid (fun wr => rvscr_ct a s wr h0 h1)
  have Q3 := Lib.hid (fun wr => vpal_ct a wr h0 h1)
  have Q4 := Lib.hid (fun wr => rvpal_ct a wr h0 h1)
  have Q5 := Lib.hid (fun wr => vkind_ct a wr h0 h1)
  have Q6 := Lib.hid (fun wr => rvkind_ct a wr h0 h1)
  have QW := Lib.hid (fun wr (g : GlobV wr) => awake13_ct wr g)
  generalize (scR a s).1 = x1 at *
  generalize (scR a s).2 = x2 at *
  generalize (plR a).1 = y1 at *
  generalize (plR a).2 = y2 at *
  generalize kdV a = k at *
  have GG := Lib.hid G
  clear G
  have H := Mem.start w
  go_enter Tryd.func3, Tryd.ntmps3
  go_wp2_with (first
    | (go_at_call 6; (with_reducible refine (Q1.out _ (GG.out.mem H)).mono ?_); rintro e w2 ⟨rfl, hB⟩; replace H := H.next hB; clear hB)
    | (go_at_call 7; (with_reducible refine (Q2.out _).mono ?_); rintro e w2 ⟨rfl, hB⟩; replace H := H.next hB; clear hB)
    | (go_at_call 8; (with_reducible refine (Q3.out _).mono ?_); rintro e w2 ⟨rfl, hB⟩; replace H := H.next hB; clear hB)
    | (go_at_call 9; (with_reducible refine (Q4.out _).mono ?_); rintro e w2 ⟨rfl, hB⟩; replace H := H.next hB; clear hB)
    | (go_at_call 10; (with_reducible refine (Q5.out _).mono ?_); rintro e w2 ⟨rfl, hB⟩; replace H := H.next hB; clear hB)
    | (go_at_call 11; (with_reducible refine (Q6.out _).mono ?_); rintro e w2 ⟨rfl, hB⟩; replace H := H.next hB; clear hB)
    | (go_at_call 12; (with_reducible refine (QW.out _ (GG.out.mem H)).mono ?_); rintro e w2 ⟨rfl, hB⟩; replace H := H.next hB; clear hB)
    | fail)
  go_ret
  exact ⟨rfl, H.toBelow⟩
theorem scV_le (a l : Int) (l0 : 0 ≤ l) (l1 : l < 5) : 0 ≤ scV a l ∧ (scV a l < 2048 ∨ l = 4) ∧ scV a l < 4096 := by
  have h := noV_le a l
  unfold scV
  by_cases e : l = 4
  · omega
  · have := h.2.2 e l0 l1
    omega
theorem plV_le (a : Int) : 0 ≤ plV a ∧ plV a < 32 := by unfold plV; split <;> omega
set_option maxHeartbeats 4000000 in
theorem vramWithin_walk (a s : Int) (w : World) (G : GlobV w) (h0 : 0 ≤ a) (h1 : a < 65536) (s0 : 0 ≤ s) (s1 : s < 256) : Calls Tryd.prog 4 #[.int .u16 a, .int .u8 s] w fun e w' => e = .returned (.bool true) ∧ Below w.heap.size w w' := by
  obtain ⟨l, hl⟩ : ∃ l, s % 5 = l := ⟨_, rfl⟩
  have K1 := fun wr (g : GlobV wr) => vscr_ct a l wr g h0 h1
  have K3 := fun wr => vpal_ct a wr h0 h1
  have K5 := fun wr => vkind_ct a wr h0 h1
  have QW := Lib.hid (fun wr (g : GlobV wr) => awake13_ct wr g)
  have k0 := kd_le a
  have x0 := scV_le a l (by omega) (by omega)
  have y0 := plV_le a
  unfold scR plR at *
  have l0 : 0 ≤ l ∧ l < 5 := by omega
  simp only [l0.1, l0.2, and_true] at K1
  generalize scV a l = x at *
  generalize plV a = y at *
  generalize kdV a = k at *
  have GG := Lib.hid G
  clear G
  have H := Mem.start w
  have hk : k = 0 ∨ k = 1 ∨ k = 2 := by omega
  obtain ⟨x1, x2, x3⟩ := x0
  obtain ⟨y1, y2⟩ := y0
  rcases x2 with x2 | rfl
  all_goals
    rcases hk with rfl | rfl | rfl
    all_goals
      simp only [Int.reduceEq, if_true, if_false] at K1 K3
      have Q1 := Lib.hid K1
      have Q3 := Lib.hid K3
      have Q5 := Lib.hid K5
      clear K1 K3 K5
      go_enter Tryd.func4, Tryd.ntmps4
      go_wp2_with (first
        | (go_at_call 6; (with_reducible refine (Q1.out _ (GG.out.mem H)).mono ?_); rintro e w2 ⟨rfl, hB⟩; replace H := H.next hB; clear hB)
        | (go_at_call 8; (with_reducible refine (Q3.out _).mono ?_); rintro e w2 ⟨rfl, hB⟩; replace H := H.next hB; clear hB)
        | (go_at_call 10; (with_reducible refine (Q5.out _).mono ?_); rintro e w2 ⟨rfl, hB⟩; replace H := H.next hB; clear hB)
        | (go_at_call 12; (with_reducible refine (QW.out _ (GG.out.mem H)).mono ?_); rintro e w2 ⟨rfl, hB⟩; replace H := H.next hB; clear hB)
        | fail)
      all_goals (go_ret; exact ⟨rfl, H.toBelow⟩)
/-- Addresses that are the same modulo 16384 are told the same; screens' modulo 4096. -/
theorem kd_mod (a b : Int) (h : a % 16384 = b % 16384) : kdV a = kdV b := by unfold kdV; rw [h]
theorem sc_mod (a b s : Int) (h : a % 4096 = b % 4096) : scV a s = scV b s := by
  unfold scV noV
  rw [show a / 2048 % 2 = b / 2048 % 2 by omega, show a / 1024 % 2 = b / 1024 % 2 by omega, show a / 1024 % 4 = b / 1024 % 4 by omega, show a % 1024 = b % 1024 by omega]
theorem pl_mod (a b : Int) (h : a % 32 = b % 32) : plV a = plV b := by unfold plV; rw [h]
theorem xor_16384 (a : Int) (h0 : 0 ≤ a) (h1 : a < 65536) : ∃ b, bits .xor .u16 a 16384 = b ∧ 0 ≤ b ∧ b < 65536 ∧ b % 16384 = a % 16384 := by
  obtain ⟨n, rfl⟩ : ∃ n : Nat, a = n := ⟨a.toNat, by omega⟩
  have e := b16_xor n 16384 (by omega) (by omega)
  rw [show ((16384 : Nat) : Int) = 16384 from rfl] at e
  have hm : (n ^^^ 16384) % 2 ^ 14 = n % 2 ^ 14 := by rw [Nat.xor_mod_two_pow]; simp
  have hl : n ^^^ 16384 < 2 ^ 16 := Nat.xor_lt_two_pow (by omega) (by decide)
  exact ⟨_, e, by omega, by omega, by omega⟩
theorem kd_low (x : Int) (h0 : 0 ≤ x) (h1 : x < 3840) : kdV (8192 + x) = 1 ∧ kdV (8192 + x + 4096) = 1 := by
  unfold kdV
  constructor
  · rw [if_neg (by omega), if_pos (by omega)]
  · rw [if_neg (by omega), if_pos (by omega)]
theorem kd_pal (x : Int) (h0 : 0 ≤ x) (h1 : x < 256) : kdV (16128 + x) = 2 := by
  unfold kdV
  rw [if_neg (by omega), if_neg (by omega)]
end Go.Proofs.YtbonamhinnhlnaaDoor
