/-
  The walk of BankReaches. Over this seat's translation; octets are from 0 to 255.
-/
import Derived.Test.YtodmhmkbiafahaaBlw
namespace Go.Proofs.Ytodmhmkbiafahaa
open Go.RowKit
set_option linter.unusedSimpArgs false
set_option linter.unusedVariables false
set_option maxRecDepth 20000

theorem octA (n : Int) (h0 : 0 ≤ n) (h1 : n < 256) (k s : Int) (s0 : 0 ≤ s) (s1 : s < 256) : Mp.oct { mp0 with k := k, r6 := n, se := s } := by
  unfold Mp.oct mp0
  simp
  omega
set_option maxHeartbeats 4000000 in
theorem reach_0 (k n : Int) (w : World) (k0 : 0 ≤ k) (k1 : k < 256) (n0 : 0 ≤ n) (n1 : n < 256) (hk : k % 6 = 0) : Calls Try.prog 8 #[.int .u8 k, .int .u8 n] w fun e w' => e = .returned (.bool true) ∧ Below w.heap.size w w' := by
  have tk := tmodn (y := 6) k0
  rw [hk] at tk
  have h7 : bits .and .u8 n 7 = n % 8 := byte_all (p := fun x => bits .and .u8 x 7 = x % 8) (by decide +kernel) n n0 n1
  have h7i : bits .and .i64 n 7 = n % 8 := byte_all (p := fun x => bits .and .i64 x 7 = x % 8) (by decide +kernel) n n0 n1
  have K2 := fun wr => bprg_ct { mp0 with k := 2, bk := n } (oct0 2 n n0 n1) 16384 32768 wr (by decide) (by decide)
  rw [show okP { mp0 with k := 2, bk := n } 16384 32768 = true from rfl, show prgV { mp0 with k := 2, bk := n } 16384 32768 = n * 16384 % 16384 by (unfold prgV; rw [show okP { mp0 with k := 2, bk := n } 16384 32768 = true from rfl, if_pos rfl]; simp [mp0, inP, pBanks, pHalves, pWhole, pFour, B4.at]; try omega)] at K2
  have K4 := fun wr => bprg_ct { mp0 with k := 4, r6 := n, se := 0 } (octA n n0 n1 4 0 (by decide) (by decide)) 16384 32768 wr (by decide) (by decide)
  rw [show okP { mp0 with k := 4, r6 := n, se := 0 } 16384 32768 = true from rfl, show prgV { mp0 with k := 4, r6 := n, se := 0 } 16384 32768 = n * 8192 % 16384 by (unfold prgV; rw [show okP { mp0 with k := 4, r6 := n, se := 0 } 16384 32768 = true from rfl, if_pos rfl]; simp [mp0, inP, pBanks, pHalves, pWhole, pFour, B4.at]; try omega)] at K4
  have K5 := fun wr => bprg_ct { mp0 with k := 4, r6 := n, se := 64 } (octA n n0 n1 4 64 (by decide) (by decide)) 16384 49152 wr (by decide) (by decide)
  rw [show okP { mp0 with k := 4, r6 := n, se := 64 } 16384 49152 = true from rfl, show prgV { mp0 with k := 4, r6 := n, se := 64 } 16384 49152 = n * 8192 % 16384 by (unfold prgV; rw [show okP { mp0 with k := 4, r6 := n, se := 64 } 16384 49152 = true from rfl, if_pos rfl]; simp [mp0, inP, pBanks, pHalves, pWhole, pFour, B4.at]; try omega)] at K5
  have K3 := fun wr => bchr_ct { mp0 with k := 3, bk := n } (oct0 3 n n0 n1) 8192 0 wr (by decide) (by decide)
  rw [show okC { mp0 with k := 3, bk := n } 8192 0 = true from rfl, show chrV { mp0 with k := 3, bk := n } 8192 0 = n * 8192 % 8192 by (unfold chrV; rw [show okC { mp0 with k := 3, bk := n } 8192 0 = true from rfl, if_pos rfl]; simp [mp0, inC, cBanks, cWhole, cHalves, B8.at]; try omega)] at K3
  have K7 := fun wr => bprg_ct { mp0 with k := 7, bk := n % 8 } (oct0 7 (n % 8) (by omega) (by omega)) 16384 32768 wr (by decide) (by decide)
  rw [show okP { mp0 with k := 7, bk := n % 8 } 16384 32768 = true from rfl, show prgV { mp0 with k := 7, bk := n % 8 } 16384 32768 = n % 8 * 32768 % 16384 by (unfold prgV; rw [show okP { mp0 with k := 7, bk := n % 8 } 16384 32768 = true from rfl, if_pos rfl]; simp [mp0, inP, pBanks, pHalves, pWhole, pFour, B4.at]; try omega)] at K7
  rw [← h7] at K7
  simp only [mpV, mpC, mp0, errN, if_true] at K2 K4 K5 K3 K7
  rw [h7] at K7
  have u2 := tmodn (x := n * 16384) (y := 16384) (by omega)
  have u4 := tmodn (x := n * 8192) (y := 16384) (by omega)
  have u3 := tmodn (x := n * 8192) (y := 8192) (by omega)
  have u7 := tmodn (x := n % 8 * 32768) (y := 16384) (by omega)
  have g0 : 0 ≤ n % 8 := by omega
  have g1 : n % 8 < 8 := by omega
  obtain ⟨x, hx⟩ : ∃ x, n % 8 = x := ⟨_, rfl⟩
  rw [hx] at *
  have Q2 := Lib.hid K2
  have Q4 := Lib.hid K4
  have Q5 := Lib.hid K5
  have Q3 := Lib.hid K3
  have Q7 := Lib.hid K7
  have QA := Lib.hid (fun wr => bawake_ct wr)
  clear K2 K4 K5 K3 K7 hx hk
  have H := Mem.start w
  go_enter Try.func8, Try.ntmps8
  go_wp2_with (first
    | (go_at_call 9; first
        | (with_reducible refine (Q2.out _).mono ?_; rintro e w2 ⟨rfl, hB⟩; replace H := H.next hB; clear hB)
        | (with_reducible refine (Q4.out _).mono ?_; rintro e w2 ⟨rfl, hB⟩; replace H := H.next hB; clear hB)
        | (with_reducible refine (Q5.out _).mono ?_; rintro e w2 ⟨rfl, hB⟩; replace H := H.next hB; clear hB)
        | (with_reducible refine (Q7.out _).mono ?_; rintro e w2 ⟨rfl, hB⟩; replace H := H.next hB; clear hB))
    | (go_at_call 11; (with_reducible refine (Q3.out _).mono ?_; rintro e w2 ⟨rfl, hB⟩; replace H := H.next hB; clear hB))
    | (go_at_call 13; (with_reducible refine (QA.out _).mono ?_); rintro e w2 ⟨rfl, hB⟩; replace H := H.next hB; clear hB))
  go_ret
  exact ⟨rfl, H.toBelow⟩
set_option maxHeartbeats 4000000 in
theorem reach_1 (k n : Int) (w : World) (k0 : 0 ≤ k) (k1 : k < 256) (n0 : 0 ≤ n) (n1 : n < 256) (hk : k % 6 = 1) : Calls Try.prog 8 #[.int .u8 k, .int .u8 n] w fun e w' => e = .returned (.bool true) ∧ Below w.heap.size w w' := by
  have tk := tmodn (y := 6) k0
  rw [hk] at tk
  have h7 : bits .and .u8 n 7 = n % 8 := byte_all (p := fun x => bits .and .u8 x 7 = x % 8) (by decide +kernel) n n0 n1
  have h7i : bits .and .i64 n 7 = n % 8 := byte_all (p := fun x => bits .and .i64 x 7 = x % 8) (by decide +kernel) n n0 n1
  have K2 := fun wr => bprg_ct { mp0 with k := 2, bk := n } (oct0 2 n n0 n1) 32768 32768 wr (by decide) (by decide)
  rw [show okP { mp0 with k := 2, bk := n } 32768 32768 = true from rfl, show prgV { mp0 with k := 2, bk := n } 32768 32768 = n * 16384 % 32768 by (unfold prgV; rw [show okP { mp0 with k := 2, bk := n } 32768 32768 = true from rfl, if_pos rfl]; simp [mp0, inP, pBanks, pHalves, pWhole, pFour, B4.at]; try omega)] at K2
  have K4 := fun wr => bprg_ct { mp0 with k := 4, r6 := n, se := 0 } (octA n n0 n1 4 0 (by decide) (by decide)) 32768 32768 wr (by decide) (by decide)
  rw [show okP { mp0 with k := 4, r6 := n, se := 0 } 32768 32768 = true from rfl, show prgV { mp0 with k := 4, r6 := n, se := 0 } 32768 32768 = n * 8192 % 32768 by (unfold prgV; rw [show okP { mp0 with k := 4, r6 := n, se := 0 } 32768 32768 = true from rfl, if_pos rfl]; simp [mp0, inP, pBanks, pHalves, pWhole, pFour, B4.at]; try omega)] at K4
  have K5 := fun wr => bprg_ct { mp0 with k := 4, r6 := n, se := 64 } (octA n n0 n1 4 64 (by decide) (by decide)) 32768 49152 wr (by decide) (by decide)
  rw [show okP { mp0 with k := 4, r6 := n, se := 64 } 32768 49152 = true from rfl, show prgV { mp0 with k := 4, r6 := n, se := 64 } 32768 49152 = n * 8192 % 32768 by (unfold prgV; rw [show okP { mp0 with k := 4, r6 := n, se := 64 } 32768 49152 = true from rfl, if_pos rfl]; simp [mp0, inP, pBanks, pHalves, pWhole, pFour, B4.at]; try omega)] at K5
  have K3 := fun wr => bchr_ct { mp0 with k := 3, bk := n } (oct0 3 n n0 n1) 16384 0 wr (by decide) (by decide)
  rw [show okC { mp0 with k := 3, bk := n } 16384 0 = true from rfl, show chrV { mp0 with k := 3, bk := n } 16384 0 = n * 8192 % 16384 by (unfold chrV; rw [show okC { mp0 with k := 3, bk := n } 16384 0 = true from rfl, if_pos rfl]; simp [mp0, inC, cBanks, cWhole, cHalves, B8.at]; try omega)] at K3
  have K7 := fun wr => bprg_ct { mp0 with k := 7, bk := n % 8 } (oct0 7 (n % 8) (by omega) (by omega)) 32768 32768 wr (by decide) (by decide)
  rw [show okP { mp0 with k := 7, bk := n % 8 } 32768 32768 = true from rfl, show prgV { mp0 with k := 7, bk := n % 8 } 32768 32768 = n % 8 * 32768 % 32768 by (unfold prgV; rw [show okP { mp0 with k := 7, bk := n % 8 } 32768 32768 = true from rfl, if_pos rfl]; simp [mp0, inP, pBanks, pHalves, pWhole, pFour, B4.at]; try omega)] at K7
  rw [← h7] at K7
  simp only [mpV, mpC, mp0, errN, if_true] at K2 K4 K5 K3 K7
  rw [h7] at K7
  have u2 := tmodn (x := n * 16384) (y := 32768) (by omega)
  have u4 := tmodn (x := n * 8192) (y := 32768) (by omega)
  have u3 := tmodn (x := n * 8192) (y := 16384) (by omega)
  have u7 := tmodn (x := n % 8 * 32768) (y := 32768) (by omega)
  have g0 : 0 ≤ n % 8 := by omega
  have g1 : n % 8 < 8 := by omega
  obtain ⟨x, hx⟩ : ∃ x, n % 8 = x := ⟨_, rfl⟩
  rw [hx] at *
  have Q2 := Lib.hid K2
  have Q4 := Lib.hid K4
  have Q5 := Lib.hid K5
  have Q3 := Lib.hid K3
  have Q7 := Lib.hid K7
  have QA := Lib.hid (fun wr => bawake_ct wr)
  clear K2 K4 K5 K3 K7 hx hk
  have H := Mem.start w
  go_enter Try.func8, Try.ntmps8
  go_wp2_with (first
    | (go_at_call 9; first
        | (with_reducible refine (Q2.out _).mono ?_; rintro e w2 ⟨rfl, hB⟩; replace H := H.next hB; clear hB)
        | (with_reducible refine (Q4.out _).mono ?_; rintro e w2 ⟨rfl, hB⟩; replace H := H.next hB; clear hB)
        | (with_reducible refine (Q5.out _).mono ?_; rintro e w2 ⟨rfl, hB⟩; replace H := H.next hB; clear hB)
        | (with_reducible refine (Q7.out _).mono ?_; rintro e w2 ⟨rfl, hB⟩; replace H := H.next hB; clear hB))
    | (go_at_call 11; (with_reducible refine (Q3.out _).mono ?_; rintro e w2 ⟨rfl, hB⟩; replace H := H.next hB; clear hB))
    | (go_at_call 13; (with_reducible refine (QA.out _).mono ?_); rintro e w2 ⟨rfl, hB⟩; replace H := H.next hB; clear hB))
  go_ret
  exact ⟨rfl, H.toBelow⟩
set_option maxHeartbeats 4000000 in
theorem reach_2 (k n : Int) (w : World) (k0 : 0 ≤ k) (k1 : k < 256) (n0 : 0 ≤ n) (n1 : n < 256) (hk : k % 6 = 2) : Calls Try.prog 8 #[.int .u8 k, .int .u8 n] w fun e w' => e = .returned (.bool true) ∧ Below w.heap.size w w' := by
  have tk := tmodn (y := 6) k0
  rw [hk] at tk
  have h7 : bits .and .u8 n 7 = n % 8 := byte_all (p := fun x => bits .and .u8 x 7 = x % 8) (by decide +kernel) n n0 n1
  have h7i : bits .and .i64 n 7 = n % 8 := byte_all (p := fun x => bits .and .i64 x 7 = x % 8) (by decide +kernel) n n0 n1
  have K2 := fun wr => bprg_ct { mp0 with k := 2, bk := n } (oct0 2 n n0 n1) 65536 32768 wr (by decide) (by decide)
  rw [show okP { mp0 with k := 2, bk := n } 65536 32768 = true from rfl, show prgV { mp0 with k := 2, bk := n } 65536 32768 = n * 16384 % 65536 by (unfold prgV; rw [show okP { mp0 with k := 2, bk := n } 65536 32768 = true from rfl, if_pos rfl]; simp [mp0, inP, pBanks, pHalves, pWhole, pFour, B4.at]; try omega)] at K2
  have K4 := fun wr => bprg_ct { mp0 with k := 4, r6 := n, se := 0 } (octA n n0 n1 4 0 (by decide) (by decide)) 65536 32768 wr (by decide) (by decide)
  rw [show okP { mp0 with k := 4, r6 := n, se := 0 } 65536 32768 = true from rfl, show prgV { mp0 with k := 4, r6 := n, se := 0 } 65536 32768 = n * 8192 % 65536 by (unfold prgV; rw [show okP { mp0 with k := 4, r6 := n, se := 0 } 65536 32768 = true from rfl, if_pos rfl]; simp [mp0, inP, pBanks, pHalves, pWhole, pFour, B4.at]; try omega)] at K4
  have K5 := fun wr => bprg_ct { mp0 with k := 4, r6 := n, se := 64 } (octA n n0 n1 4 64 (by decide) (by decide)) 65536 49152 wr (by decide) (by decide)
  rw [show okP { mp0 with k := 4, r6 := n, se := 64 } 65536 49152 = true from rfl, show prgV { mp0 with k := 4, r6 := n, se := 64 } 65536 49152 = n * 8192 % 65536 by (unfold prgV; rw [show okP { mp0 with k := 4, r6 := n, se := 64 } 65536 49152 = true from rfl, if_pos rfl]; simp [mp0, inP, pBanks, pHalves, pWhole, pFour, B4.at]; try omega)] at K5
  have K3 := fun wr => bchr_ct { mp0 with k := 3, bk := n } (oct0 3 n n0 n1) 32768 0 wr (by decide) (by decide)
  rw [show okC { mp0 with k := 3, bk := n } 32768 0 = true from rfl, show chrV { mp0 with k := 3, bk := n } 32768 0 = n * 8192 % 32768 by (unfold chrV; rw [show okC { mp0 with k := 3, bk := n } 32768 0 = true from rfl, if_pos rfl]; simp [mp0, inC, cBanks, cWhole, cHalves, B8.at]; try omega)] at K3
  have K7 := fun wr => bprg_ct { mp0 with k := 7, bk := n % 8 } (oct0 7 (n % 8) (by omega) (by omega)) 65536 32768 wr (by decide) (by decide)
  rw [show okP { mp0 with k := 7, bk := n % 8 } 65536 32768 = true from rfl, show prgV { mp0 with k := 7, bk := n % 8 } 65536 32768 = n % 8 * 32768 % 65536 by (unfold prgV; rw [show okP { mp0 with k := 7, bk := n % 8 } 65536 32768 = true from rfl, if_pos rfl]; simp [mp0, inP, pBanks, pHalves, pWhole, pFour, B4.at]; try omega)] at K7
  rw [← h7] at K7
  simp only [mpV, mpC, mp0, errN, if_true] at K2 K4 K5 K3 K7
  rw [h7] at K7
  have u2 := tmodn (x := n * 16384) (y := 65536) (by omega)
  have u4 := tmodn (x := n * 8192) (y := 65536) (by omega)
  have u3 := tmodn (x := n * 8192) (y := 32768) (by omega)
  have u7 := tmodn (x := n % 8 * 32768) (y := 65536) (by omega)
  have g0 : 0 ≤ n % 8 := by omega
  have g1 : n % 8 < 8 := by omega
  obtain ⟨x, hx⟩ : ∃ x, n % 8 = x := ⟨_, rfl⟩
  rw [hx] at *
  have Q2 := Lib.hid K2
  have Q4 := Lib.hid K4
  have Q5 := Lib.hid K5
  have Q3 := Lib.hid K3
  have Q7 := Lib.hid K7
  have QA := Lib.hid (fun wr => bawake_ct wr)
  clear K2 K4 K5 K3 K7 hx hk
  have H := Mem.start w
  go_enter Try.func8, Try.ntmps8
  go_wp2_with (first
    | (go_at_call 9; first
        | (with_reducible refine (Q2.out _).mono ?_; rintro e w2 ⟨rfl, hB⟩; replace H := H.next hB; clear hB)
        | (with_reducible refine (Q4.out _).mono ?_; rintro e w2 ⟨rfl, hB⟩; replace H := H.next hB; clear hB)
        | (with_reducible refine (Q5.out _).mono ?_; rintro e w2 ⟨rfl, hB⟩; replace H := H.next hB; clear hB)
        | (with_reducible refine (Q7.out _).mono ?_; rintro e w2 ⟨rfl, hB⟩; replace H := H.next hB; clear hB))
    | (go_at_call 11; (with_reducible refine (Q3.out _).mono ?_; rintro e w2 ⟨rfl, hB⟩; replace H := H.next hB; clear hB))
    | (go_at_call 13; (with_reducible refine (QA.out _).mono ?_); rintro e w2 ⟨rfl, hB⟩; replace H := H.next hB; clear hB))
  go_ret
  exact ⟨rfl, H.toBelow⟩
set_option maxHeartbeats 4000000 in
theorem reach_3 (k n : Int) (w : World) (k0 : 0 ≤ k) (k1 : k < 256) (n0 : 0 ≤ n) (n1 : n < 256) (hk : k % 6 = 3) : Calls Try.prog 8 #[.int .u8 k, .int .u8 n] w fun e w' => e = .returned (.bool true) ∧ Below w.heap.size w w' := by
  have tk := tmodn (y := 6) k0
  rw [hk] at tk
  have h7 : bits .and .u8 n 7 = n % 8 := byte_all (p := fun x => bits .and .u8 x 7 = x % 8) (by decide +kernel) n n0 n1
  have h7i : bits .and .i64 n 7 = n % 8 := byte_all (p := fun x => bits .and .i64 x 7 = x % 8) (by decide +kernel) n n0 n1
  have K2 := fun wr => bprg_ct { mp0 with k := 2, bk := n } (oct0 2 n n0 n1) 131072 32768 wr (by decide) (by decide)
  rw [show okP { mp0 with k := 2, bk := n } 131072 32768 = true from rfl, show prgV { mp0 with k := 2, bk := n } 131072 32768 = n * 16384 % 131072 by (unfold prgV; rw [show okP { mp0 with k := 2, bk := n } 131072 32768 = true from rfl, if_pos rfl]; simp [mp0, inP, pBanks, pHalves, pWhole, pFour, B4.at]; try omega)] at K2
  have K4 := fun wr => bprg_ct { mp0 with k := 4, r6 := n, se := 0 } (octA n n0 n1 4 0 (by decide) (by decide)) 131072 32768 wr (by decide) (by decide)
  rw [show okP { mp0 with k := 4, r6 := n, se := 0 } 131072 32768 = true from rfl, show prgV { mp0 with k := 4, r6 := n, se := 0 } 131072 32768 = n * 8192 % 131072 by (unfold prgV; rw [show okP { mp0 with k := 4, r6 := n, se := 0 } 131072 32768 = true from rfl, if_pos rfl]; simp [mp0, inP, pBanks, pHalves, pWhole, pFour, B4.at]; try omega)] at K4
  have K5 := fun wr => bprg_ct { mp0 with k := 4, r6 := n, se := 64 } (octA n n0 n1 4 64 (by decide) (by decide)) 131072 49152 wr (by decide) (by decide)
  rw [show okP { mp0 with k := 4, r6 := n, se := 64 } 131072 49152 = true from rfl, show prgV { mp0 with k := 4, r6 := n, se := 64 } 131072 49152 = n * 8192 % 131072 by (unfold prgV; rw [show okP { mp0 with k := 4, r6 := n, se := 64 } 131072 49152 = true from rfl, if_pos rfl]; simp [mp0, inP, pBanks, pHalves, pWhole, pFour, B4.at]; try omega)] at K5
  have K3 := fun wr => bchr_ct { mp0 with k := 3, bk := n } (oct0 3 n n0 n1) 65536 0 wr (by decide) (by decide)
  rw [show okC { mp0 with k := 3, bk := n } 65536 0 = true from rfl, show chrV { mp0 with k := 3, bk := n } 65536 0 = n * 8192 % 65536 by (unfold chrV; rw [show okC { mp0 with k := 3, bk := n } 65536 0 = true from rfl, if_pos rfl]; simp [mp0, inC, cBanks, cWhole, cHalves, B8.at]; try omega)] at K3
  have K7 := fun wr => bprg_ct { mp0 with k := 7, bk := n % 8 } (oct0 7 (n % 8) (by omega) (by omega)) 131072 32768 wr (by decide) (by decide)
  rw [show okP { mp0 with k := 7, bk := n % 8 } 131072 32768 = true from rfl, show prgV { mp0 with k := 7, bk := n % 8 } 131072 32768 = n % 8 * 32768 % 131072 by (unfold prgV; rw [show okP { mp0 with k := 7, bk := n % 8 } 131072 32768 = true from rfl, if_pos rfl]; simp [mp0, inP, pBanks, pHalves, pWhole, pFour, B4.at]; try omega)] at K7
  rw [← h7] at K7
  simp only [mpV, mpC, mp0, errN, if_true] at K2 K4 K5 K3 K7
  rw [h7] at K7
  have u2 := tmodn (x := n * 16384) (y := 131072) (by omega)
  have u4 := tmodn (x := n * 8192) (y := 131072) (by omega)
  have u3 := tmodn (x := n * 8192) (y := 65536) (by omega)
  have u7 := tmodn (x := n % 8 * 32768) (y := 131072) (by omega)
  have g0 : 0 ≤ n % 8 := by omega
  have g1 : n % 8 < 8 := by omega
  obtain ⟨x, hx⟩ : ∃ x, n % 8 = x := ⟨_, rfl⟩
  rw [hx] at *
  have Q2 := Lib.hid K2
  have Q4 := Lib.hid K4
  have Q5 := Lib.hid K5
  have Q3 := Lib.hid K3
  have Q7 := Lib.hid K7
  have QA := Lib.hid (fun wr => bawake_ct wr)
  clear K2 K4 K5 K3 K7 hx hk
  have H := Mem.start w
  go_enter Try.func8, Try.ntmps8
  go_wp2_with (first
    | (go_at_call 9; first
        | (with_reducible refine (Q2.out _).mono ?_; rintro e w2 ⟨rfl, hB⟩; replace H := H.next hB; clear hB)
        | (with_reducible refine (Q4.out _).mono ?_; rintro e w2 ⟨rfl, hB⟩; replace H := H.next hB; clear hB)
        | (with_reducible refine (Q5.out _).mono ?_; rintro e w2 ⟨rfl, hB⟩; replace H := H.next hB; clear hB)
        | (with_reducible refine (Q7.out _).mono ?_; rintro e w2 ⟨rfl, hB⟩; replace H := H.next hB; clear hB))
    | (go_at_call 11; (with_reducible refine (Q3.out _).mono ?_; rintro e w2 ⟨rfl, hB⟩; replace H := H.next hB; clear hB))
    | (go_at_call 13; (with_reducible refine (QA.out _).mono ?_); rintro e w2 ⟨rfl, hB⟩; replace H := H.next hB; clear hB))
  go_ret
  exact ⟨rfl, H.toBelow⟩
set_option maxHeartbeats 4000000 in
theorem reach_4 (k n : Int) (w : World) (k0 : 0 ≤ k) (k1 : k < 256) (n0 : 0 ≤ n) (n1 : n < 256) (hk : k % 6 = 4) : Calls Try.prog 8 #[.int .u8 k, .int .u8 n] w fun e w' => e = .returned (.bool true) ∧ Below w.heap.size w w' := by
  have tk := tmodn (y := 6) k0
  rw [hk] at tk
  have h7 : bits .and .u8 n 7 = n % 8 := byte_all (p := fun x => bits .and .u8 x 7 = x % 8) (by decide +kernel) n n0 n1
  have h7i : bits .and .i64 n 7 = n % 8 := byte_all (p := fun x => bits .and .i64 x 7 = x % 8) (by decide +kernel) n n0 n1
  have K2 := fun wr => bprg_ct { mp0 with k := 2, bk := n } (oct0 2 n n0 n1) 262144 32768 wr (by decide) (by decide)
  rw [show okP { mp0 with k := 2, bk := n } 262144 32768 = true from rfl, show prgV { mp0 with k := 2, bk := n } 262144 32768 = n * 16384 % 262144 by (unfold prgV; rw [show okP { mp0 with k := 2, bk := n } 262144 32768 = true from rfl, if_pos rfl]; simp [mp0, inP, pBanks, pHalves, pWhole, pFour, B4.at]; try omega)] at K2
  have K4 := fun wr => bprg_ct { mp0 with k := 4, r6 := n, se := 0 } (octA n n0 n1 4 0 (by decide) (by decide)) 262144 32768 wr (by decide) (by decide)
  rw [show okP { mp0 with k := 4, r6 := n, se := 0 } 262144 32768 = true from rfl, show prgV { mp0 with k := 4, r6 := n, se := 0 } 262144 32768 = n * 8192 % 262144 by (unfold prgV; rw [show okP { mp0 with k := 4, r6 := n, se := 0 } 262144 32768 = true from rfl, if_pos rfl]; simp [mp0, inP, pBanks, pHalves, pWhole, pFour, B4.at]; try omega)] at K4
  have K5 := fun wr => bprg_ct { mp0 with k := 4, r6 := n, se := 64 } (octA n n0 n1 4 64 (by decide) (by decide)) 262144 49152 wr (by decide) (by decide)
  rw [show okP { mp0 with k := 4, r6 := n, se := 64 } 262144 49152 = true from rfl, show prgV { mp0 with k := 4, r6 := n, se := 64 } 262144 49152 = n * 8192 % 262144 by (unfold prgV; rw [show okP { mp0 with k := 4, r6 := n, se := 64 } 262144 49152 = true from rfl, if_pos rfl]; simp [mp0, inP, pBanks, pHalves, pWhole, pFour, B4.at]; try omega)] at K5
  have K3 := fun wr => bchr_ct { mp0 with k := 3, bk := n } (oct0 3 n n0 n1) 131072 0 wr (by decide) (by decide)
  rw [show okC { mp0 with k := 3, bk := n } 131072 0 = true from rfl, show chrV { mp0 with k := 3, bk := n } 131072 0 = n * 8192 % 131072 by (unfold chrV; rw [show okC { mp0 with k := 3, bk := n } 131072 0 = true from rfl, if_pos rfl]; simp [mp0, inC, cBanks, cWhole, cHalves, B8.at]; try omega)] at K3
  have K7 := fun wr => bprg_ct { mp0 with k := 7, bk := n % 8 } (oct0 7 (n % 8) (by omega) (by omega)) 262144 32768 wr (by decide) (by decide)
  rw [show okP { mp0 with k := 7, bk := n % 8 } 262144 32768 = true from rfl, show prgV { mp0 with k := 7, bk := n % 8 } 262144 32768 = n % 8 * 32768 % 262144 by (unfold prgV; rw [show okP { mp0 with k := 7, bk := n % 8 } 262144 32768 = true from rfl, if_pos rfl]; simp [mp0, inP, pBanks, pHalves, pWhole, pFour, B4.at]; try omega)] at K7
  rw [← h7] at K7
  simp only [mpV, mpC, mp0, errN, if_true] at K2 K4 K5 K3 K7
  rw [h7] at K7
  have u2 := tmodn (x := n * 16384) (y := 262144) (by omega)
  have u4 := tmodn (x := n * 8192) (y := 262144) (by omega)
  have u3 := tmodn (x := n * 8192) (y := 131072) (by omega)
  have u7 := tmodn (x := n % 8 * 32768) (y := 262144) (by omega)
  have g0 : 0 ≤ n % 8 := by omega
  have g1 : n % 8 < 8 := by omega
  obtain ⟨x, hx⟩ : ∃ x, n % 8 = x := ⟨_, rfl⟩
  rw [hx] at *
  have Q2 := Lib.hid K2
  have Q4 := Lib.hid K4
  have Q5 := Lib.hid K5
  have Q3 := Lib.hid K3
  have Q7 := Lib.hid K7
  have QA := Lib.hid (fun wr => bawake_ct wr)
  clear K2 K4 K5 K3 K7 hx hk
  have H := Mem.start w
  go_enter Try.func8, Try.ntmps8
  go_wp2_with (first
    | (go_at_call 9; first
        | (with_reducible refine (Q2.out _).mono ?_; rintro e w2 ⟨rfl, hB⟩; replace H := H.next hB; clear hB)
        | (with_reducible refine (Q4.out _).mono ?_; rintro e w2 ⟨rfl, hB⟩; replace H := H.next hB; clear hB)
        | (with_reducible refine (Q5.out _).mono ?_; rintro e w2 ⟨rfl, hB⟩; replace H := H.next hB; clear hB)
        | (with_reducible refine (Q7.out _).mono ?_; rintro e w2 ⟨rfl, hB⟩; replace H := H.next hB; clear hB))
    | (go_at_call 11; (with_reducible refine (Q3.out _).mono ?_; rintro e w2 ⟨rfl, hB⟩; replace H := H.next hB; clear hB))
    | (go_at_call 13; (with_reducible refine (QA.out _).mono ?_); rintro e w2 ⟨rfl, hB⟩; replace H := H.next hB; clear hB))
  go_ret
  exact ⟨rfl, H.toBelow⟩
set_option maxHeartbeats 4000000 in
theorem reach_5 (k n : Int) (w : World) (k0 : 0 ≤ k) (k1 : k < 256) (n0 : 0 ≤ n) (n1 : n < 256) (hk : k % 6 = 5) : Calls Try.prog 8 #[.int .u8 k, .int .u8 n] w fun e w' => e = .returned (.bool true) ∧ Below w.heap.size w w' := by
  have tk := tmodn (y := 6) k0
  rw [hk] at tk
  have h7 : bits .and .u8 n 7 = n % 8 := byte_all (p := fun x => bits .and .u8 x 7 = x % 8) (by decide +kernel) n n0 n1
  have h7i : bits .and .i64 n 7 = n % 8 := byte_all (p := fun x => bits .and .i64 x 7 = x % 8) (by decide +kernel) n n0 n1
  have K2 := fun wr => bprg_ct { mp0 with k := 2, bk := n } (oct0 2 n n0 n1) 524288 32768 wr (by decide) (by decide)
  rw [show okP { mp0 with k := 2, bk := n } 524288 32768 = true from rfl, show prgV { mp0 with k := 2, bk := n } 524288 32768 = n * 16384 % 524288 by (unfold prgV; rw [show okP { mp0 with k := 2, bk := n } 524288 32768 = true from rfl, if_pos rfl]; simp [mp0, inP, pBanks, pHalves, pWhole, pFour, B4.at]; try omega)] at K2
  have K4 := fun wr => bprg_ct { mp0 with k := 4, r6 := n, se := 0 } (octA n n0 n1 4 0 (by decide) (by decide)) 524288 32768 wr (by decide) (by decide)
  rw [show okP { mp0 with k := 4, r6 := n, se := 0 } 524288 32768 = true from rfl, show prgV { mp0 with k := 4, r6 := n, se := 0 } 524288 32768 = n * 8192 % 524288 by (unfold prgV; rw [show okP { mp0 with k := 4, r6 := n, se := 0 } 524288 32768 = true from rfl, if_pos rfl]; simp [mp0, inP, pBanks, pHalves, pWhole, pFour, B4.at]; try omega)] at K4
  have K5 := fun wr => bprg_ct { mp0 with k := 4, r6 := n, se := 64 } (octA n n0 n1 4 64 (by decide) (by decide)) 524288 49152 wr (by decide) (by decide)
  rw [show okP { mp0 with k := 4, r6 := n, se := 64 } 524288 49152 = true from rfl, show prgV { mp0 with k := 4, r6 := n, se := 64 } 524288 49152 = n * 8192 % 524288 by (unfold prgV; rw [show okP { mp0 with k := 4, r6 := n, se := 64 } 524288 49152 = true from rfl, if_pos rfl]; simp [mp0, inP, pBanks, pHalves, pWhole, pFour, B4.at]; try omega)] at K5
  have K3 := fun wr => bchr_ct { mp0 with k := 3, bk := n } (oct0 3 n n0 n1) 262144 0 wr (by decide) (by decide)
  rw [show okC { mp0 with k := 3, bk := n } 262144 0 = true from rfl, show chrV { mp0 with k := 3, bk := n } 262144 0 = n * 8192 % 262144 by (unfold chrV; rw [show okC { mp0 with k := 3, bk := n } 262144 0 = true from rfl, if_pos rfl]; simp [mp0, inC, cBanks, cWhole, cHalves, B8.at]; try omega)] at K3
  have K7 := fun wr => bprg_ct { mp0 with k := 7, bk := n % 8 } (oct0 7 (n % 8) (by omega) (by omega)) 524288 32768 wr (by decide) (by decide)
  rw [show okP { mp0 with k := 7, bk := n % 8 } 524288 32768 = true from rfl, show prgV { mp0 with k := 7, bk := n % 8 } 524288 32768 = n % 8 * 32768 % 524288 by (unfold prgV; rw [show okP { mp0 with k := 7, bk := n % 8 } 524288 32768 = true from rfl, if_pos rfl]; simp [mp0, inP, pBanks, pHalves, pWhole, pFour, B4.at]; try omega)] at K7
  rw [← h7] at K7
  simp only [mpV, mpC, mp0, errN, if_true] at K2 K4 K5 K3 K7
  rw [h7] at K7
  have u2 := tmodn (x := n * 16384) (y := 524288) (by omega)
  have u4 := tmodn (x := n * 8192) (y := 524288) (by omega)
  have u3 := tmodn (x := n * 8192) (y := 262144) (by omega)
  have u7 := tmodn (x := n % 8 * 32768) (y := 524288) (by omega)
  have g0 : 0 ≤ n % 8 := by omega
  have g1 : n % 8 < 8 := by omega
  obtain ⟨x, hx⟩ : ∃ x, n % 8 = x := ⟨_, rfl⟩
  rw [hx] at *
  have Q2 := Lib.hid K2
  have Q4 := Lib.hid K4
  have Q5 := Lib.hid K5
  have Q3 := Lib.hid K3
  have Q7 := Lib.hid K7
  have QA := Lib.hid (fun wr => bawake_ct wr)
  clear K2 K4 K5 K3 K7 hx hk
  have H := Mem.start w
  go_enter Try.func8, Try.ntmps8
  go_wp2_with (first
    | (go_at_call 9; first
        | (with_reducible refine (Q2.out _).mono ?_; rintro e w2 ⟨rfl, hB⟩; replace H := H.next hB; clear hB)
        | (with_reducible refine (Q4.out _).mono ?_; rintro e w2 ⟨rfl, hB⟩; replace H := H.next hB; clear hB)
        | (with_reducible refine (Q5.out _).mono ?_; rintro e w2 ⟨rfl, hB⟩; replace H := H.next hB; clear hB)
        | (with_reducible refine (Q7.out _).mono ?_; rintro e w2 ⟨rfl, hB⟩; replace H := H.next hB; clear hB))
    | (go_at_call 11; (with_reducible refine (Q3.out _).mono ?_; rintro e w2 ⟨rfl, hB⟩; replace H := H.next hB; clear hB))
    | (go_at_call 13; (with_reducible refine (QA.out _).mono ?_); rintro e w2 ⟨rfl, hB⟩; replace H := H.next hB; clear hB))
  go_ret
  exact ⟨rfl, H.toBelow⟩
theorem reaches_walk (k n : Int) (w : World) (k0 : 0 ≤ k) (k1 : k < 256) (n0 : 0 ≤ n) (n1 : n < 256) : Calls Try.prog 8 #[.int .u8 k, .int .u8 n] w fun e w' => e = .returned (.bool true) ∧ Below w.heap.size w w' := by
  have h : k % 6 = 0 ∨ k % 6 = 1 ∨ k % 6 = 2 ∨ k % 6 = 3 ∨ k % 6 = 4 ∨ k % 6 = 5 := by omega
  rcases h with h | h | h | h | h | h
  · exact reach_0 k n w k0 k1 n0 n1 h
  · exact reach_1 k n w k0 k1 n0 n1 h
  · exact reach_2 k n w k0 k1 n0 n1 h
  · exact reach_3 k n w k0 k1 n0 n1 h
  · exact reach_4 k n w k0 k1 n0 n1 h
  · exact reach_5 k n w k0 k1 n0 n1 h
end Go.Proofs.Ytodmhmkbiafahaa
