/-
  Several texts in one: what is read and written by the functions on the way to the statements. Conditions stand in each theorem.
-/
import Derived.Test.YtbonamhinnhlnaaGreatDoorL32
import Derived.Test.YtbonamhinnhlnaaGreatDoorL36
namespace Go.Proofs.YtbonamhinnhlnaaGreatDoor
open Go.RowKit
set_option linter.unusedSimpArgs false
set_option linter.unusedVariables false
set_option maxRecDepth 100000
def loopL (n : Int) : List Int := [162, n, 202, 208, 253, 2]
def lzN (n : Int) (k : Nat) : Int := (loopL n).getD k 0
def prW (n : Int) (k : Nat) : List (Int × Bool) := ((loopL n).take k).map (fun x => (x, false)) ++ List.replicate (256 - k) (0, false)
def rowW (n : Int) : Array Value := ((loopL n).map fun x => Value.int .u8 x).toArray
theorem rowW_at (n : Int) : ∀ k, k < 6 → (rowW n)[k]? = some (.int .u8 (lzN n k))
  | 0, _ => rfl
  | 1, _ => rfl
  | 2, _ => rfl
  | 3, _ => rfl
  | 4, _ => rfl
  | 5, _ => rfl
  | k + 6, h => absurd h (by omega)
theorem prW_set (n : Int) : ∀ k, k < 6 → (splice (mcOf (prW n k)).toList (k * 2) (Value.cells (.int .u8 (lzN n k))).toList).toArray = mcOf (prW n (k + 1))
  | 0, _ => by kernel_rfl
  | 1, _ => by kernel_rfl
  | 2, _ => by kernel_rfl
  | 3, _ => by kernel_rfl
  | 4, _ => by kernel_rfl
  | 5, _ => by kernel_rfl
  | k + 6, h => absurd h (by omega)
theorem prW_size (n : Int) : ∀ k, k < 6 → (mcOf (prW n k)).size = 512
  | 0, _ => by kernel_rfl
  | 1, _ => by kernel_rfl
  | 2, _ => by kernel_rfl
  | 3, _ => by kernel_rfl
  | 4, _ => by kernel_rfl
  | 5, _ => by kernel_rfl
  | k + 6, h => absurd h (by omega)
theorem build_pw (n : Int) (W : World) : (Instr.buildSlice 56 6 #[(0, .int .u8 162), (1, .int .u8 n), (2, .int .u8 202), (3, .int .u8 208), (4, .int .u8 253), (5, .int .u8 2)]).run Tryz.prog W = .ok (.slice (some ⟨W.heap.size, 0, none⟩) 6 6) (W.alloc (.cells (rowW n) 5)) := by kernel_rfl
theorem memW_row (n : Int) : RowG bcl 2 (mcOf (memW n)) 256 (memW n) := mcOf_row _ 256 rfl (by decide) (by kernel_rfl)
theorem lpA_fit (x : Int) (xb : Bool) (x0 : 0 ≤ x) (x1 : x < 256) : Fit (lpA x xb) := by constructor <;> (unfold lpA; dsimp only) <;> first | exact x0 | exact x1 | decide
theorem loop_run (x : Int) (xb : Bool) (n : Int) (T : Nat) (hT : 5 * turnsL n + 2 = T) (x0 : 0 ≤ x) (x1 : x < 256) (n0 : 0 ≤ n) (n1 : n < 256) (sv : Value) (w : World) (G : GlobO w) (hr : Rd w sv (memW n)) :
    Calls Tryz.prog 8 #[.agg #[.int .u8 0, .bool false, .int .u8 x, .bool xb, .int .u8 0, .bool false, .int .u8 0, .bool false, .int .u8 0, .int .u8 0, .int .u16 0, .bool false, .int .u8 0, .int .i64 0, .int .u16 0, .bool false, .int .u8 0, .bool false, .bool false, .int .i64 0, .bool false, .bool false, .int .i64 0, .bool false, .bool false], sv, .int .i64 2000] w fun e w' =>
    ∃ g cap cs q cp p, e = .returned (.tuple #[.agg (cpC (lpJ 0 p)), .slice (some ⟨g, 0, none⟩) 256 cap, .slice (some ⟨q, 0, none⟩) (T + 1) cp, .int .i64 0]) ∧ RowG bcl 2 cs cap (memW n) ∧ Mem w.heap.size [] w w' [(g, cs)] := by
  refine (run_yes (lpA x xb) sv (memW n) 2000 (lpA_fit x xb x0 x1) (by kernel_rfl) (memW_ok n n0 n1) (by rw [memW_len]; decide +kernel) (by omega) w G hr).mono ?_
  rintro e w' ⟨k, g, cap, cs, v, hE, rfl, hG, hM, hO, _⟩
  obtain ⟨hk, p, hs⟩ := lp_ends x xb n n0 n1 k hE
  rw [hs] at hG
  rw [show k = T + 1 by omega] at hO
  obtain ⟨q, cp, rfl⟩ := ownsRow_succ hO
  exact ⟨g, cap, cs, q, cp, p, by rw [hs, memW_len], hG, hM⟩
attribute [local irreducible] wpList
set_option maxHeartbeats 16000000 in
theorem floop_walk (n : Int) (x : Int) (xb : Bool) (w : World) (G : GlobO w) (n0 : 0 ≤ n) (n1 : n < 256) (x0 : 0 ≤ x) (x1 : x < 256) : Calls Tryz.prog 5 #[.int .u8 n, .agg #[.int .u8 x, .bool xb]] w fun e w' => e = .returned (.bool true) ∧ Below w.heap.size w w' := by
  obtain ⟨T, hT⟩ : ∃ T, 5 * turnsL n + 2 = T := ⟨_, rfl⟩
  have QW := Lib.hid (fun wr g => awake11_ct wr g)
  have QR := Lib.hid (fun sv wr g h => loop_run x xb n T hT x0 x1 n0 n1 sv wr g h)
  have QS := Lib.hid (fun sv tv wr h1 h2 => rsame_ct sv tv (memW n) (memW n) wr h1 h2)
  rw [eqL_self] at QS
  have HRW := Lib.hid (memW_row n)
  have HBR := Lib.hid (build_pw n)
  have HZC := Lib.hid alloc_cpu
  have HM1 := Lib.hid make_by
  have GG := Lib.hid G
  clear G
  have MRa : True := trivial
  have H := Mem.start w
  go_enter Tryz.func5, Tryz.ntmps5
  go_wp2_with (first | (refine wpList_mboxA rfl _ _ rfl H _ rfl ?_; clear H; (first | (clear MRa; intro Ra w1 _ H))) | (refine wpList_mmk rfl _ _ _ rfl H _ _ rfl rfl HM1.out ?_; clear H; intro Rm w1 _ H) | (refine wpList_mrow rfl _ _ _ rfl H #[(0, .int .u8 162), (1, .int .u8 n), (2, .int .u8 202), (3, .int .u8 208), (4, .int .u8 253), (5, .int .u8 2)] (by first | rfl | (simp only [List.map_toArray, List.map_cons, List.map_nil]; rfl)) _ _ HBR.out ?_; clear H; intro Rl w1 H) | fail)
  have HG0 := Lib.hid (show mcOf (prW n 0) = zcA 256 by kernel_rfl)
  go_loopw [17] (fun i wr => ∃ k : Nat, k ≤ 6 ∧ i = .int .i64 k ∧ Mem w.heap.size [] w wr [(Rl, rowW n), (Rm, mcOf (prW n k)), (Ra, #[.int .u8 x, .bool xb])]) (fun i _ => 6 - (intOf i).toNat)
  case atStart => exact ⟨0, Nat.zero_le _, rfl, by rw [HG0.out]; exact H⟩
  case round =>
    clear H
    obtain ⟨k, hk, rfl, H⟩ := hrel
    by_cases h14 : k = 6
    · subst h14
      replace H := H.sub (List.Sublist.cons _ (List.Sublist.refl _))
      rw [show mcOf (prW n 6) = mcOf (memW n) by kernel_rfl] at H
      rw [show ((6 : Nat) : Int) = 6 from rfl]
      clear HG0 HM1 HBR
      by_cases hn : n = 0
      · have ht : T = 1282 := by rw [← hT, hn]; rfl
        subst ht
        have e0 : (n == 0) = true := by simpa using hn
        clear hT hn
        go_wp2_with (first | (refine gate_load _ _ rfl ?_; refine wpList_mload rfl 23 _ rfl _ _ rfl 1 H _ #[.int .u8 x, .bool xb] rfl (by decide +kernel) (by kernel_rfl) (part2 rfl rfl) ?_) | (go_at_call 8; (with_reducible refine (QR.out _ _ (GG.out.mem H) (rd_row (i := 0) H rfl HRW.out (memW_len _))).mono ?_); rintro e w2 ⟨g, cap, cs, q, cp, p, rfl, hG, hM⟩; replace H := Mem.join H hM; clear hM; simp only [List.cons_append, List.nil_append] at H; replace hG := Lib.hid hG) | (refine wpList_mnew rfl _ rfl H _ HZC.out ?_; clear H; intro Rd w1 _ H) | (refine gate_store _ _ _ rfl ?_; refine wpList_mstoreA rfl 28 _ _ rfl rfl _ rfl 0 H (cpC _) _ rfl rfl (by kernel_rfl) (by kernel_rfl) (by kernel_rfl) ?_; clear H; intro w1 H; simp only [List.set_cons_zero, List.set_cons_succ] at H) | (refine gate_load _ _ rfl ?_; refine wpList_mload1 rfl _ _ rfl _ 24 rfl 0 H _ (.bool true) rfl rfl (by decide +kernel) ?_) | (refine gate_load _ _ rfl ?_; refine wpList_mload1 rfl _ _ rfl _ 23 rfl 0 H _ (.bool false) rfl rfl (by decide +kernel) ?_) | (refine gate_load _ _ rfl ?_; refine wpList_mload rfl 23 _ rfl _ _ rfl 0 H _ #[.int .u8 0, .bool false] rfl (by decide +kernel) (by kernel_rfl) (part2 rfl rfl) ?_) | (go_at_call 13; (with_reducible refine (QS.out _ _ _ (rd_row (i := 1) H rfl hG.out (memW_len _)) (rd_row (i := 2) H rfl HRW.out (memW_len _))).mono ?_); rintro e w2 ⟨rfl, hB⟩; replace H := H.next hB; clear hB) | (go_at_call 14; (with_reducible refine (QW.out _ (GG.out.mem H)).mono ?_); rintro e w2 ⟨rfl, hB⟩; replace H := H.next hB; clear hB) | fail)
        go_ret
        exact ⟨rfl, H.toBelow⟩
      · have ht : ((T : Nat) : Int) + 1 = 5 * n + 3 := by
          rw [← hT]
          unfold turnsL
          rw [if_neg hn]
          omega
        have e0 : (n == 0) = false := by simpa using hn
        clear hT hn
        go_wp2_with (first | (refine gate_load _ _ rfl ?_; refine wpList_mload rfl 23 _ rfl _ _ rfl 1 H _ #[.int .u8 x, .bool xb] rfl (by decide +kernel) (by kernel_rfl) (part2 rfl rfl) ?_) | (go_at_call 8; (with_reducible refine (QR.out _ _ (GG.out.mem H) (rd_row (i := 0) H rfl HRW.out (memW_len _))).mono ?_); rintro e w2 ⟨g, cap, cs, q, cp, p, rfl, hG, hM⟩; replace H := Mem.join H hM; clear hM; simp only [List.cons_append, List.nil_append] at H; replace hG := Lib.hid hG) | (refine wpList_mnew rfl _ rfl H _ HZC.out ?_; clear H; intro Rd w1 _ H) | (refine gate_store _ _ _ rfl ?_; refine wpList_mstoreA rfl 28 _ _ rfl rfl _ rfl 0 H (cpC _) _ rfl rfl (by kernel_rfl) (by kernel_rfl) (by kernel_rfl) ?_; clear H; intro w1 H; simp only [List.set_cons_zero, List.set_cons_succ] at H) | (refine gate_load _ _ rfl ?_; refine wpList_mload1 rfl _ _ rfl _ 24 rfl 0 H _ (.bool true) rfl rfl (by decide +kernel) ?_) | (refine gate_load _ _ rfl ?_; refine wpList_mload1 rfl _ _ rfl _ 23 rfl 0 H _ (.bool false) rfl rfl (by decide +kernel) ?_) | (refine gate_load _ _ rfl ?_; refine wpList_mload rfl 23 _ rfl _ _ rfl 0 H _ #[.int .u8 0, .bool false] rfl (by decide +kernel) (by kernel_rfl) (part2 rfl rfl) ?_) | (go_at_call 13; (with_reducible refine (QS.out _ _ _ (rd_row (i := 1) H rfl hG.out (memW_len _)) (rd_row (i := 2) H rfl HRW.out (memW_len _))).mono ?_); rintro e w2 ⟨rfl, hB⟩; replace H := H.next hB; clear hB) | (go_at_call 14; (with_reducible refine (QW.out _ (GG.out.mem H)).mono ?_); rintro e w2 ⟨rfl, hB⟩; replace H := H.next hB; clear hB) | fail)
        go_ret
        exact ⟨rfl, H.toBelow⟩
    · have h1 := rowW_at n k (by omega)
      have h2 := prW_set n k (by omega)
      have h3 : ∀ x, k * 2 + (Value.cells (.int .u8 x)).size ≤ (mcOf (prW n k)).size := fun x => by rw [prW_size n k (by omega)]; show k * 2 + 1 ≤ 512; omega
      generalize lzN n k = z at *
      generalize hn : mcOf (prW n (k + 1)) = N1 at *
      generalize mcOf (prW n k) = N0 at *
      have h4 : k < 6 := by omega
      replace h1 := Lib.hid h1
      replace h2 := Lib.hid h2
      replace h3 := Lib.hid h3
      replace hn := Lib.hid hn
      go_wp2_with (first | (refine gate_load _ _ rfl ?_; refine wpList_mload1 rfl _ _ rfl _ _ rfl 0 H _ _ rfl h1.out (by decide +kernel) ?_) | (refine gate_store _ _ _ rfl ?_; refine wpList_mstore rfl 5 _ _ rfl rfl _ _ rfl 1 H _ _ rfl (.int _ _) rfl (by kernel_rfl) (h3.out _) (by kernel_rfl) h2.out ?_; clear H; intro w1 H; simp only [List.set_cons_zero, List.set_cons_succ] at H) | fail)
      go_roundw
      case rel => exact ⟨k + 1, by omega, by go_num, by rw [hn.out]; exact H⟩
      case measure => simp [intOf]; omega
end Go.Proofs.YtbonamhinnhlnaaGreatDoor
