/-
  Several texts in one: what is read and written by the functions on the way to the statements. Conditions stand in each theorem.
-/
import Derived.Test.YtbonamhinnhlnaaGreatDoorP32
import Derived.Test.YtbonamhinnhlnaaGreatDoorP35
import Derived.Test.YtbonamhinnhlnaaGreatDoorP10
namespace Go.Proofs.YtbonamhinnhlnaaGreatDoor
open Go.RowKit
set_option linter.unusedSimpArgs false
set_option linter.unusedVariables false
set_option maxRecDepth 100000
def mcOf (l : List (Int × Bool)) : Array Value := (l.flatMap bcl).toArray
theorem mcOf_row (l : List (Int × Bool)) (n : Nat) (hl : l.length = n) (hn : n ≤ 65536) (hs : (mcOf l).size = n * 2) : RowG bcl 2 (mcOf l) n l := ⟨hs, by rw [hl]; exact Nat.le_refl _, by unfold maxLen; omega, fun j u h => by
  unfold mcOf
  rw [List.getElem?_toArray]
  exact h⟩
def progL : List Int := [24, 165, 128, 101, 129, 133, 130, 169, 0, 105, 0, 133, 131, 2]
def pzN (k : Nat) : Int := progL.getD k 0
def prgL (k : Nat) : List (Int × Bool) := (progL.take k).map (fun x => (x, false)) ++ List.replicate (256 - k) (0, false)
def rowP : Array Value := (progL.map fun x => Value.int .u8 x).toArray
theorem rowP_at : ∀ k, k < 14 → rowP[k]? = some (.int .u8 (pzN k))
  | 0, _ => rfl
  | 1, _ => rfl
  | 2, _ => rfl
  | 3, _ => rfl
  | 4, _ => rfl
  | 5, _ => rfl
  | 6, _ => rfl
  | 7, _ => rfl
  | 8, _ => rfl
  | 9, _ => rfl
  | 10, _ => rfl
  | 11, _ => rfl
  | 12, _ => rfl
  | 13, _ => rfl
  | k + 14, h => absurd h (by omega)
theorem prg_set : ∀ k, k < 14 → (splice (mcOf (prgL k)).toList (k * 2) (Value.cells (.int .u8 (pzN k))).toList).toArray = mcOf (prgL (k + 1))
  | 0, _ => by kernel_rfl
  | 1, _ => by kernel_rfl
  | 2, _ => by kernel_rfl
  | 3, _ => by kernel_rfl
  | 4, _ => by kernel_rfl
  | 5, _ => by kernel_rfl
  | 6, _ => by kernel_rfl
  | 7, _ => by kernel_rfl
  | 8, _ => by kernel_rfl
  | 9, _ => by kernel_rfl
  | 10, _ => by kernel_rfl
  | 11, _ => by kernel_rfl
  | 12, _ => by kernel_rfl
  | 13, _ => by kernel_rfl
  | k + 14, h => absurd h (by omega)
theorem prg_size : ∀ k, k < 14 → (mcOf (prgL k)).size = 512
  | 0, _ => by kernel_rfl
  | 1, _ => by kernel_rfl
  | 2, _ => by kernel_rfl
  | 3, _ => by kernel_rfl
  | 4, _ => by kernel_rfl
  | 5, _ => by kernel_rfl
  | 6, _ => by kernel_rfl
  | 7, _ => by kernel_rfl
  | 8, _ => by kernel_rfl
  | 9, _ => by kernel_rfl
  | 10, _ => by kernel_rfl
  | 11, _ => by kernel_rfl
  | 12, _ => by kernel_rfl
  | 13, _ => by kernel_rfl
  | k + 14, h => absurd h (by omega)
theorem build_pr (W : World) : (Instr.buildSlice 56 14 #[(0, .int .u8 24), (1, .int .u8 165), (2, .int .u8 128), (3, .int .u8 101), (4, .int .u8 129), (5, .int .u8 133), (6, .int .u8 130), (7, .int .u8 169), (8, .int .u8 0), (9, .int .u8 105), (10, .int .u8 0), (11, .int .u8 133), (12, .int .u8 131), (13, .int .u8 2)]).run Tryz.prog W = .ok (.slice (some ⟨W.heap.size, 0, none⟩) 14 14) (W.alloc (.cells rowP 5)) := by kernel_rfl
theorem memP_set1 (a : Int) (la : Bool) : (splice (mcOf (memP 0 false 0 false false)).toList 256 (Value.cells (.agg #[.int .u8 a, .bool la])).toList).toArray = mcOf (memP a la 0 false false) := by kernel_rfl
theorem memP_set2 (a b : Int) (la lb : Bool) : (splice (mcOf (memP a la 0 false false)).toList 258 (Value.cells (.agg #[.int .u8 b, .bool lb])).toList).toArray = mcOf (memP a la b lb false) := by kernel_rfl
theorem memP_set3 (a b : Int) (la lb : Bool) : (splice (mcOf (memP a la b lb false)).toList 0 (Value.cells (.int .u8 56)).toList).toArray = mcOf (memP a la b lb true) := by kernel_rfl
theorem memP_row (a b : Int) (la lb cy : Bool) : RowG bcl 2 (mcOf (memP a la b lb cy)) 256 (memP a la b lb cy) := mcOf_row _ 256 rfl (by decide) (by kernel_rfl)
def memF (a b : Int) (la lb cy : Bool) : List (Int × Bool) := ((memP a la b lb cy).set 130 (fpX a b cy, abB la lb)).set 131 (fpY a b cy, abD la lb)
theorem memF_130 (a b : Int) (la lb cy : Bool) : nth (memF a b la lb cy) 130 = (fpX a b cy, abB la lb) := by kernel_rfl
theorem memF_131 (a b : Int) (la lb cy : Bool) : nth (memF a b la lb cy) 131 = (fpY a b cy, abD la lb) := by kernel_rfl
theorem memF_len (a b : Int) (la lb cy : Bool) : (memF a b la lb cy).length = 256 := by kernel_rfl
theorem prog_run (a b : Int) (la lb cy : Bool) (a0 : 0 ≤ a) (a1 : a < 256) (b0 : 0 ≤ b) (b1 : b < 256) (X Y : Int) (S : Bool) (hX : fpX a b cy = X) (hY : fpY a b cy = Y) (hS : abB la lb = S) (hT : abD la lb = S) (sv : Value) (w : World) (G : GlobO w) (hr : Rd w sv (memP a la b lb cy)) :
    Calls Tryz.prog 8 #[.agg #[.int .u8 0, .bool false, .int .u8 0, .bool false, .int .u8 0, .bool false, .int .u8 0, .bool false, .int .u8 0, .int .u8 0, .int .u16 0, .bool false, .int .u8 0, .int .i64 0, .int .u16 0, .bool false, .int .u8 0, .bool false, .bool false, .int .i64 0, .bool false, .bool false, .int .i64 0, .bool false, .bool false], sv, .int .i64 200] w fun e w' =>
    ∃ g cap cs q cp, e = .returned (.tuple #[.agg (cpC (fpS_20 a b la lb cy)), .slice (some ⟨g, 0, none⟩) 256 cap, .slice (some ⟨q, 0, none⟩) 20 cp, .int .i64 0]) ∧ (cs[260]? = some (.int .u8 X) ∧ cs[261]? = some (.bool S) ∧ cs[262]? = some (.int .u8 Y) ∧ cs[263]? = some (.bool S)) ∧ Mem w.heap.size [] w w' [(g, cs)] := by
  refine (run_yes cp0 sv (memP a la b lb cy) 200 cp0_fit cp0_ok (memP_ok a b la lb cy a0 a1 b0 b1) (by rw [memP_len]; decide +kernel) (by omega) w G hr).mono ?_
  rintro e w' ⟨k, g, cap, cs, v, hE, rfl, hG, hM, hO, _⟩
  obtain rfl := fp_ends a b la lb cy k hE
  rw [fp_20] at hG
  obtain ⟨q, cp, rfl⟩ := ownsRow_succ hO
  replace hG : RowG bcl 2 cs cap (memF a b la lb cy) := hG
  have h1 := row_get hG 130 (by rw [memF_len]; decide)
  have h2 := row_get hG 131 (by rw [memF_len]; decide)
  rw [memF_130, hX, hS] at h1
  rw [memF_131, hY, hT] at h2
  exact ⟨g, cap, cs, q, cp, by rw [fp_20, memP_len], ⟨h1.1, h1.2, h2.1, h2.2⟩, hM⟩
attribute [local irreducible] wpList
set_option maxHeartbeats 16000000 in
theorem fprogram_walk (a b : Int) (la lb cy : Bool) (w : World) (G : GlobO w) (a0 : 0 ≤ a) (a1 : a < 256) (b0 : 0 ≤ b) (b1 : b < 256) : Calls Tryz.prog 4 #[.agg #[.int .u8 a, .bool la], .agg #[.int .u8 b, .bool lb], .bool cy] w fun e w' => e = .returned (.bool true) ∧ Below w.heap.size w w' := by
  have QW := Lib.hid (fun wr g => awake11_ct wr g)
  have HS1 := Lib.hid (memP_set1 a la)
  have HS2 := Lib.hid (memP_set2 a b la lb)
  have HS3 := Lib.hid (memP_set3 a b la lb)
  have HRW := Lib.hid (fun cy => memP_row a b la lb cy)
  have HBR := Lib.hid build_pr
  have HZC := Lib.hid alloc_cpu
  have HM1 := Lib.hid make_by
  have GG := Lib.hid G
  clear G
  have MRa : True := trivial
  have MRb : True := trivial
  have H := Mem.start w
  go_enter Tryz.func4, Tryz.ntmps4
  go_wp2_with (first | (refine wpList_mboxA rfl _ _ rfl H _ rfl ?_; clear H; (first | (clear MRa; intro Ra w1 _ H) | (clear MRb; intro Rb w1 _ H))) | (refine wpList_mmk rfl _ _ _ rfl H _ _ rfl rfl HM1.out ?_; clear H; intro Rm w1 _ H) | (refine wpList_mrow rfl _ _ _ rfl H #[(0, .int .u8 24), (1, .int .u8 165), (2, .int .u8 128), (3, .int .u8 101), (4, .int .u8 129), (5, .int .u8 133), (6, .int .u8 130), (7, .int .u8 169), (8, .int .u8 0), (9, .int .u8 105), (10, .int .u8 0), (11, .int .u8 133), (12, .int .u8 131), (13, .int .u8 2)] (by first | rfl | (simp only [List.map_toArray, List.map_cons, List.map_nil]; rfl)) _ _ HBR.out ?_; clear H; intro Rl w1 H) | fail)
  have HG0 := Lib.hid (show mcOf (prgL 0) = zcA 256 by kernel_rfl)
  go_loopw [20] (fun i wr => ∃ k : Nat, k ≤ 14 ∧ i = .int .i64 k ∧ Mem w.heap.size [] w wr [(Rl, rowP), (Rm, mcOf (prgL k)), (Rb, #[.int .u8 b, .bool lb]), (Ra, #[.int .u8 a, .bool la])]) (fun i _ => 14 - (intOf i).toNat)
  case atStart => exact ⟨0, Nat.zero_le _, rfl, by rw [HG0.out]; exact H⟩
  case round =>
    clear H
    obtain ⟨k, hk, rfl, H⟩ := hrel
    by_cases h14 : k = 14
    · subst h14
      replace H := H.sub (List.Sublist.cons _ (List.Sublist.refl _))
      rw [show mcOf (prgL 14) = mcOf (memP 0 false 0 false false) by kernel_rfl] at H
      rw [show ((14 : Nat) : Int) = 14 from rfl]
      go_wp2_with fail
      (try simp only [Act.put, List.setIfInBounds_toArray, List.set_cons_succ, List.set_cons_zero])
      refine wp_region_x (by kernel_rfl) (by kernel_rfl) [(some 31, fun _ => .slice (some ⟨Rm, 0, none⟩) 256 256), (some 32, fun _ => .slice (some ⟨Rm, 0, none⟩) 256 256), (some 33, fun _ => .agg #[.int .u8 a, .bool la]), (some 34, fun _ => .agg #[.int .u8 b, .bool lb]), (some 35, fun _ => .pointer (some ⟨Rm, 256, none⟩)), (none, fun _ => undef), (some 36, fun _ => .pointer (some ⟨Rm, 258, none⟩)), (none, fun _ => undef)] (fun D bq wv => Mem w.heap.size [] w wv [(Rm, cond (D 7) (mcOf (memP a la b lb false)) (cond (D 5) (mcOf (memP a la 0 false false)) (mcOf (memP 0 false 0 false false)))), (Rb, #[.int .u8 b, .bool lb]), (Ra, #[.int .u8 a, .bool la])]) 110 (by rfl) (by rfl) (by rfl) H.drew ⟨⟨rfl, ?p0⟩, ⟨rfl, ?p1⟩, ⟨rfl, ?p2⟩, ⟨rfl, ?p3⟩, ⟨rfl, ?p4⟩, ⟨rfl, ?p5⟩, ⟨rfl, ?p6⟩, ⟨rfl, ?p7⟩, trivial⟩ ?_
      case p0 =>
        intro D bq a' w' hk hc he hl hW
        (try dsimp only at hW)
        have f7 : a'.tmps.getD 7 undef = .slice (some ⟨Rm, 0, none⟩) 256 256 := (hl 7).trans ((vsx_no rfl).trans rfl)
        exact wp_val (.slice (some ⟨Rm, 0, none⟩) 256 256) (by simp only [execOp, Act.eval, List.map_toArray, List.map_cons, List.map_nil]; rw [f7]; kernel_rfl) ⟨0, rfl, hW⟩
      case p1 =>
        intro D bq a' w' hk hc he hl hW
        (try dsimp only at hW)
        have f7 : a'.tmps.getD 7 undef = .slice (some ⟨Rm, 0, none⟩) 256 256 := (hl 7).trans ((vsx_no rfl).trans rfl)
        exact wp_val (.slice (some ⟨Rm, 0, none⟩) 256 256) (by simp only [execOp, Act.eval, List.map_toArray, List.map_cons, List.map_nil]; rw [f7]; kernel_rfl) ⟨0, rfl, hW⟩
      case p2 =>
        intro D bq a' w' hk hc he hl hW
        (try dsimp only at hW)
        have f3 : a'.tmps.getD 3 undef = .pointer (some ⟨Ra, 0, none⟩) := (hl 3).trans ((vsx_no rfl).trans rfl)
        exact wp_sloadA _ _ rfl Ra f3 2 hW #[.int .u8 a, .bool la] rfl (by decide +kernel) (by kernel_rfl) ⟨0, rfl, hW⟩
      case p3 =>
        intro D bq a' w' hk hc he hl hW
        (try dsimp only at hW)
        have f4 : a'.tmps.getD 4 undef = .pointer (some ⟨Rb, 0, none⟩) := (hl 4).trans ((vsx_no rfl).trans rfl)
        exact wp_sloadA _ _ rfl Rb f4 1 hW #[.int .u8 b, .bool lb] rfl (by decide +kernel) (by kernel_rfl) ⟨0, rfl, hW⟩
      case p4 =>
        intro D bq a' w' hk hc he hl hW
        (try dsimp only at hW)
        have e0 : a'.tmps.getD 31 undef = .slice (some ⟨Rm, 0, none⟩) 256 256 := (hl 31).trans (vsx_at (f := fun _ => .slice (some ⟨Rm, 0, none⟩) 256 256) rfl (he ⟨0, .data⟩ (by simp) rfl) rfl)
        exact wp_val (.pointer (some ⟨Rm, 256, none⟩)) (by simp only [execOp, Act.eval, List.map_toArray, List.map_cons, List.map_nil]; rw [e0]; kernel_rfl) ⟨0, rfl, hW⟩
      case p5 =>
        intro D bq a' w' hk hc he hl hW
        (try dsimp only at hW)
        have e4 : a'.tmps.getD 35 undef = .pointer (some ⟨Rm, 256, none⟩) := (hl 35).trans (vsx_at (f := fun _ => .pointer (some ⟨Rm, 256, none⟩)) rfl (he ⟨4, .data⟩ (by simp) rfl) rfl)
        have e2 : a'.tmps.getD 33 undef = .agg #[.int .u8 a, .bool la] := (hl 33).trans (vsx_at (f := fun _ => .agg #[.int .u8 a, .bool la]) rfl (he ⟨2, .data⟩ (by simp) rfl) rfl)
        have h7 : D 7 = false := ClosedX.no hc .chain hk (i := 7) rfl (by simp) rfl
        have hM := hW
        simp only [hk, h7, cond_false] at hM
        exact wp_sstore1 _ _ _ rfl rfl Rm 256 e4 0 hM (mcOf (memP 0 false 0 false false)) (mcOf (memP a la 0 false false)) rfl _ e2 (by kernel_rfl) (of_decide_eq_true (by kernel_rfl)) (by kernel_rfl) HS1.out fun w1 hM1 => ⟨0, rfl, by show Mem _ _ _ _ [(Rm, cond (D 7) (mcOf (memP a la b lb false)) (mcOf (memP a la 0 false false))), _, _]; rw [h7]; exact hM1⟩
      case p6 =>
        intro D bq a' w' hk hc he hl hW
        (try dsimp only at hW)
        have e1 : a'.tmps.getD 32 undef = .slice (some ⟨Rm, 0, none⟩) 256 256 := (hl 32).trans (vsx_at (f := fun _ => .slice (some ⟨Rm, 0, none⟩) 256 256) rfl (he ⟨1, .data⟩ (by simp) rfl) rfl)
        exact wp_val (.pointer (some ⟨Rm, 258, none⟩)) (by simp only [execOp, Act.eval, List.map_toArray, List.map_cons, List.map_nil]; rw [e1]; kernel_rfl) ⟨0, rfl, hW⟩
      case p7 =>
        intro D bq a' w' hk hc he hl hW
        (try dsimp only at hW)
        have e6 : a'.tmps.getD 36 undef = .pointer (some ⟨Rm, 258, none⟩) := (hl 36).trans (vsx_at (f := fun _ => .pointer (some ⟨Rm, 258, none⟩)) rfl (he ⟨6, .data⟩ (by simp) rfl) rfl)
        have e3 : a'.tmps.getD 34 undef = .agg #[.int .u8 b, .bool lb] := (hl 34).trans (vsx_at (f := fun _ => .agg #[.int .u8 b, .bool lb]) rfl (he ⟨3, .data⟩ (by simp) rfl) rfl)
        have h5 := he ⟨5, .chain⟩ (by simp) rfl
        have hM := hW
        simp only [hk, h5, cond_false, cond_true] at hM
        exact wp_sstore1 _ _ _ rfl rfl Rm 258 e6 0 hM (mcOf (memP a la 0 false false)) (mcOf (memP a la b lb false)) rfl _ e3 (by kernel_rfl) (of_decide_eq_true (by kernel_rfl)) (by kernel_rfl) HS2.out fun w1 hM1 => ⟨0, rfl, hM1⟩
      intro D bq wv hD hW
      (try dsimp only at hW)
      simp only [hD 7 (by decide), cond_true] at hW
      clear H hD
      have H := hW
      clear hW
      simp only [putAll, vsOf, Nat.reduceAdd, List.foldl_cons, List.foldl_nil, Act.put, List.setIfInBounds_toArray, List.set_cons_succ, List.set_cons_zero]
      clear HS1 HS2 HM1 HBR HG0
      have HS4 := Lib.hid (show (mcOf (memP a la b lb false)).size = 512 by kernel_rfl)
      have MRc : True := trivial
      have hX := fpX_sum a b cy
      have hY := fpY_car a b cy a0 a1 b0 b1
      have gc := oneI_two cy
      have g5 : a + b + oneI cy < 512 := by omega
      clear gc
      cases cy <;> simp only [oneI, Bool.false_eq_true, if_true, if_false, Int.add_zero] at g5 hX hY <;> cases la <;> cases lb
      · have QR := Lib.hid (fun sv wr g h => prog_run a b false false false a0 a1 b0 b1 ((a + b) % 256) ((a + b) / 256) false hX hY (by decide +kernel) (by decide +kernel) sv wr g h)
        clear hX hY
        go_wp2_with (first | (refine wpList_mnew rfl _ rfl H _ HZC.out ?_; clear H; (first | (clear MRc; intro Rc w1 _ H) | (intro Rd w1 _ H))) | (refine gate_store _ _ _ rfl ?_; refine wpList_mstoreA rfl 28 _ _ rfl rfl _ rfl 0 H (cpC _) _ rfl rfl (by kernel_rfl) (by kernel_rfl) (by kernel_rfl) ?_; clear H; intro w1 H; simp only [List.set_cons_zero, List.set_cons_succ] at H) | (go_at_call 8; (with_reducible refine (QR.out _ _ (GG.out.mem H) (rd_row (i := 1) H rfl (HRW.out false) (memP_len _ _ _ _ _))).mono ?_); rintro e w2 ⟨g, cap, cs, q, cp, rfl, ⟨hr1, hr2, hr3, hr4⟩, hM⟩; replace H := Mem.join H hM; clear hM; simp only [List.cons_append, List.nil_append] at H) | (refine gate_load _ _ rfl ?_; refine wpList_mloadA rfl 28 _ rfl _ rfl 0 H _ rfl (by decide +kernel) (by kernel_rfl) ?_) | (refine gate_load _ _ rfl ?_; refine wpList_mload1 rfl _ _ rfl _ 0 rfl 5 H _ (.int .u8 a) rfl rfl (by decide +kernel) ?_) | (refine gate_load _ _ rfl ?_; refine wpList_mload1 rfl _ _ rfl _ 0 rfl 4 H _ (.int .u8 b) rfl rfl (by decide +kernel) ?_) | (refine gate_load _ _ rfl ?_; refine wpList_mload1 rfl _ _ rfl _ 1 rfl 5 H _ (.bool false) rfl rfl (by decide +kernel) ?_) | (refine gate_load _ _ rfl ?_; refine wpList_mload1 rfl _ _ rfl _ 1 rfl 4 H _ (.bool false) rfl rfl (by decide +kernel) ?_) | (refine gate_load _ _ rfl ?_; refine wpList_mload1 rfl _ _ rfl _ 24 rfl 0 H _ (.bool true) rfl rfl (by decide +kernel) ?_) | (refine gate_load _ _ rfl ?_; refine wpList_mload1 rfl _ _ rfl _ 23 rfl 0 H _ (.bool false) rfl rfl (by decide +kernel) ?_) | (refine gate_load _ _ rfl ?_; refine wpList_mload rfl 23 _ rfl _ _ rfl 1 H _ #[.int .u8 ((a + b) % 256), .bool false] rfl (by decide +kernel) (by kernel_rfl) (part2 hr1 hr2) ?_) | (refine gate_load _ _ rfl ?_; refine wpList_mload rfl 23 _ rfl _ _ rfl 1 H _ #[.int .u8 ((a + b) / 256), .bool false] rfl (by decide +kernel) (by kernel_rfl) (part2 hr3 hr4) ?_) | (go_at_call 14; (with_reducible refine (QW.out _ (GG.out.mem H)).mono ?_); rintro e w2 ⟨rfl, hB⟩; replace H := H.next hB; clear hB) | fail)
        go_ret
        exact ⟨rfl, H.toBelow⟩
      · have QR := Lib.hid (fun sv wr g h => prog_run a b false true false a0 a1 b0 b1 ((a + b) % 256) ((a + b) / 256) true hX hY (by decide +kernel) (by decide +kernel) sv wr g h)
        clear hX hY
        go_wp2_with (first | (refine wpList_mnew rfl _ rfl H _ HZC.out ?_; clear H; (first | (clear MRc; intro Rc w1 _ H) | (intro Rd w1 _ H))) | (refine gate_store _ _ _ rfl ?_; refine wpList_mstoreA rfl 28 _ _ rfl rfl _ rfl 0 H (cpC _) _ rfl rfl (by kernel_rfl) (by kernel_rfl) (by kernel_rfl) ?_; clear H; intro w1 H; simp only [List.set_cons_zero, List.set_cons_succ] at H) | (go_at_call 8; (with_reducible refine (QR.out _ _ (GG.out.mem H) (rd_row (i := 1) H rfl (HRW.out false) (memP_len _ _ _ _ _))).mono ?_); rintro e w2 ⟨g, cap, cs, q, cp, rfl, ⟨hr1, hr2, hr3, hr4⟩, hM⟩; replace H := Mem.join H hM; clear hM; simp only [List.cons_append, List.nil_append] at H) | (refine gate_load _ _ rfl ?_; refine wpList_mloadA rfl 28 _ rfl _ rfl 0 H _ rfl (by decide +kernel) (by kernel_rfl) ?_) | (refine gate_load _ _ rfl ?_; refine wpList_mload1 rfl _ _ rfl _ 0 rfl 5 H _ (.int .u8 a) rfl rfl (by decide +kernel) ?_) | (refine gate_load _ _ rfl ?_; refine wpList_mload1 rfl _ _ rfl _ 0 rfl 4 H _ (.int .u8 b) rfl rfl (by decide +kernel) ?_) | (refine gate_load _ _ rfl ?_; refine wpList_mload1 rfl _ _ rfl _ 1 rfl 5 H _ (.bool false) rfl rfl (by decide +kernel) ?_) | (refine gate_load _ _ rfl ?_; refine wpList_mload1 rfl _ _ rfl _ 1 rfl 4 H _ (.bool true) rfl rfl (by decide +kernel) ?_) | (refine gate_load _ _ rfl ?_; refine wpList_mload1 rfl _ _ rfl _ 24 rfl 0 H _ (.bool true) rfl rfl (by decide +kernel) ?_) | (refine gate_load _ _ rfl ?_; refine wpList_mload1 rfl _ _ rfl _ 23 rfl 0 H _ (.bool false) rfl rfl (by decide +kernel) ?_) | (refine gate_load _ _ rfl ?_; refine wpList_mload rfl 23 _ rfl _ _ rfl 1 H _ #[.int .u8 ((a + b) % 256), .bool true] rfl (by decide +kernel) (by kernel_rfl) (part2 hr1 hr2) ?_) | (refine gate_load _ _ rfl ?_; refine wpList_mload rfl 23 _ rfl _ _ rfl 1 H _ #[.int .u8 ((a + b) / 256), .bool true] rfl (by decide +kernel) (by kernel_rfl) (part2 hr3 hr4) ?_) | (go_at_call 14; (with_reducible refine (QW.out _ (GG.out.mem H)).mono ?_); rintro e w2 ⟨rfl, hB⟩; replace H := H.next hB; clear hB) | fail)
        go_ret
        exact ⟨rfl, H.toBelow⟩
      · have QR := Lib.hid (fun sv wr g h => prog_run a b true false false a0 a1 b0 b1 ((a + b) % 256) ((a + b) / 256) true hX hY (by decide +kernel) (by decide +kernel) sv wr g h)
        clear hX hY
        go_wp2_with (first | (refine wpList_mnew rfl _ rfl H _ HZC.out ?_; clear H; (first | (clear MRc; intro Rc w1 _ H) | (intro Rd w1 _ H))) | (refine gate_store _ _ _ rfl ?_; refine wpList_mstoreA rfl 28 _ _ rfl rfl _ rfl 0 H (cpC _) _ rfl rfl (by kernel_rfl) (by kernel_rfl) (by kernel_rfl) ?_; clear H; intro w1 H; simp only [List.set_cons_zero, List.set_cons_succ] at H) | (go_at_call 8; (with_reducible refine (QR.out _ _ (GG.out.mem H) (rd_row (i := 1) H rfl (HRW.out false) (memP_len _ _ _ _ _))).mono ?_); rintro e w2 ⟨g, cap, cs, q, cp, rfl, ⟨hr1, hr2, hr3, hr4⟩, hM⟩; replace H := Mem.join H hM; clear hM; simp only [List.cons_append, List.nil_append] at H) | (refine gate_load _ _ rfl ?_; refine wpList_mloadA rfl 28 _ rfl _ rfl 0 H _ rfl (by decide +kernel) (by kernel_rfl) ?_) | (refine gate_load _ _ rfl ?_; refine wpList_mload1 rfl _ _ rfl _ 0 rfl 5 H _ (.int .u8 a) rfl rfl (by decide +kernel) ?_) | (refine gate_load _ _ rfl ?_; refine wpList_mload1 rfl _ _ rfl _ 0 rfl 4 H _ (.int .u8 b) rfl rfl (by decide +kernel) ?_) | (refine gate_load _ _ rfl ?_; refine wpList_mload1 rfl _ _ rfl _ 1 rfl 5 H _ (.bool true) rfl rfl (by decide +kernel) ?_) | (refine gate_load _ _ rfl ?_; refine wpList_mload1 rfl _ _ rfl _ 24 rfl 0 H _ (.bool true) rfl rfl (by decide +kernel) ?_) | (refine gate_load _ _ rfl ?_; refine wpList_mload1 rfl _ _ rfl _ 23 rfl 0 H _ (.bool false) rfl rfl (by decide +kernel) ?_) | (refine gate_load _ _ rfl ?_; refine wpList_mload rfl 23 _ rfl _ _ rfl 1 H _ #[.int .u8 ((a + b) % 256), .bool true] rfl (by decide +kernel) (by kernel_rfl) (part2 hr1 hr2) ?_) | (refine gate_load _ _ rfl ?_; refine wpList_mload rfl 23 _ rfl _ _ rfl 1 H _ #[.int .u8 ((a + b) / 256), .bool true] rfl (by decide +kernel) (by kernel_rfl) (part2 hr3 hr4) ?_) | (go_at_call 14; (with_reducible refine (QW.out _ (GG.out.mem H)).mono ?_); rintro e w2 ⟨rfl, hB⟩; replace H := H.next hB; clear hB) | fail)
        go_ret
        exact ⟨rfl, H.toBelow⟩
      · have QR := Lib.hid (fun sv wr g h => prog_run a b true true false a0 a1 b0 b1 ((a + b) % 256) ((a + b) / 256) true hX hY (by decide +kernel) (by decide +kernel) sv wr g h)
        clear hX hY
        go_wp2_with (first | (refine wpList_mnew rfl _ rfl H _ HZC.out ?_; clear H; (first | (clear MRc; intro Rc w1 _ H) | (intro Rd w1 _ H))) | (refine gate_store _ _ _ rfl ?_; refine wpList_mstoreA rfl 28 _ _ rfl rfl _ rfl 0 H (cpC _) _ rfl rfl (by kernel_rfl) (by kernel_rfl) (by kernel_rfl) ?_; clear H; intro w1 H; simp only [List.set_cons_zero, List.set_cons_succ] at H) | (go_at_call 8; (with_reducible refine (QR.out _ _ (GG.out.mem H) (rd_row (i := 1) H rfl (HRW.out false) (memP_len _ _ _ _ _))).mono ?_); rintro e w2 ⟨g, cap, cs, q, cp, rfl, ⟨hr1, hr2, hr3, hr4⟩, hM⟩; replace H := Mem.join H hM; clear hM; simp only [List.cons_append, List.nil_append] at H) | (refine gate_load _ _ rfl ?_; refine wpList_mloadA rfl 28 _ rfl _ rfl 0 H _ rfl (by decide +kernel) (by kernel_rfl) ?_) | (refine gate_load _ _ rfl ?_; refine wpList_mload1 rfl _ _ rfl _ 0 rfl 5 H _ (.int .u8 a) rfl rfl (by decide +kernel) ?_) | (refine gate_load _ _ rfl ?_; refine wpList_mload1 rfl _ _ rfl _ 0 rfl 4 H _ (.int .u8 b) rfl rfl (by decide +kernel) ?_) | (refine gate_load _ _ rfl ?_; refine wpList_mload1 rfl _ _ rfl _ 1 rfl 5 H _ (.bool true) rfl rfl (by decide +kernel) ?_) | (refine gate_load _ _ rfl ?_; refine wpList_mload1 rfl _ _ rfl _ 24 rfl 0 H _ (.bool true) rfl rfl (by decide +kernel) ?_) | (refine gate_load _ _ rfl ?_; refine wpList_mload1 rfl _ _ rfl _ 23 rfl 0 H _ (.bool false) rfl rfl (by decide +kernel) ?_) | (refine gate_load _ _ rfl ?_; refine wpList_mload rfl 23 _ rfl _ _ rfl 1 H _ #[.int .u8 ((a + b) % 256), .bool true] rfl (by decide +kernel) (by kernel_rfl) (part2 hr1 hr2) ?_) | (refine gate_load _ _ rfl ?_; refine wpList_mload rfl 23 _ rfl _ _ rfl 1 H _ #[.int .u8 ((a + b) / 256), .bool true] rfl (by decide +kernel) (by kernel_rfl) (part2 hr3 hr4) ?_) | (go_at_call 14; (with_reducible refine (QW.out _ (GG.out.mem H)).mono ?_); rintro e w2 ⟨rfl, hB⟩; replace H := H.next hB; clear hB) | fail)
        go_ret
        exact ⟨rfl, H.toBelow⟩
      · have QR := Lib.hid (fun sv wr g h => prog_run a b false false true a0 a1 b0 b1 ((a + b + 1) % 256) ((a + b + 1) / 256) false hX hY (by decide +kernel) (by decide +kernel) sv wr g h)
        clear hX hY
        go_wp2_with (first | (refine wpList_mnew rfl _ rfl H _ HZC.out ?_; clear H; (first | (clear MRc; intro Rc w1 _ H) | (intro Rd w1 _ H))) | (refine gate_store _ _ _ rfl ?_; refine wpList_mstoreA rfl 28 _ _ rfl rfl _ rfl 0 H (cpC _) _ rfl rfl (by kernel_rfl) (by kernel_rfl) (by kernel_rfl) ?_; clear H; intro w1 H; simp only [List.set_cons_zero, List.set_cons_succ] at H) | (refine gate_store _ _ _ rfl ?_; refine wpList_mstore rfl 5 _ _ rfl rfl _ _ rfl 1 H _ _ rfl (.int _ _) rfl (by kernel_rfl) (by rw [HS4.out]; decide) (by kernel_rfl) HS3.out ?_; clear H; intro w1 H; simp only [List.set_cons_zero, List.set_cons_succ] at H) | (go_at_call 8; (with_reducible refine (QR.out _ _ (GG.out.mem H) (rd_row (i := 1) H rfl (HRW.out true) (memP_len _ _ _ _ _))).mono ?_); rintro e w2 ⟨g, cap, cs, q, cp, rfl, ⟨hr1, hr2, hr3, hr4⟩, hM⟩; replace H := Mem.join H hM; clear hM; simp only [List.cons_append, List.nil_append] at H) | (refine gate_load _ _ rfl ?_; refine wpList_mloadA rfl 28 _ rfl _ rfl 0 H _ rfl (by decide +kernel) (by kernel_rfl) ?_) | (refine gate_load _ _ rfl ?_; refine wpList_mload1 rfl _ _ rfl _ 0 rfl 5 H _ (.int .u8 a) rfl rfl (by decide +kernel) ?_) | (refine gate_load _ _ rfl ?_; refine wpList_mload1 rfl _ _ rfl _ 0 rfl 4 H _ (.int .u8 b) rfl rfl (by decide +kernel) ?_) | (refine gate_load _ _ rfl ?_; refine wpList_mload1 rfl _ _ rfl _ 1 rfl 5 H _ (.bool false) rfl rfl (by decide +kernel) ?_) | (refine gate_load _ _ rfl ?_; refine wpList_mload1 rfl _ _ rfl _ 1 rfl 4 H _ (.bool false) rfl rfl (by decide +kernel) ?_) | (refine gate_load _ _ rfl ?_; refine wpList_mload1 rfl _ _ rfl _ 24 rfl 0 H _ (.bool true) rfl rfl (by decide +kernel) ?_) | (refine gate_load _ _ rfl ?_; refine wpList_mload1 rfl _ _ rfl _ 23 rfl 0 H _ (.bool false) rfl rfl (by decide +kernel) ?_) | (refine gate_load _ _ rfl ?_; refine wpList_mload rfl 23 _ rfl _ _ rfl 1 H _ #[.int .u8 ((a + b + 1) % 256), .bool false] rfl (by decide +kernel) (by kernel_rfl) (part2 hr1 hr2) ?_) | (refine gate_load _ _ rfl ?_; refine wpList_mload rfl 23 _ rfl _ _ rfl 1 H _ #[.int .u8 ((a + b + 1) / 256), .bool false] rfl (by decide +kernel) (by kernel_rfl) (part2 hr3 hr4) ?_) | (go_at_call 14; (with_reducible refine (QW.out _ (GG.out.mem H)).mono ?_); rintro e w2 ⟨rfl, hB⟩; replace H := H.next hB; clear hB) | fail)
        go_ret
        exact ⟨rfl, H.toBelow⟩
      · have QR := Lib.hid (fun sv wr g h => prog_run a b false true true a0 a1 b0 b1 ((a + b + 1) % 256) ((a + b + 1) / 256) true hX hY (by decide +kernel) (by decide +kernel) sv wr g h)
        clear hX hY
        go_wp2_with (first | (refine wpList_mnew rfl _ rfl H _ HZC.out ?_; clear H; (first | (clear MRc; intro Rc w1 _ H) | (intro Rd w1 _ H))) | (refine gate_store _ _ _ rfl ?_; refine wpList_mstoreA rfl 28 _ _ rfl rfl _ rfl 0 H (cpC _) _ rfl rfl (by kernel_rfl) (by kernel_rfl) (by kernel_rfl) ?_; clear H; intro w1 H; simp only [List.set_cons_zero, List.set_cons_succ] at H) | (refine gate_store _ _ _ rfl ?_; refine wpList_mstore rfl 5 _ _ rfl rfl _ _ rfl 1 H _ _ rfl (.int _ _) rfl (by kernel_rfl) (by rw [HS4.out]; decide) (by kernel_rfl) HS3.out ?_; clear H; intro w1 H; simp only [List.set_cons_zero, List.set_cons_succ] at H) | (go_at_call 8; (with_reducible refine (QR.out _ _ (GG.out.mem H) (rd_row (i := 1) H rfl (HRW.out true) (memP_len _ _ _ _ _))).mono ?_); rintro e w2 ⟨g, cap, cs, q, cp, rfl, ⟨hr1, hr2, hr3, hr4⟩, hM⟩; replace H := Mem.join H hM; clear hM; simp only [List.cons_append, List.nil_append] at H) | (refine gate_load _ _ rfl ?_; refine wpList_mloadA rfl 28 _ rfl _ rfl 0 H _ rfl (by decide +kernel) (by kernel_rfl) ?_) | (refine gate_load _ _ rfl ?_; refine wpList_mload1 rfl _ _ rfl _ 0 rfl 5 H _ (.int .u8 a) rfl rfl (by decide +kernel) ?_) | (refine gate_load _ _ rfl ?_; refine wpList_mload1 rfl _ _ rfl _ 0 rfl 4 H _ (.int .u8 b) rfl rfl (by decide +kernel) ?_) | (refine gate_load _ _ rfl ?_; refine wpList_mload1 rfl _ _ rfl _ 1 rfl 5 H _ (.bool false) rfl rfl (by decide +kernel) ?_) | (refine gate_load _ _ rfl ?_; refine wpList_mload1 rfl _ _ rfl _ 1 rfl 4 H _ (.bool true) rfl rfl (by decide +kernel) ?_) | (refine gate_load _ _ rfl ?_; refine wpList_mload1 rfl _ _ rfl _ 24 rfl 0 H _ (.bool true) rfl rfl (by decide +kernel) ?_) | (refine gate_load _ _ rfl ?_; refine wpList_mload1 rfl _ _ rfl _ 23 rfl 0 H _ (.bool false) rfl rfl (by decide +kernel) ?_) | (refine gate_load _ _ rfl ?_; refine wpList_mload rfl 23 _ rfl _ _ rfl 1 H _ #[.int .u8 ((a + b + 1) % 256), .bool true] rfl (by decide +kernel) (by kernel_rfl) (part2 hr1 hr2) ?_) | (refine gate_load _ _ rfl ?_; refine wpList_mload rfl 23 _ rfl _ _ rfl 1 H _ #[.int .u8 ((a + b + 1) / 256), .bool true] rfl (by decide +kernel) (by kernel_rfl) (part2 hr3 hr4) ?_) | (go_at_call 14; (with_reducible refine (QW.out _ (GG.out.mem H)).mono ?_); rintro e w2 ⟨rfl, hB⟩; replace H := H.next hB; clear hB) | fail)
        go_ret
        exact ⟨rfl, H.toBelow⟩
      · have QR := Lib.hid (fun sv wr g h => prog_run a b true false true a0 a1 b0 b1 ((a + b + 1) % 256) ((a + b + 1) / 256) true hX hY (by decide +kernel) (by decide +kernel) sv wr g h)
        clear hX hY
        go_wp2_with (first | (refine wpList_mnew rfl _ rfl H _ HZC.out ?_; clear H; (first | (clear MRc; intro Rc w1 _ H) | (intro Rd w1 _ H))) | (refine gate_store _ _ _ rfl ?_; refine wpList_mstoreA rfl 28 _ _ rfl rfl _ rfl 0 H (cpC _) _ rfl rfl (by kernel_rfl) (by kernel_rfl) (by kernel_rfl) ?_; clear H; intro w1 H; simp only [List.set_cons_zero, List.set_cons_succ] at H) | (refine gate_store _ _ _ rfl ?_; refine wpList_mstore rfl 5 _ _ rfl rfl _ _ rfl 1 H _ _ rfl (.int _ _) rfl (by kernel_rfl) (by rw [HS4.out]; decide) (by kernel_rfl) HS3.out ?_; clear H; intro w1 H; simp only [List.set_cons_zero, List.set_cons_succ] at H) | (go_at_call 8; (with_reducible refine (QR.out _ _ (GG.out.mem H) (rd_row (i := 1) H rfl (HRW.out true) (memP_len _ _ _ _ _))).mono ?_); rintro e w2 ⟨g, cap, cs, q, cp, rfl, ⟨hr1, hr2, hr3, hr4⟩, hM⟩; replace H := Mem.join H hM; clear hM; simp only [List.cons_append, List.nil_append] at H) | (refine gate_load _ _ rfl ?_; refine wpList_mloadA rfl 28 _ rfl _ rfl 0 H _ rfl (by decide +kernel) (by kernel_rfl) ?_) | (refine gate_load _ _ rfl ?_; refine wpList_mload1 rfl _ _ rfl _ 0 rfl 5 H _ (.int .u8 a) rfl rfl (by decide +kernel) ?_) | (refine gate_load _ _ rfl ?_; refine wpList_mload1 rfl _ _ rfl _ 0 rfl 4 H _ (.int .u8 b) rfl rfl (by decide +kernel) ?_) | (refine gate_load _ _ rfl ?_; refine wpList_mload1 rfl _ _ rfl _ 1 rfl 5 H _ (.bool true) rfl rfl (by decide +kernel) ?_) | (refine gate_load _ _ rfl ?_; refine wpList_mload1 rfl _ _ rfl _ 24 rfl 0 H _ (.bool true) rfl rfl (by decide +kernel) ?_) | (refine gate_load _ _ rfl ?_; refine wpList_mload1 rfl _ _ rfl _ 23 rfl 0 H _ (.bool false) rfl rfl (by decide +kernel) ?_) | (refine gate_load _ _ rfl ?_; refine wpList_mload rfl 23 _ rfl _ _ rfl 1 H _ #[.int .u8 ((a + b + 1) % 256), .bool true] rfl (by decide +kernel) (by kernel_rfl) (part2 hr1 hr2) ?_) | (refine gate_load _ _ rfl ?_; refine wpList_mload rfl 23 _ rfl _ _ rfl 1 H _ #[.int .u8 ((a + b + 1) / 256), .bool true] rfl (by decide +kernel) (by kernel_rfl) (part2 hr3 hr4) ?_) | (go_at_call 14; (with_reducible refine (QW.out _ (GG.out.mem H)).mono ?_); rintro e w2 ⟨rfl, hB⟩; replace H := H.next hB; clear hB) | fail)
        go_ret
        exact ⟨rfl, H.toBelow⟩
      · have QR := Lib.hid (fun sv wr g h => prog_run a b true true true a0 a1 b0 b1 ((a + b + 1) % 256) ((a + b + 1) / 256) true hX hY (by decide +kernel) (by decide +kernel) sv wr g h)
        clear hX hY
        go_wp2_with (first | (refine wpList_mnew rfl _ rfl H _ HZC.out ?_; clear H; (first | (clear MRc; intro Rc w1 _ H) | (intro Rd w1 _ H))) | (refine gate_store _ _ _ rfl ?_; refine wpList_mstoreA rfl 28 _ _ rfl rfl _ rfl 0 H (cpC _) _ rfl rfl (by kernel_rfl) (by kernel_rfl) (by kernel_rfl) ?_; clear H; intro w1 H; simp only [List.set_cons_zero, List.set_cons_succ] at H) | (refine gate_store _ _ _ rfl ?_; refine wpList_mstore rfl 5 _ _ rfl rfl _ _ rfl 1 H _ _ rfl (.int _ _) rfl (by kernel_rfl) (by rw [HS4.out]; decide) (by kernel_rfl) HS3.out ?_; clear H; intro w1 H; simp only [List.set_cons_zero, List.set_cons_succ] at H) | (go_at_call 8; (with_reducible refine (QR.out _ _ (GG.out.mem H) (rd_row (i := 1) H rfl (HRW.out true) (memP_len _ _ _ _ _))).mono ?_); rintro e w2 ⟨g, cap, cs, q, cp, rfl, ⟨hr1, hr2, hr3, hr4⟩, hM⟩; replace H := Mem.join H hM; clear hM; simp only [List.cons_append, List.nil_append] at H) | (refine gate_load _ _ rfl ?_; refine wpList_mloadA rfl 28 _ rfl _ rfl 0 H _ rfl (by decide +kernel) (by kernel_rfl) ?_) | (refine gate_load _ _ rfl ?_; refine wpList_mload1 rfl _ _ rfl _ 0 rfl 5 H _ (.int .u8 a) rfl rfl (by decide +kernel) ?_) | (refine gate_load _ _ rfl ?_; refine wpList_mload1 rfl _ _ rfl _ 0 rfl 4 H _ (.int .u8 b) rfl rfl (by decide +kernel) ?_) | (refine gate_load _ _ rfl ?_; refine wpList_mload1 rfl _ _ rfl _ 1 rfl 5 H _ (.bool true) rfl rfl (by decide +kernel) ?_) | (refine gate_load _ _ rfl ?_; refine wpList_mload1 rfl _ _ rfl _ 24 rfl 0 H _ (.bool true) rfl rfl (by decide +kernel) ?_) | (refine gate_load _ _ rfl ?_; refine wpList_mload1 rfl _ _ rfl _ 23 rfl 0 H _ (.bool false) rfl rfl (by decide +kernel) ?_) | (refine gate_load _ _ rfl ?_; refine wpList_mload rfl 23 _ rfl _ _ rfl 1 H _ #[.int .u8 ((a + b + 1) % 256), .bool true] rfl (by decide +kernel) (by kernel_rfl) (part2 hr1 hr2) ?_) | (refine gate_load _ _ rfl ?_; refine wpList_mload rfl 23 _ rfl _ _ rfl 1 H _ #[.int .u8 ((a + b + 1) / 256), .bool true] rfl (by decide +kernel) (by kernel_rfl) (part2 hr3 hr4) ?_) | (go_at_call 14; (with_reducible refine (QW.out _ (GG.out.mem H)).mono ?_); rintro e w2 ⟨rfl, hB⟩; replace H := H.next hB; clear hB) | fail)
        go_ret
        exact ⟨rfl, H.toBelow⟩
    · have h1 := rowP_at k (by omega)
      have h2 := prg_set k (by omega)
      have h3 : ∀ x, k * 2 + (Value.cells (.int .u8 x)).size ≤ (mcOf (prgL k)).size := fun x => by rw [prg_size k (by omega)]; show k * 2 + 1 ≤ 512; omega
      generalize pzN k = z at *
      generalize hn : mcOf (prgL (k + 1)) = N1 at *
      generalize mcOf (prgL k) = N0 at *
      have h4 : k < 14 := by omega
      replace h1 := Lib.hid h1
      replace h2 := Lib.hid h2
      replace h3 := Lib.hid h3
      replace hn := Lib.hid hn
      go_wp2_with (first | (refine gate_load _ _ rfl ?_; refine wpList_mload1 rfl _ _ rfl _ _ rfl 0 H _ _ rfl h1.out (by decide +kernel) ?_) | (refine gate_store _ _ _ rfl ?_; refine wpList_mstore rfl 5 _ _ rfl rfl _ _ rfl 1 H _ _ rfl (.int _ _) rfl (by kernel_rfl) (h3.out _) (by kernel_rfl) h2.out ?_; clear H; intro w1 H; simp only [List.set_cons_zero, List.set_cons_succ] at H) | fail)
      go_roundw
      case rel => exact ⟨k + 1, by omega, by go_num, by rw [hn.out]; exact H⟩
      case measure => simp [intOf]; omega
end Go.Proofs.YtbonamhinnhlnaaGreatDoor
