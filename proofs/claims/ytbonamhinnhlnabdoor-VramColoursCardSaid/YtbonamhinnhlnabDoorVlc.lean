/-
  The walk of VramColours: how often each place of the palettes is met. Over this seat's translation; the number is an octet.
-/
import Derived.Test.YtbonamhinnhlnabDoorVrr
namespace Go.Proofs.YtbonamhinnhlnabDoor
open Go.RowKit
set_option linter.unusedSimpArgs false
set_option linter.unusedVariables false
set_option maxRecDepth 100000

/-- The place of the k-th address of palettes, how often each was met among the first ones, and the row of that. -/
def pvN (k : Nat) : Nat := (plV (16128 + (k : Int))).toNat
def cntN : Nat → Nat → Nat
  | 0, _ => 0
  | k + 1, p => cntN k p + if pvN k = p then 1 else 0
def metC (k : Nat) : Array Value := ((List.range 32).map fun p => Value.int .i64 (cntN k p : Int)).toArray
def wantN (p : Nat) : Nat := if p = 0 ∨ p = 4 ∨ p = 8 ∨ p = 12 then 16 else if p = 16 ∨ p = 20 ∨ p = 24 ∨ p = 28 then 0 else 8
def plcN : Nat → Nat
  | 0 => 0
  | k + 1 => plcN k + if 0 < wantN k then 1 else 0
theorem pv_lt (k : Nat) : pvN k < 32 := by
  unfold pvN plV
  split <;> omega
theorem pl_pv (k : Nat) (hk : k < 256) : plR (16128 + (k : Int)) = ((pvN k : Int), 0) := by
  have h : kdV (16128 + (k : Int)) = 2 := by
    unfold kdV
    rw [if_neg (by omega), if_neg (by omega)]
  unfold plR
  rw [if_pos h]
  unfold pvN
  have : 0 ≤ plV (16128 + (k : Int)) := by unfold plV; split <;> omega
  rw [Int.toNat_of_nonneg this]
theorem cnt_le (p : Nat) : ∀ k, cntN k p ≤ k
  | 0 => Nat.le_refl 0
  | k + 1 => by
    have := cnt_le p k
    unfold cntN
    split <;> omega
theorem met_get (k p : Nat) (hp : p < 32) : (metC k)[p]? = some (.int .i64 (cntN k p : Int)) := by
  unfold metC
  rw [List.getElem?_toArray, List.getElem?_map, List.getElem?_range hp]
  rfl
theorem met_size (k : Nat) : (metC k).size = 32 := by simp [metC]
theorem met_set (k : Nat) : (splice (metC k).toList (pvN k) (Value.cells (.int .i64 ((cntN k (pvN k) : Int) + 1))).toList).toArray = metC (k + 1) := by
  have e : (Value.cells (.int .i64 ((cntN k (pvN k) : Int) + 1))).toList = [.int .i64 ((cntN k (pvN k) : Int) + 1)] := rfl
  have hp := pv_lt k
  rw [e]
  unfold metC splice
  congr 1
  simp only [List.length_cons, List.length_nil, Nat.zero_add]
  apply List.ext_getElem?
  intro j
  have hl : ((List.range 32).map fun p => Value.int .i64 (cntN k p : Int)).length = 32 := by simp
  rw [List.append_assoc, List.getElem?_append, List.getElem?_append]
  simp only [List.length_take, hl, List.length_cons, List.length_nil]
  rw [show min (pvN k) 32 = pvN k by omega]
  by_cases h1 : j < pvN k
  · rw [if_pos h1, List.getElem?_take, if_pos h1, List.getElem?_map, List.getElem?_map, List.getElem?_range (by omega)]
    simp only [Option.map_some]
    show _ = some (Value.int .i64 ((cntN k j + if pvN k = j then 1 else 0 : Nat) : Int))
    rw [if_neg (by omega)]
    rfl
  · rw [if_neg h1]
    by_cases h2 : j = pvN k
    · subst h2
      rw [if_pos (by omega), Nat.sub_self, List.getElem?_map, List.getElem?_range hp]
      simp only [List.getElem?_cons_zero, Option.map_some]
      show _ = some (Value.int .i64 ((cntN k (pvN k) + if pvN k = pvN k then 1 else 0 : Nat) : Int))
      rw [if_pos rfl]
      simp
    · rw [if_neg (by omega), List.getElem?_drop, List.getElem?_map, List.getElem?_map]
      rw [show pvN k + 1 + (j - pvN k - (0 + 1)) = j by omega]
      by_cases h3 : j < 32
      · rw [List.getElem?_range h3]
        simp only [Option.map_some]
        show _ = some (Value.int .i64 ((cntN k j + if pvN k = j then 1 else 0 : Nat) : Int))
        rw [if_neg (by omega)]
        rfl
      · rw [List.getElem?_eq_none (by simp; omega)]
        rfl
theorem met_all : ∀ p : Fin 32, cntN 256 p.val = wantN p.val := by decide +kernel
theorem plc_28 : plcN 32 = 28 := by decide +kernel
theorem plc_le : ∀ k, plcN k ≤ k
  | 0 => Nat.le_refl 0
  | k + 1 => by
    have := plc_le k
    unfold plcN
    split <;> omega
theorem alloc_met (w : World) : (Instr.alloc 30 true (.tuple #[])).run Tryd.prog w = .ok (.pointer (some ⟨w.heap.size, 0, none⟩)) (w.alloc (.cells (metC 0) 30)) := by kernel_rfl
theorem info_int : (Tryd.prog.info? 3).map (·.size) = some 1 := by kernel_rfl
theorem xor_32 (a : Int) (h0 : 0 ≤ a) (h1 : a < 256) : (0 ≤ bits .xor .u8 a 32 ∧ bits .xor .u8 a 32 < 256) ∧ bits .xor .u8 a 32 % 32 = a % 32 :=
  byte_all (p := fun a => (0 ≤ bits .xor .u8 a 32 ∧ bits .xor .u8 a 32 < 256) ∧ bits .xor .u8 a 32 % 32 = a % 32) (by decide +kernel) a h0 h1
theorem pl_ok (a : Int) (h0 : 0 ≤ a) (h1 : a < 256) : plR (16128 + a) = (plV a, 0) := by
  have h : kdV (16128 + a) = 2 := by
    unfold kdV
    rw [if_neg (by omega), if_neg (by omega)]
  unfold plR
  rw [if_pos h]
  unfold plV
  rw [show (16128 + a) % 32 = a % 32 by omega]
attribute [local irreducible] wpList
set_option maxHeartbeats 8000000 in
theorem vramColours_walk (a : Int) (w : World) (G : GlobV w) (a0 : 0 ≤ a) (a1 : a < 256) : Calls Tryd.prog 4 #[.int .u8 a] w fun e w' => e = .returned (.bool true) ∧ Below w.heap.size w w' := by
  have QW := Lib.hid (fun wr (g : GlobV wr) => awake13_ct wr g)
  have GG := Lib.hid G
  clear G
  have HZ := Lib.hid alloc_met
  have H := Mem.start w
  go_enter Tryd.func4, Tryd.ntmps4
  go_wp2_with (first | (refine wpList_mnew rfl _ rfl H _ HZ.out ?_; clear H; intro R w1 _ H) | fail)
  go_loopw [4] (fun i wr => ∃ z : Int, (0 ≤ z ∧ z ≤ 256) ∧ i = .int .i64 z ∧ Mem w.heap.size [] w wr [(R, metC z.toNat)]) (fun i _ => 256 - (intOf i).toNat)
  case atStart => exact ⟨0, by omega, rfl, H⟩
  case round =>
    clear H
    obtain ⟨z, ⟨z0, z1⟩, rfl, H⟩ := hrel
    by_cases h5 : z = 256
    · subst h5
      replace H : Mem w.heap.size [] w wr [(R, metC 256)] := H
      go_wp2_with fail
      go_loopw [7, 8] (fun s i wr => ∃ k : Nat, k ≤ 32 ∧ i = .int .i64 k ∧ s = .int .i64 (plcN k) ∧ Mem w.heap.size [] w wr [(R, metC 256)]) (fun _ i _ => 32 - (intOf i).toNat)
      case atStart => exact ⟨0, Nat.zero_le _, rfl, rfl, H⟩
      case round =>
        clear H
        obtain ⟨k, hk, rfl, rfl, H⟩ := hrel
        by_cases h5 : k = 32
        · subst h5
          obtain ⟨b, hb⟩ : ∃ b, bits .xor .u8 a 32 = b := ⟨_, rfl⟩
          obtain ⟨⟨b0, b1⟩, bm⟩ := xor_32 a a0 a1
          rw [hb] at b0 b1 bm
          have K1 := fun wr => vpal_ct (16128 + a) wr (by omega) (by omega)
          have K2 := fun wr => vpal_ct (16128 + b) wr (by omega) (by omega)
          rw [pl_ok a a0 a1] at K1
          rw [pl_ok b b0 b1, show plV b = plV a by unfold plV; rw [bm]] at K2
          generalize plV a = v at *
          have Q1 := Lib.hid K1
          have Q2 := Lib.hid K2
          clear K1 K2
          rw [plc_28]
          go_wp2_with (first
            | (go_at_call 6; first
              | ((with_reducible refine (Q1.out _).mono ?_); rintro e w2 ⟨rfl, hB⟩; replace H := H.next hB; clear hB)
              | ((with_reducible refine (Q2.out _).mono ?_); rintro e w2 ⟨rfl, hB⟩; replace H := H.next hB; clear hB))
            | (go_at_call 8; (with_reducible refine (QW.out _ (GG.out.mem H)).mono ?_); rintro e w2 ⟨rfl, hB⟩; replace H := H.next hB; clear hB) | fail)
          go_ret
          exact ⟨rfl, H.toBelow⟩
        · have hg := met_get 256 k (by omega)
          rw [met_all ⟨k, by omega⟩] at hg
          have hp := plc_le k
          have hc : k = 0 ∨ k = 4 ∨ k = 8 ∨ k = 12 ∨ k = 16 ∨ k = 20 ∨ k = 24 ∨ k = 28 ∨ (k ≠ 0 ∧ k ≠ 4 ∧ k ≠ 8 ∧ k ≠ 12 ∧ k ≠ 16 ∧ k ≠ 20 ∧ k ≠ 24 ∧ k ≠ 28) := by omega
          rcases hc with h | h | h | h | h | h | h | h | h
          · have hw : wantN k = 16 := by rw [h]; rfl
            have hs : plcN (k + 1) = plcN k + 1 := by
              show plcN k + (if 0 < wantN k then 1 else 0) = _
              rw [hw]
              rfl
            rw [hw] at hg
            replace hg : (metC 256)[k]? = some (.int .i64 16) := hg
            have e0 : ((k : Int) == 0) = true := by simp; omega
            have e1 : ((k : Int) == 4) = false := by simp; omega
            have e2 : ((k : Int) == 8) = false := by simp; omega
            have e3 : ((k : Int) == 12) = false := by simp; omega
            have e4 : ((k : Int) == 16) = false := by simp; omega
            have e5 : ((k : Int) == 20) = false := by simp; omega
            have e6 : ((k : Int) == 24) = false := by simp; omega
            have e7 : ((k : Int) == 28) = false := by simp; omega
            clear h hw
            go_wp2_with (first | (refine gate_load _ _ rfl ?_; refine wpList_mload1 rfl _ _ rfl _ _ rfl 0 H _ _ rfl hg (by decide +kernel) ?_) | fail)
            go_roundw
            case rel => exact ⟨k + 1, by omega, by go_num, by first | (rw [hs]; done) | (rw [hs]; go_num), H⟩
            case measure => simp [intOf]; omega
          · have hw : wantN k = 16 := by rw [h]; rfl
            have hs : plcN (k + 1) = plcN k + 1 := by
              show plcN k + (if 0 < wantN k then 1 else 0) = _
              rw [hw]
              rfl
            rw [hw] at hg
            replace hg : (metC 256)[k]? = some (.int .i64 16) := hg
            have e0 : ((k : Int) == 0) = false := by simp; omega
            have e1 : ((k : Int) == 4) = true := by simp; omega
            have e2 : ((k : Int) == 8) = false := by simp; omega
            have e3 : ((k : Int) == 12) = false := by simp; omega
            have e4 : ((k : Int) == 16) = false := by simp; omega
            have e5 : ((k : Int) == 20) = false := by simp; omega
            have e6 : ((k : Int) == 24) = false := by simp; omega
            have e7 : ((k : Int) == 28) = false := by simp; omega
            clear h hw
            go_wp2_with (first | (refine gate_load _ _ rfl ?_; refine wpList_mload1 rfl _ _ rfl _ _ rfl 0 H _ _ rfl hg (by decide +kernel) ?_) | fail)
            go_roundw
            case rel => exact ⟨k + 1, by omega, by go_num, by first | (rw [hs]; done) | (rw [hs]; go_num), H⟩
            case measure => simp [intOf]; omega
          · have hw : wantN k = 16 := by rw [h]; rfl
            have hs : plcN (k + 1) = plcN k + 1 := by
              show plcN k + (if 0 < wantN k then 1 else 0) = _
              rw [hw]
              rfl
            rw [hw] at hg
            replace hg : (metC 256)[k]? = some (.int .i64 16) := hg
            have e0 : ((k : Int) == 0) = false := by simp; omega
            have e1 : ((k : Int) == 4) = false := by simp; omega
            have e2 : ((k : Int) == 8) = true := by simp; omega
            have e3 : ((k : Int) == 12) = false := by simp; omega
            have e4 : ((k : Int) == 16) = false := by simp; omega
            have e5 : ((k : Int) == 20) = false := by simp; omega
            have e6 : ((k : Int) == 24) = false := by simp; omega
            have e7 : ((k : Int) == 28) = false := by simp; omega
            clear h hw
            go_wp2_with (first | (refine gate_load _ _ rfl ?_; refine wpList_mload1 rfl _ _ rfl _ _ rfl 0 H _ _ rfl hg (by decide +kernel) ?_) | fail)
            go_roundw
            case rel => exact ⟨k + 1, by omega, by go_num, by first | (rw [hs]; done) | (rw [hs]; go_num), H⟩
            case measure => simp [intOf]; omega
          · have hw : wantN k = 16 := by rw [h]; rfl
            have hs : plcN (k + 1) = plcN k + 1 := by
              show plcN k + (if 0 < wantN k then 1 else 0) = _
              rw [hw]
              rfl
            rw [hw] at hg
            replace hg : (metC 256)[k]? = some (.int .i64 16) := hg
            have e0 : ((k : Int) == 0) = false := by simp; omega
            have e1 : ((k : Int) == 4) = false := by simp; omega
            have e2 : ((k : Int) == 8) = false := by simp; omega
            have e3 : ((k : Int) == 12) = true := by simp; omega
            have e4 : ((k : Int) == 16) = false := by simp; omega
            have e5 : ((k : Int) == 20) = false := by simp; omega
            have e6 : ((k : Int) == 24) = false := by simp; omega
            have e7 : ((k : Int) == 28) = false := by simp; omega
            clear h hw
            go_wp2_with (first | (refine gate_load _ _ rfl ?_; refine wpList_mload1 rfl _ _ rfl _ _ rfl 0 H _ _ rfl hg (by decide +kernel) ?_) | fail)
            go_roundw
            case rel => exact ⟨k + 1, by omega, by go_num, by first | (rw [hs]; done) | (rw [hs]; go_num), H⟩
            case measure => simp [intOf]; omega
          · have hw : wantN k = 0 := by rw [h]; rfl
            have hs : plcN (k + 1) = plcN k := by
              show plcN k + (if 0 < wantN k then 1 else 0) = _
              rw [hw]
              rfl
            rw [hw] at hg
            replace hg : (metC 256)[k]? = some (.int .i64 0) := hg
            have e0 : ((k : Int) == 0) = false := by simp; omega
            have e1 : ((k : Int) == 4) = false := by simp; omega
            have e2 : ((k : Int) == 8) = false := by simp; omega
            have e3 : ((k : Int) == 12) = false := by simp; omega
            have e4 : ((k : Int) == 16) = true := by simp; omega
            have e5 : ((k : Int) == 20) = false := by simp; omega
            have e6 : ((k : Int) == 24) = false := by simp; omega
            have e7 : ((k : Int) == 28) = false := by simp; omega
            clear h hw
            go_wp2_with (first | (refine gate_load _ _ rfl ?_; refine wpList_mload1 rfl _ _ rfl _ _ rfl 0 H _ _ rfl hg (by decide +kernel) ?_) | fail)
            go_roundw
            case rel => exact ⟨k + 1, by omega, by go_num, by first | (rw [hs]; done) | (rw [hs]; go_num), H⟩
            case measure => simp [intOf]; omega
          · have hw : wantN k = 0 := by rw [h]; rfl
            have hs : plcN (k + 1) = plcN k := by
              show plcN k + (if 0 < wantN k then 1 else 0) = _
              rw [hw]
              rfl
            rw [hw] at hg
            replace hg : (metC 256)[k]? = some (.int .i64 0) := hg
            have e0 : ((k : Int) == 0) = false := by simp; omega
            have e1 : ((k : Int) == 4) = false := by simp; omega
            have e2 : ((k : Int) == 8) = false := by simp; omega
            have e3 : ((k : Int) == 12) = false := by simp; omega
            have e4 : ((k : Int) == 16) = false := by simp; omega
            have e5 : ((k : Int) == 20) = true := by simp; omega
            have e6 : ((k : Int) == 24) = false := by simp; omega
            have e7 : ((k : Int) == 28) = false := by simp; omega
            clear h hw
            go_wp2_with (first | (refine gate_load _ _ rfl ?_; refine wpList_mload1 rfl _ _ rfl _ _ rfl 0 H _ _ rfl hg (by decide +kernel) ?_) | fail)
            go_roundw
            case rel => exact ⟨k + 1, by omega, by go_num, by first | (rw [hs]; done) | (rw [hs]; go_num), H⟩
            case measure => simp [intOf]; omega
          · have hw : wantN k = 0 := by rw [h]; rfl
            have hs : plcN (k + 1) = plcN k := by
              show plcN k + (if 0 < wantN k then 1 else 0) = _
              rw [hw]
              rfl
            rw [hw] at hg
            replace hg : (metC 256)[k]? = some (.int .i64 0) := hg
            have e0 : ((k : Int) == 0) = false := by simp; omega
            have e1 : ((k : Int) == 4) = false := by simp; omega
            have e2 : ((k : Int) == 8) = false := by simp; omega
            have e3 : ((k : Int) == 12) = false := by simp; omega
            have e4 : ((k : Int) == 16) = false := by simp; omega
            have e5 : ((k : Int) == 20) = false := by simp; omega
            have e6 : ((k : Int) == 24) = true := by simp; omega
            have e7 : ((k : Int) == 28) = false := by simp; omega
            clear h hw
            go_wp2_with (first | (refine gate_load _ _ rfl ?_; refine wpList_mload1 rfl _ _ rfl _ _ rfl 0 H _ _ rfl hg (by decide +kernel) ?_) | fail)
            go_roundw
            case rel => exact ⟨k + 1, by omega, by go_num, by first | (rw [hs]; done) | (rw [hs]; go_num), H⟩
            case measure => simp [intOf]; omega
          · have hw : wantN k = 0 := by rw [h]; rfl
            have hs : plcN (k + 1) = plcN k := by
              show plcN k + (if 0 < wantN k then 1 else 0) = _
              rw [hw]
              rfl
            rw [hw] at hg
            replace hg : (metC 256)[k]? = some (.int .i64 0) := hg
            have e0 : ((k : Int) == 0) = false := by simp; omega
            have e1 : ((k : Int) == 4) = false := by simp; omega
            have e2 : ((k : Int) == 8) = false := by simp; omega
            have e3 : ((k : Int) == 12) = false := by simp; omega
            have e4 : ((k : Int) == 16) = false := by simp; omega
            have e5 : ((k : Int) == 20) = false := by simp; omega
            have e6 : ((k : Int) == 24) = false := by simp; omega
            have e7 : ((k : Int) == 28) = true := by simp; omega
            clear h hw
            go_wp2_with (first | (refine gate_load _ _ rfl ?_; refine wpList_mload1 rfl _ _ rfl _ _ rfl 0 H _ _ rfl hg (by decide +kernel) ?_) | fail)
            go_roundw
            case rel => exact ⟨k + 1, by omega, by go_num, by first | (rw [hs]; done) | (rw [hs]; go_num), H⟩
            case measure => simp [intOf]; omega
          · have hw : wantN k = 8 := by unfold wantN; rw [if_neg (by omega), if_neg (by omega)]
            have hs : plcN (k + 1) = plcN k + 1 := by
              show plcN k + (if 0 < wantN k then 1 else 0) = _
              rw [hw]
              rfl
            rw [hw] at hg
            replace hg : (metC 256)[k]? = some (.int .i64 8) := hg
            have e0 : ((k : Int) == 0) = false := by simp; omega
            have e1 : ((k : Int) == 4) = false := by simp; omega
            have e2 : ((k : Int) == 8) = false := by simp; omega
            have e3 : ((k : Int) == 12) = false := by simp; omega
            have e4 : ((k : Int) == 16) = false := by simp; omega
            have e5 : ((k : Int) == 20) = false := by simp; omega
            have e6 : ((k : Int) == 24) = false := by simp; omega
            have e7 : ((k : Int) == 28) = false := by simp; omega
            clear h hw
            go_wp2_with (first | (refine gate_load _ _ rfl ?_; refine wpList_mload1 rfl _ _ rfl _ _ rfl 0 H _ _ rfl hg (by decide +kernel) ?_) | fail)
            go_roundw
            case rel => exact ⟨k + 1, by omega, by go_num, by first | (rw [hs]; done) | (rw [hs]; go_num), H⟩
            case measure => simp [intOf]; omega
    · obtain ⟨k, hk⟩ : ∃ k, z.toNat = k := ⟨_, rfl⟩
      have hkz : (k : Int) = z := by omega
      have K1 := fun wr => vpal_ct (16128 + z) wr (by omega) (by omega)
      have hpl := pl_pv k (by omega)
      rw [hkz] at hpl
      rw [hpl] at K1
      rw [hk] at H
      have hp := pv_lt k
      have hg := met_get k (pvN k) hp
      have hs := met_set k
      have hz := met_size k
      have hc := cnt_le (pvN k) k
      have hn : metC (z + 1).toNat = metC (k + 1) := by rw [show (z + 1).toNat = k + 1 by omega]
      generalize cntN k (pvN k) = c at *
      generalize pvN k = P at *
      generalize metC (k + 1) = M at *
      have hl : ∀ x, P + (Value.cells (.int .i64 x)).size ≤ (metC k).size := fun x => by rw [hz]; show P + 1 ≤ 32; omega
      generalize metC k = N at *
      have hw : 16128 + z < 65536 := by omega
      have z2 : z < 256 := by omega
      have hc2 : c ≤ 256 := by omega
      dsimp only at K1
      have Q1 := Lib.hid K1
      replace hg := Lib.hid hg
      replace hs := Lib.hid hs
      replace hl := Lib.hid hl
      replace hn := Lib.hid hn
      clear K1 hz hpl hkz hk hc
      go_wp2_with (first
        | (go_at_call 6; (with_reducible refine (Q1.out _).mono ?_); rintro e w2 ⟨rfl, hB⟩; replace H := H.next hB; clear hB)
        | (refine gate_load _ _ rfl ?_; refine wpList_mload1 rfl _ _ rfl _ _ rfl 0 H _ _ rfl hg.out (by decide +kernel) ?_)
        | (refine gate_store _ _ _ rfl ?_; refine wpList_mstore rfl _ _ _ rfl rfl _ _ rfl 0 H _ _ rfl (.int _ _) rfl (by kernel_rfl) (hl.out _) (by kernel_rfl) hs.out ?_; clear H; intro w1 H; simp only [List.set_cons_zero] at H)
        | fail)
      go_roundw
      case rel => exact ⟨z + 1, by omega, by go_num, by rw [hn.out]; exact H⟩
      case measure => simp [intOf]; omega
end Go.Proofs.YtbonamhinnhlnabDoor
