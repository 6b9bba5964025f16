/-
  strconv.FormatInt to the base sixteen, of numbers below 65536, and package policy's four digits. Over this seat's translation, where math/bits.deBruijn64tab holds what its text lays.
-/
import Derived.Test.YtfceifmhlmiiiaaGreatDoorLbl
import Derived.Test.YtfceifmhlmiiiaaGreatDoorPol
import Derived.Outline
namespace Go.Proofs.YtfceifmhlmiiiaaGreatDoor
open Go.RowKit

def digB (n : Int) : Int := if n < 10 then 48 + n else 87 + n
def digits36 : ByteArray := ⟨#[48, 49, 50, 51, 52, 53, 54, 55, 56, 57, 97, 98, 99, 100, 101, 102, 103, 104, 105, 106, 107, 108, 109, 110, 111, 112, 113, 114, 115, 116, 117, 118, 119, 120, 121, 122]⟩
set_option maxRecDepth 100000 in
theorem dig_at (x : Nat) (h : x < 16) (hs : x < digits36.size) : ((digits36[x]'hs).toNat : Int) = digB (x : Int) := by
  obtain rfl | rfl | rfl | rfl | rfl | rfl | rfl | rfl | rfl | rfl | rfl | rfl | rfl | rfl | rfl | rfl : x = 0 ∨ x = 1 ∨ x = 2 ∨ x = 3 ∨ x = 4 ∨ x = 5 ∨ x = 6 ∨ x = 7 ∨ x = 8 ∨ x = 9 ∨ x = 10 ∨ x = 11 ∨ x = 12 ∨ x = 13 ∨ x = 14 ∨ x = 15 := by omega
  all_goals rfl
def Tab15 (w : World) : Prop := w.cell? ⟨6, 15, none⟩ = some (.int .u8 4)
theorem tz_key : IntKind.u64.wrap (bits .and .u64 16 (IntKind.u64.wrap (-16)) * 285870213051353865) / 288230376151711744 = 15 := by kernel_rfl
set_option maxHeartbeats 1000000 in
theorem tz64_ct (w : World) (h : Tab15 w) : Calls Tryz.prog 106 #[.int .u64 16] w fun e w' => e = .returned (.int .i64 4) ∧ w = w' := by
  unfold Tab15 at h
  have hk := tz_key
  go_enter Tryz.func106, Tryz.ntmps106
  go_wp2
  go_ret
  exact ⟨rfl, rfl⟩
set_option maxHeartbeats 1000000 in
theorem tz_ct (w : World) (h : Tab15 w) : Calls Tryz.prog 102 #[.int .u64 16] w fun e w' => e = .returned (.int .i64 4) ∧ w = w' := by
  have h' := Lib.hid h
  clear h
  go_enter Tryz.func102, Tryz.ntmps102
  go_wp2_with (go_at_call 106; refine (tz64_ct _ h'.out).mono ?_; rintro e w' ⟨rfl, rfl⟩)
  go_ret
  exact ⟨rfl, rfl⟩
set_option maxHeartbeats 1000000 in
theorem pow2_ct (w : World) : Calls Tryz.prog 101 #[.int .i64 16] w fun e w' => e = .returned (.bool true) ∧ w = w' := by
  have hk : bits .and .i64 16 15 = 0 := by kernel_rfl
  go_enter Tryz.func101, Tryz.ntmps101
  go_wp2
  go_ret
  exact ⟨rfl, rfl⟩
/-- An array of the call's own, cell by cell. -/
def Arr (w : World) (g : Nat) (f : Nat → Int) : Prop := ∀ j, j < 65 → w.cell? ⟨g, j, none⟩ = some (.int .u8 (f j)) ∧ w.frozen? ⟨g, j, none⟩ = false
theorem Arr.stored {w : World} {g : Nat} {f : Nat → Int} (h : Arr w g f) (k : Nat) (v : Int) : Arr (w.setCell ⟨g, k, none⟩ (.int .u8 v)) g (fun j => if j = k then v else f j) := fun j hj => by
  refine ⟨?_, ?_⟩
  · by_cases e : j = k
    · subst e; simp only [if_true]; exact World.cell?_setCell_same w _ _ (h j hj).1
    · simp only [if_neg e]
      exact (World.cell?_setCell_other w _ _ _ (by intro q; cases q; exact e rfl)).trans (h j hj).1
  · have := (h j hj).2
    simpa [go_sem] using this
theorem arr0 (w : World) : Arr (w.alloc (.cells Tryz.zeroCells146 146)) w.heap.size (fun _ => 0) := fun j hj => by
  have h : Tryz.zeroCells146 = Array.replicate 65 (.int .u8 0) := by kernel_rfl
  rw [h]
  refine ⟨?_, by simp [go_sem]⟩
  simp [go_sem, hj]
theorem len65 : Tryz.prog.arrayLen 146 = 65 := by kernel_rfl
theorem arr65 : Tryz.prog.underlying 146 = some (.array (Tryz.prog.arrayLen 146) (Tryz.prog.elem 146)) := by kernel_rfl
theorem el65 : Tryz.prog.elem 146 = 5 := by kernel_rfl
theorem slice65 (b i : Nat) (h : i < 65) (w : World) : (Instr.sliceAt 146 (.pointer (some ⟨b, 0, none⟩)) (some (.int .i64 (i : Int))) none none).run Tryz.prog w = .ok (.slice (some ⟨b, i, none⟩) (65 - i) (65 - i)) w := by
  rw [run_sliceAt_array_l w 146 ⟨b, 0, none⟩ arr65 .i64 i (by omega) (by rw [len65]; omega), el65, Tryz.sizeOf5 w]
  simp only [Result.andThen, slicedAt, len65, Int.toNat_natCast, if_neg (show ¬ 65 = i by omega), Nat.mul_one]
  rw [show Addr.add ⟨b, 0, none⟩ i = ⟨b, i, none⟩ by unfold Addr.add; split <;> simp_all]
def hexI (n : Nat) : List Int := if n < 16 then [digB n] else hexI (n / 16) ++ [digB ((n % 16 : Nat) : Int)]
termination_by n
decreasing_by omega
theorem hexI_low (n : Nat) (h : n < 16) : hexI n = [digB n] := by rw [hexI, if_pos h]
theorem hexI_high (n : Nat) (h : ¬ n < 16) : hexI n = hexI (n / 16) ++ [digB ((n % 16 : Nat) : Int)] := by rw [hexI, if_neg h]
theorem and15 (u : Nat) (h : u < 65536) : bits .and .u64 (u : Int) 15 = ((u % 16 : Nat) : Int) := by
  have := bits_mask .u64 16 (by decide) (fun n h0 h1 => by simp [IntKind.wrap, IntKind.bits, IntKind.signed]; omega) 4 (by decide) (u : Int) (by omega) (by omega)
  simpa using this
def tailOf (f : Nat → Int) (k : Nat) : List Int := (List.range k).map fun j => f (65 - k + j)
theorem tailOf_next (f : Nat → Int) (k : Nat) (v : Int) (hk : k < 65) : tailOf (fun j => if j = 64 - k then v else f j) (k + 1) = v :: tailOf f k := by
  unfold tailOf
  rw [List.range_succ_eq_map, List.map_cons, List.map_map]
  congr 1
  · show (if 65 - (k + 1) + 0 = 64 - k then v else f _) = v
    rw [if_pos (by omega)]
  · refine List.map_congr_left fun j hj => ?_
    have := List.mem_range.1 hj
    simp only [Function.comp]
    rw [if_neg (by omega)]
    congr 1
    omega
set_option maxRecDepth 100000 in
set_option maxHeartbeats 2000000 in
theorem bits16_ct (n : Nat) (w : World) (h : Tab15 w) (hg : 6 < w.heap.size) (h1 : n < 65536) :
    Calls Tryz.prog 88 #[.slice none 0 0, .int .u64 n, .int .i64 16, .bool false, .bool false] w fun e w' => e = .returned (.tuple #[.slice none 0 0, .string (strOfNums (hexI n))]) ∧ Below w.heap.size w w' := by
  have h' : Hid (∀ o, Tab15 (w.alloc o)) := fun o => by
    have hb : Below w.heap.size w (w.alloc o) := (by repeat' (first | exact Below.refl _ _ | (refine Below.setCell ?_ (by first | (simp; done) | (simp; omega) | omega) _) | (refine Below.drew ?_) | (refine Below.drewN ?_ _) | (refine Below.alloc ?_ (by first | (simp; done) | (simp; omega) | omega) _)))
    unfold Tab15
    rw [hb.cell hg]
    exact h
  clear h
  have a0 := Lib.hid (arr0 w)
  go_enter Tryz.func88, Tryz.ntmps88
  go_wp2_with fail
  refine (pow2_ct _).mono ?_
  rintro e w1 ⟨rfl, rfl⟩
  go_wp2_with fail
  refine (tz_ct _ (h'.out _)).mono ?_
  rintro e w1 ⟨rfl, rfl⟩
  go_wp2
  go_loopw [1, 13] (fun u i wr => ∃ (k m : Nat) (f : Nat → Int), k ≤ 3 ∧ m < 16 ^ (4 - k) ∧ u = .int .u64 m ∧ i = .int .i64 ((65 - k : Nat) : Int) ∧ Arr wr w.heap.size f ∧ Hid (hexI n = hexI m ++ tailOf f k) ∧ Below w.heap.size w wr) (fun u _ _ => (intOf u).toNat)
  case atStart => exact ⟨0, n, fun _ => 0, by omega, by simpa using h1, rfl, rfl, a0.out, by simp [Hid, tailOf], (by repeat' (first | exact Below.refl _ _ | (refine Below.setCell ?_ (by first | (simp; done) | (simp; omega) | omega) _) | (refine Below.drew ?_) | (refine Below.drewN ?_ _) | (refine Below.alloc ?_ (by first | (simp; done) | (simp; omega) | omega) _)))⟩
  case round =>
    clear a0 h'
    obtain ⟨k, m, f, hk, hm, rfl, rfl, hA, hE, hB⟩ := hrel
    have hm16 : m < 65536 := Nat.lt_of_lt_of_le hm (by
      have : 16 ^ (4 - k) ≤ 16 ^ 4 := Nat.pow_le_pow_right (by omega) (by omega)
      omega)
    have hX := and15 m hm16
    obtain ⟨i, hi⟩ : ∃ i, i = 64 - k := ⟨_, rfl⟩
    have hi65 : 65 - k = i + 1 := by omega
    rw [hi65]
    have hil : i < 65 := by omega
    obtain ⟨c1, f1⟩ := hA i hil
    by_cases hlt : 16 ≤ m
    · have k2 : k ≤ 2 := by
        rcases Nat.lt_or_ge k 3 with q | q
        · omega
        · obtain rfl : k = 3 := by omega
          simp at hm; omega
      have hA' : Hid (∀ v : Int, v = digB ((m % 16 : Nat) : Int) → Arr (wr.setCell ⟨w.heap.size, i, none⟩ (.int .u8 v)) w.heap.size (fun j => if j = i then digB ((m % 16 : Nat) : Int) else f j)) := fun v hv => by rw [hv]; exact hA.stored i _
      have hE' : Hid (hexI n = hexI (m / 16) ++ tailOf (fun j => if j = i then digB ((m % 16 : Nat) : Int) else f j) (k + 1)) := by
        rw [Hid, hi, tailOf_next f k _ (by omega), hE.out, hexI_high m (by omega)]; simp
      have hm' : m / 16 < 16 ^ (4 - (k + 1)) := by
        have : 16 ^ (4 - k) = 16 * 16 ^ (4 - (k + 1)) := by rw [← Nat.pow_succ']; congr 1; omega
        omega
      have hq : (m : Int) / 16 = ((m / 16 : Nat) : Int) := by omega
      have Hi := Lib.hid hi
      have Hm := Lib.hid hm'
      clear hA hE hm hm' hi hi65 hq
      go_wp2
      go_roundw
      case rel => exact ⟨k + 1, m / 16, _, by omega, Hm.out, by go_num, by rw [Hi.out]; go_num, hA'.out _ (dig_at (m % 16) (by omega) _), hE', (by repeat' (first | exact Below.refl _ _ | (refine Below.setCell ?_ (by first | (simp; done) | (simp; omega) | omega) _) | (refine Below.drew ?_) | (refine Below.drewN ?_ _) | (refine Below.alloc ?_ (by first | (simp; done) | (simp; omega) | omega) _) | (refine Below.trans ?_ (Below.mono hB (by first | (simp; done) | (simp; omega) | omega)))))⟩
      case measure => simp [intOf]; omega
    · have hA' := hA.stored i (digB (m : Int))
      have hE' : hexI n = tailOf (fun j => if j = i then digB (m : Int) else f j) (k + 1) := by
        rw [hi, tailOf_next f k _ (by omega), hE.out, hexI_low m (by omega)]; simp
      have kc := run_convert_bytes_arg (P := Tryz.prog) (wr.setCell ⟨w.heap.size, i, none⟩ (.int .u8 (((digits36[m]'(by show m < 36; omega)).toNat : Nat) : Int))) 75 5 Tryz.underlying75 Tryz.underlying5 w.heap.size i (k + 1) (k + 1) (hexI n) (by rw [hE']; simp [tailOf]) (fun j hj => by
        rw [dig_at m (by omega), (hA' (i + j) (by omega)).1, hE']
        unfold tailOf
        rw [List.getD_eq_getElem?_getD, List.getElem?_map, List.getElem?_range hj, show 65 - (k + 1) = i by omega]
        rfl) 9 Tryz.underlying9
      have kl : 65 - i = k + 1 := by omega
      unfold digits36 at kc
      have ks := slice65 w.heap.size i hil
      rw [kl] at ks
      clear kl
      clear hA hE hA' hE' hm hi hi65
      go_wp2
      go_ret2
      exact ⟨rfl, (by repeat' (first | exact Below.refl _ _ | (refine Below.setCell ?_ (by first | (simp; done) | (simp; omega) | omega) _) | (refine Below.drew ?_) | (refine Below.drewN ?_ _) | (refine Below.alloc ?_ (by first | (simp; done) | (simp; omega) | omega) _) | (refine Below.trans ?_ (Below.mono hB (by first | (simp; done) | (simp; omega) | omega)))))⟩
end Go.Proofs.YtfceifmhlmiiiaaGreatDoor
