/-
  What this seat's package-level variables hold, and that it stays so; and FormatInt to the base sixteen, and package policy's four digits, of numbers below 65536. Over this seat's translation.
-/
import Derived.Test.YtfceifmhlmiiiaaGreatDoorFmt
import Derived.Test.YtfceifmhlmiiiaaGreatDoorShl
namespace Go.Proofs.YtfceifmhlmiiiaaGreatDoor
open Go.RowKit

def port1B : ByteArray := ⟨#[112, 111, 114, 116, 32, 49]⟩
def port2B : ByteArray := ⟨#[112, 111, 114, 116, 32, 50]⟩
/-- The variables that are read, as their texts lay them (of MaxLen: a number). -/
structure Glob (w : World) : Prop where
  tab : Tab15 w
  tabL : 6 < w.heap.size
  max : ∃ m : Int, w.cell? ⟨1, 0, none⟩ = some (.int .i64 m)
  maxL : 1 < w.heap.size
  port1 : w.cell? ⟨0, 0, none⟩ = some (.string port1B)
  port2 : w.cell? ⟨0, 1, none⟩ = some (.string port2B)
  portL : 0 < w.heap.size
theorem Glob.below {w w' : World} (h : Glob w) (hb : Below w.heap.size w w') : Glob w' where
  tab := by unfold Tab15; rw [hb.cell h.tabL]; exact h.tab
  tabL := Nat.lt_of_lt_of_le h.tabL hb.size
  max := by obtain ⟨m, hm⟩ := h.max; exact ⟨m, by rw [hb.cell h.maxL]; exact hm⟩
  maxL := Nat.lt_of_lt_of_le h.maxL hb.size
  port1 := by rw [hb.cell h.portL]; exact h.port1
  port2 := by rw [hb.cell h.portL]; exact h.port2
  portL := Nat.lt_of_lt_of_le h.portL hb.size

set_option maxRecDepth 100000 in
set_option maxHeartbeats 1000000 in
theorem fmtin_ct (n : Nat) (w : World) (G : Glob w) (h1 : n < 65536) :
    Calls Tryz.prog 67 #[.int .i64 n, .int .i64 16] w fun e w' => e = .returned (.string (strOfNums (hexI n))) ∧ Below w.heap.size w w' := by
  have h' := Lib.hid G
  clear G
  go_enter Tryz.func67, Tryz.ntmps67
  go_wp2_with fail
  refine (bits16_ct n _ h'.out.tab h'.out.tabL h1).mono ?_
  rintro e w1 ⟨rfl, hB⟩
  go_wp2
  go_ret
  exact ⟨rfl, hB⟩
set_option maxHeartbeats 1000000 in
theorem fmt_ct (n : Nat) (w : World) (G : Glob w) (h1 : n < 65536) :
    Calls Tryz.prog 51 #[.int .i64 n, .int .i64 16] w fun e w' => e = .returned (.string (strOfNums (hexI n))) ∧ Below w.heap.size w w' := by
  have h' := Lib.hid G
  clear G
  go_enter Tryz.func51, Tryz.ntmps51
  go_wp2_with fail
  refine (fmtin_ct n _ h'.out h1).mono ?_
  rintro e w1 ⟨rfl, hB⟩
  go_wp2
  go_ret
  exact ⟨rfl, hB⟩
def fourI (n : Nat) : List Int := [digB ((n / 4096 : Nat) : Int), digB ((n / 256 % 16 : Nat) : Int), digB ((n / 16 % 16 : Nat) : Int), digB ((n % 16 : Nat) : Int)]
theorem hexI_four (n : Nat) (h : n < 65536) : ∃ c : Nat, c ≤ 3 ∧ (hexI n).length + c = 4 ∧ List.replicate c 48 ++ hexI n = fourI n := by
  have d0 : digB 0 = 48 := rfl
  by_cases h1 : n < 16
  · refine ⟨3, by omega, by rw [hexI_low n h1]; rfl, ?_⟩
    rw [hexI_low n h1]
    simp [fourI, List.replicate, show n / 4096 = 0 by omega, show n / 256 = 0 by omega, show n / 16 = 0 by omega, show n % 16 = n by omega, d0]
  · by_cases h2 : n < 256
    · refine ⟨2, by omega, by rw [hexI_high n h1, hexI_low (n / 16) (by omega)]; rfl, ?_⟩
      rw [hexI_high n h1, hexI_low (n / 16) (by omega)]
      simp [fourI, List.replicate, show n / 4096 = 0 by omega, show n / 256 = 0 by omega, show n / 16 % 16 = n / 16 by omega, d0]
    · by_cases h3 : n < 4096
      · refine ⟨1, by omega, by rw [hexI_high n h1, hexI_high (n / 16) (by omega), hexI_low (n / 16 / 16) (by omega)]; rfl, ?_⟩
        rw [hexI_high n h1, hexI_high (n / 16) (by omega), hexI_low (n / 16 / 16) (by omega)]
        simp [fourI, List.replicate, show n / 4096 = 0 by omega, show n / 16 / 16 = n / 256 by omega, show n / 256 % 16 = n / 256 by omega, d0]
      · refine ⟨0, by omega, by rw [hexI_high n h1, hexI_high (n / 16) (by omega), hexI_high (n / 16 / 16) (by omega), hexI_low (n / 16 / 16 / 16) (by omega)]; rfl, ?_⟩
        rw [hexI_high n h1, hexI_high (n / 16) (by omega), hexI_high (n / 16 / 16) (by omega), hexI_low (n / 16 / 16 / 16) (by omega)]
        simp [fourI, show n / 16 / 16 = n / 256 by omega, show (n : Int) / 256 / 16 = n / 4096 by omega]
theorem rep48 : ∀ c, Lib.repeatL [48] c = List.replicate c 48
  | 0 => rfl
  | c + 1 => by simp [Lib.repeatL, rep48 c, List.replicate_succ]
set_option maxHeartbeats 1000000 in
theorem four_ct (n : Nat) (w : World) (G : Glob w) (h1 : n < 65536) :
    Calls Tryz.prog 34 #[.int .i64 n] w fun e w' => e = .returned (.string (strOfNums (fourI n))) ∧ Below w.heap.size w w' := by
  have h' := Lib.hid G
  clear G
  obtain ⟨c, hc3, hl, hr⟩ := hexI_four n h1
  have hz : (4 : Int) - ((strOfNums (hexI n)).size : Int) = (c : Int) := by rw [strOfNums_size]; omega
  have hz0 : (strOfNums (hexI n)).size ≤ 4 := by rw [strOfNums_size]; omega
  have Hr : Hid ((⟨(Lib.repeatL [48] c).toArray⟩ : ByteArray) ++ strOfNums (hexI n) = strOfNums (fourI n)) := by
    rw [Hid, ← hr, rep48]
    apply ByteArray.ext
    rw [← Array.toList_inj]
    simp [strOfNums]
  have hno : ¬ 9223372036854775807 < (Lib.repeatL [48] c).length + (strOfNums (hexI n)).size := by rw [rep48, List.length_replicate]; omega
  clear hl hr
  go_enter Tryz.func34, Tryz.ntmps34
  go_wp2_with fail
  refine (fmt_ct n _ h'.out h1).mono ?_
  rintro e w1 ⟨rfl, hB⟩
  go_wp2_with fail
  refine (Tryz.strings_Repeat ⟨#[48]⟩ c _ (by omega) (by show 1 * c ≤ _; omega)).mono ?_
  rintro e w2 ⟨rfl, hB2⟩
  go_wp2
  go_ret
  exact ⟨by rw [Hr.out]; rfl, hB.next hB2⟩
end Go.Proofs.YtfceifmhlmiiiaaGreatDoor
