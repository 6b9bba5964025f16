/-
  The text of one line that tells a range, and what it reads as; no world.
-/
import Derived.Test.YtfceifmhlmiiiaaGreatDoorPol
namespace Go.Proofs.YtfceifmhlmiiiaaGreatDoor
open Go

def dg (i : Nat) : UInt8 := if i < 10 then UInt8.ofNat (48 + i) else UInt8.ofNat (87 + i)
def hexT : ByteArray := ⟨#[48, 49, 50, 51, 52, 53, 54, 55, 56, 57, 97, 98, 99, 100, 101, 102]⟩
theorem hexT_at (i : Nat) (h : i < 16) : (hexT.extract i (i + 1)).data.toList = [dg i] := by
  have hl : ∀ j : Fin 16, (hexT.data.toList.take (j.val + 1)).drop j.val = [dg j.val] := by decide
  have := hl ⟨i, h⟩
  rw [ByteArray.data_extract, Array.toList_extract, List.extract_eq_take_drop, ← List.drop_take]
  exact this
theorem hexV_dg (i : Nat) (h : i < 16) : hexV (dg i) = i := by
  have hl : ∀ j : Fin 16, hexV (dg j.val) = (j.val : Int) := by decide
  exact hl ⟨i, h⟩
theorem dg_ne (i : Nat) (h : i < 16) : dg i ≠ 45 ∧ dg i ≠ 10 := by
  have hl : ∀ j : Fin 16, dg j.val ≠ 45 ∧ dg j.val ≠ 10 := by decide
  exact hl ⟨i, h⟩
def num4 (n : Nat) : List UInt8 := [dg (n / 4096), dg (n / 256 % 16), dg (n / 16 % 16), dg (n % 16)]
theorem num4_val (n : Nat) (h : n < 65536) : isNum (num4 n) = true ∧ hexN (num4 n) = n := by
  have h0 := hexV_dg (n / 4096) (by omega)
  have h1 := hexV_dg (n / 256 % 16) (by omega)
  have h2 := hexV_dg (n / 16 % 16) (by omega)
  have h3 := hexV_dg (n % 16) (by omega)
  constructor
  · simp [isNum, isHex, num4, h0, h1, h2, h3]
    omega
  · simp only [hexN, num4, List.foldl_cons, List.foldl_nil, h0, h1, h2, h3]
    omega
theorem num4_mem (n : Nat) (h : n < 65536) : 45 ∉ num4 n ∧ 10 ∉ num4 n := by
  have h0 := dg_ne (n / 4096) (by omega)
  have h1 := dg_ne (n / 256 % 16) (by omega)
  have h2 := dg_ne (n / 16 % 16) (by omega)
  have h3 := dg_ne (n % 16) (by omega)
  simp only [num4, List.mem_cons, List.mem_nil_iff, or_false, not_or]
  exact ⟨⟨h0.1.symm, h1.1.symm, h2.1.symm, h3.1.symm⟩, ⟨h0.2.symm, h1.2.symm, h2.2.symm, h3.2.symm⟩⟩
theorem index_dash : ∀ (a b : List UInt8), 45 ∉ a → Lib.index (a ++ 45 :: b) [45] = a.length
  | [], b, _ => by simp [Lib.index]
  | c :: a, b, h => by
    have hc : c ≠ 45 := fun e => h (by rw [e]; exact List.mem_cons_self ..)
    have ih := index_dash a b fun hm => h (List.mem_cons_of_mem _ hm)
    rw [List.cons_append, Lib.index, ih]
    have hp : ([45] : List UInt8).isPrefixOf (c :: (a ++ 45 :: b)) = false := by
      simp [List.isPrefixOf, hc.symm]
    rw [hp, if_neg (by simp)]
    have hn : (((a.length : Nat) : Int) == -1) = false := by rw [beq_eq_false_iff_ne]; omega
    rw [hn, if_neg (by simp), List.length_cons]
    omega
theorem cut_dash (a b : List UInt8) (h : 45 ∉ a) : Lib.cut (a ++ 45 :: b) [45] = (a, b, true) := by
  unfold Lib.cut
  rw [index_dash a b h, if_pos (by omega)]
  simp
theorem span_line {size : Int} {f g : Nat} (hf : f < 65536) (hg : g < 65536) (hfg : f ≤ g) (hgs : (g : Int) < size) : spanL size (num4 f ++ 45 :: num4 g) = some ((f : Int), (g : Int)) := by
  have hc := cut_dash (num4 f) (num4 g) (num4_mem f hf).1
  have h1 : fstL (num4 f ++ 45 :: num4 g) = num4 f := by unfold fstL; rw [hc]
  have h2 : sndL (num4 f ++ 45 :: num4 g) = num4 g := by unfold sndL; rw [hc]; rfl
  have vf := num4_val f hf
  have vg := num4_val g hg
  unfold spanL spanB
  rw [h1, h2, vf.1, vg.1, vf.2, vg.2, decide_eq_true (show (f : Int) ≤ (g : Int) by omega), decide_eq_true hgs]
  rfl
def ramLine (f g : Nat) : List UInt8 := ramW ++ (num4 f ++ 45 :: num4 g)
def saveLine (f g : Nat) : List UInt8 := saveW ++ (num4 f ++ 45 :: num4 g)
theorem cls_ram {f g : Nat} (hf : f < 65536) (hg : g < 2048) (hfg : f ≤ g) : cls (ramLine f g) = .ram ((f : Int), (g : Int)) := by
  have hs : isSkip (ramLine f g) = false := rfl
  have hp1 : ¬ ramLine f g = port1W := by simp [ramLine, ramW, port1W]
  have hp2 : ¬ ramLine f g = port2W := by simp [ramLine, ramW, port2W]
  have hr : readL ramW 2048 (ramLine f g) = some ((f : Int), (g : Int)) := by
    have hp : Lib.hasPrefix (ramLine f g) ramW = true := by simp [Lib.hasPrefix, ramLine, ramW]
    have ht : Lib.trimPrefix (ramLine f g) ramW = num4 f ++ 45 :: num4 g := by
      unfold Lib.trimPrefix
      rw [hp, if_pos rfl]
      rfl
    unfold readL
    rw [hp, if_pos rfl, ht]
    exact span_line hf (by omega) hfg (by omega)
  unfold cls
  rw [hs, if_neg (by simp), if_neg hp1, if_neg hp2, hr]
theorem cls_save {f g : Nat} (hf : f < 65536) (hg : g < 8192) (hfg : f ≤ g) : cls (saveLine f g) = .save ((f : Int), (g : Int)) := by
  have hs : isSkip (saveLine f g) = false := rfl
  have hp1 : ¬ saveLine f g = port1W := by simp [saveLine, saveW, port1W]
  have hp2 : ¬ saveLine f g = port2W := by simp [saveLine, saveW, port2W]
  have hr1 : readL ramW 2048 (saveLine f g) = none := by
    have hp : Lib.hasPrefix (saveLine f g) ramW = false := rfl
    unfold readL
    rw [hp, if_neg (by simp)]
  have hr : readL saveW 8192 (saveLine f g) = some ((f : Int), (g : Int)) := by
    have hp : Lib.hasPrefix (saveLine f g) saveW = true := by simp [Lib.hasPrefix, saveLine, saveW]
    have ht : Lib.trimPrefix (saveLine f g) saveW = num4 f ++ 45 :: num4 g := by
      unfold Lib.trimPrefix
      rw [hp, if_pos rfl]
      rfl
    unfold readL
    rw [hp, if_pos rfl, ht]
    exact span_line hf (by omega) hfg (by omega)
  unfold cls
  rw [hs, if_neg (by simp), if_neg hp1, if_neg hp2, hr1, hr]
theorem line_ten {f g : Nat} (hf : f < 65536) (hg : g < 65536) : linesOf (ramLine f g) = [ramLine f g] ∧ linesOf (saveLine f g) = [saveLine f g] := by
  have a := (num4_mem f hf).2
  have b := (num4_mem g hg).2
  constructor <;> apply linesOf_none
  · simp [ramLine, ramW, a, b]
  · simp [saveLine, saveW, a, b]
theorem tidied_one {a b : Int} {T : List (Int × Int)} (h0 : 0 ≤ a) (h1 : a ≤ b) (h2 : b < 65536) (h : Tidied [(a, b)] T) : T = [(a, b)] := by
  have hm : mayB 0 [(a, b)] = true := by
    rw [mayB_iff]
    refine ⟨?_, ?_⟩
    · simp [Rise, h0, h1]
    · intro r hr
      simp at hr
      subst hr
      exact ⟨h0, h2⟩
  exact h.uniq (Tidied.self hm)
theorem tidied_nil {T : List (Int × Int)} (h : Tidied [] T) : T = [] := h.uniq (Tidied.self rfl)
end Go.Proofs.YtfceifmhlmiiiaaGreatDoor
