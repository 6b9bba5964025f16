/-
  The law's awake: the chapter's examples. Texts of zeros. Over this seat's translation; no condition.
-/
import Derived.Test.YtaljenjnedijgaaHps
import Derived.Test.YtaljenjnedijgaaHrt
import Derived.Test.YtaljenjnedijgaaAlp
namespace Go.Proofs.Ytaljenjnedijgaa
open Go.RowKit

/-- n octets of zero, as a block. -/
def zObj (n : Nat) : Obj := .cells (madeCells #[.int .u8 0] n) 5
theorem madeCells_one (n i : Nat) (hi : i < n) : (madeCells #[.int .u8 0] n)[i]? = some (.int .u8 0) := by
  unfold madeCells
  simp [hi]
  rw [show i % 1 = 0 by omega]
  rfl
theorem info_octet : (Try.prog.info? 5).map (fun i => (i.zero, i.size, i.bytes)) = some (some (.int .u8 0), 1, 1) := by kernel_rfl
theorem make_zeros (n : Nat) (hn : n ≤ 2000000) (W : World) : (Instr.makeSlice 30 (.int .i64 (n : Int)) (.int .i64 (n : Int))).run Try.prog W = .ok (.slice (some ⟨W.heap.size, 0, none⟩) n n) (W.alloc (zObj n)) := by
  obtain ⟨i0, hi, hz0, hz1, hz2⟩ := info_parts info_octet
  have h := run_make (P := Try.prog) W 30 5 i0 (.int .u8 0) Try.underlying30 hi hz0 .i64 .i64 (n : Int) (n : Int) (by omega) (Int.le_refl _) (by rw [hz2]; omega) (by omega)
  rw [hz1] at h
  simp only [Int.toNat_natCast, Nat.mul_one] at h
  exact h
theorem conv_zeros (n : Nat) (W : World) : (convert 30 9 (.slice (some ⟨W.heap.size, 0, none⟩) n n)).run Try.prog (W.alloc (zObj n)) = .ok (.string (zS n)) (W.alloc (zObj n)) :=
  run_convert_bytes_arg (P := Try.prog) _ 30 5 Try.underlying30 Try.underlying5 W.heap.size 0 n n (List.replicate n 0) (by simp) (fun i hi => by
    have h1 := World.alloc_heap_new W (zObj n)
    unfold zObj at h1 ⊢
    rw [Nat.zero_add, Lib.cell_of_heap h1]
    rw [madeCells_one n i hi, List.getD_eq_getElem?_getD, List.getElem?_replicate, if_pos hi]
    rfl) _ Try.underlying9
def lst : Crt := ⟨0, 0, 16384, 8192, false, false, false, false, false⟩
def leastS : ByteArray := ⟨#[78, 69, 83, 26, 1, 1, 0, 0, 0, 0, 0, 0, 0, 0, 0, 0]⟩
theorem mk_least : mkS lst = leastS := by rfl
theorem chk_least : chkN lst = 0 := by rfl
theorem made_least (w : World) : Calls Try.prog 6 #[crtV lst] w fun e w' => e = .returned (.tuple #[.string leastS, .int .i64 0]) ∧ Below w.heap.size w w' := by
  have := hmake_yes lst w chk_least
  rw [mk_least] at this
  exact this
theorem w_cut : wholeE (leastS.extract 0 15) = 4 := by decide +kernel
theorem w_map : wholeE (leastS.extract 0 6 ++ ⟨#[80]⟩ ++ leastS.extract 7 16) = 6 := by decide +kernel
theorem w_less : wholeE (leastS ++ zS 24575) = 5 := by
  have := (whole_made lst chk_least (zS 24575)).2.2
  rw [mk_least, zS_size] at this
  rw [this]
  rfl
theorem w_full : wholeE (leastS ++ zS 24576) = 0 ∧ hdrC (leastS ++ zS 24576) = lst := by
  obtain ⟨h1, _, h3⟩ := whole_made lst chk_least (zS 24576)
  rw [mk_least, zS_size] at h3
  rw [mk_least] at h1
  exact ⟨by rw [h3]; rfl, h1⟩
end Go.Proofs.Ytaljenjnedijgaa
