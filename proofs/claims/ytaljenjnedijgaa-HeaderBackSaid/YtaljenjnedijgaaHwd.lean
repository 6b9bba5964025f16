/-
  What the document's Whole hands back, as plain maths; its bits by what they are divided by. No condition.
-/
import Derived.Test.YtaljenjnedijgaaHwa
namespace Go.Proofs.Ytaljenjnedijgaa
open Go.RowKit

def wholeV (s : ByteArray) : Value := if wholeE s = 0 then .tuple #[.int .i64 (atN s), crtV (hdrC s), .int .i64 0] else .tuple #[.int .i64 0, crtV crt0, .int .i64 (wholeE s)]
/-- The same by a cartridge, where the octets stand ahead, and what there is. -/
def wholeW (c : Crt) (at_ n : Int) : Value := if chkN c = 0 then (if at_ + c.p + givN c ≤ n then .tuple #[.int .i64 at_, crtV c, .int .i64 0] else .tuple #[.int .i64 0, crtV crt0, .int .i64 5]) else .tuple #[.int .i64 0, crtV crt0, .int .i64 (chkN c)]
theorem wholeV_eq (s : ByteArray) (h : magB s = true) : wholeV s = wholeW (hdrC s) (atN s) s.size := by
  unfold wholeV wholeW wholeE
  rw [if_pos h]
  by_cases h0 : chkN (hdrC s) = 0
  · rw [if_pos h0]
    by_cases h1 : atN s + (hdrC s).p + givN (hdrC s) ≤ (s.size : Int)
    · simp [h0, h1]
    · simp [h0, h1]
  · simp [h0]
theorem wholeV_one (s : ByteArray) (h : magB s = true) (h7 : secK (oct s 7) = false) : wholeV s = wholeW (crtOf (oct s 4) (oct s 5) (oct s 6) (oct s 7) 0 0) (16 + if oct s 6 / 4 % 2 = 1 then 512 else 0) s.size := by
  rw [wholeV_eq s h]
  unfold hdrC y8 y9 atN trnN
  rw [h7]
  rfl
theorem wholeV_two (s : ByteArray) (h : magB s = true) (h7 : secK (oct s 7) = true) : wholeV s = wholeW (crtOf (oct s 4) (oct s 5) (oct s 6) (oct s 7) (oct s 8) (oct s 9)) (16 + if oct s 6 / 4 % 2 = 1 then 512 else 0) s.size := by
  rw [wholeV_eq s h]
  unfold hdrC y8 y9 atN trnN
  rw [h7]
  rfl
theorem amtR_in (a h u : Int) (a0 : 0 ≤ a) (a1 : a < 256) (g0 : 0 ≤ h) (g1 : h < 16) (u0 : 0 ≤ u) (u1 : u ≤ 16384) : 0 ≤ amtR a h u ∧ amtR a h u ≤ 67108864 := by
  unfold amtR
  split
  · have := dbl_bound (a / 4).toNat (a % 4 * 2 + 1) (by omega) (by omega)
    omega
  · refine ⟨Int.mul_nonneg (by omega) (by omega), ?_⟩
    have : (256 * h + a) * u ≤ 4096 * 16384 := Int.mul_le_mul (by omega) (by omega) (by omega) (by omega)
    omega
section
variable {w : World} {R : Nat} {c : Crt}
theorem CX.set_m (h : CX w R c) (v : Int) : CX (w.setCell ⟨R, 0, none⟩ (.int .i64 v)) R ⟨v, c.s, c.p, c.k, c.b, c.f, c.v, c.t, c.o⟩ := ⟨by simp [World.setCell, Array.getElem?_modify, h.obj]⟩
theorem CX.set_s (h : CX w R c) (v : Int) : CX (w.setCell ⟨R, 1, none⟩ (.int .i64 v)) R ⟨c.m, v, c.p, c.k, c.b, c.f, c.v, c.t, c.o⟩ := ⟨by simp [World.setCell, Array.getElem?_modify, h.obj]⟩
theorem CX.set_p (h : CX w R c) (v : Int) : CX (w.setCell ⟨R, 2, none⟩ (.int .i64 v)) R ⟨c.m, c.s, v, c.k, c.b, c.f, c.v, c.t, c.o⟩ := ⟨by simp [World.setCell, Array.getElem?_modify, h.obj]⟩
theorem CX.set_k (h : CX w R c) (v : Int) : CX (w.setCell ⟨R, 3, none⟩ (.int .i64 v)) R ⟨c.m, c.s, c.p, v, c.b, c.f, c.v, c.t, c.o⟩ := ⟨by simp [World.setCell, Array.getElem?_modify, h.obj]⟩
theorem CX.set_o (h : CX w R c) (v : Bool) : CX (w.setCell ⟨R, 8, none⟩ (.bool v)) R ⟨c.m, c.s, c.p, c.k, c.b, c.f, c.v, c.t, v⟩ := ⟨by simp [World.setCell, Array.getElem?_modify, h.obj]⟩
theorem CX.other (h : CX w R c) {Q : Nat} (hq : Q ≠ R) (i : Nat) (v : Value) : CX (w.setCell ⟨Q, i, none⟩ v) R c := ⟨by simp [World.setCell, Array.getElem?_modify, hq, h.obj]⟩
theorem CX.drew (h : CX w R c) : CX w.drew R c := ⟨h.obj⟩
end
end Go.Proofs.Ytaljenjnedijgaa
