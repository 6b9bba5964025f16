/-
  The walk of VramMirrors. Over this seat's translation; numbers are octets.
-/
import Derived.Test.YtbonamhinnhlnaaDoorVrr
namespace Go.Proofs.YtbonamhinnhlnaaDoor
open Go.RowKit
set_option linter.unusedSimpArgs false
set_option linter.unusedVariables false
set_option maxRecDepth 20000

/-- The number of screen x, by how screens are laid out. -/
def nvV (x k : Int) : Int := if k = 0 then x / 2 else if k = 1 then x % 2 else if k = 2 then 0 else if k = 3 then 1 else x
theorem sc_at (x p k : Int) (x0 : 0 ≤ x) (x1 : x < 4) (p0 : 0 ≤ p) (p1 : p < 256) (k0 : 0 ≤ k) (k1 : k < 5) : scR (8192 + x * 1024 + p) k = (nvV x k * 1024 + p, 0) := by
  have hk : kdV (8192 + x * 1024 + p) = 1 := by
    unfold kdV
    rw [if_neg (by omega), if_pos (by omega)]
  unfold scR
  rw [if_pos ⟨hk, k0, k1⟩]
  unfold scV noV nvV
  rw [show (8192 + x * 1024 + p) / 2048 % 2 = x / 2 by omega, show (8192 + x * 1024 + p) / 1024 % 2 = x % 2 by omega, show (8192 + x * 1024 + p) / 1024 % 4 = x by omega, show (8192 + x * 1024 + p) % 1024 = p by omega]
theorem half_u16 (x : Int) (x0 : 0 ≤ x) (x1 : x < 4) : IntKind.u16.wrap (x.tdiv 2) = x / 2 := by
  have hb : (2 : Int) ^ IntKind.u16.bits = 65536 := by decide
  rw [Int.tdiv_eq_ediv_of_nonneg x0]
  simp only [IntKind.wrap, IntKind.signed, hb]
  simp
  omega
theorem same_at (A B p : Int) : (A * 1024 + p == B * 1024 + p) = (A == B) := by
  rw [Bool.eq_iff_iff]
  simp only [beq_iff_eq]
  omega
theorem place_at (A p : Int) (A0 : 0 ≤ A) (p0 : 0 ≤ p) (p1 : p < 256) : (A * 1024 + p) % 1024 = p ∧ (A * 1024 + p).tmod 1024 = p := by
  rw [Int.tmod_eq_emod_of_nonneg (by omega)]
  omega
attribute [local irreducible] wpList
set_option maxHeartbeats 8000000 in
theorem vramMirrors_walk (p o t : Int) (w : World) (G : GlobV w) (p0 : 0 ≤ p) (p1 : p < 256) (o0 : 0 ≤ o) (o1 : o < 256) (t0 : 0 ≤ t) (t1 : t < 256) : Calls Tryd.prog 5 #[.int .u8 p, .int .u8 o, .int .u8 t] w fun e w' => e = .returned (.bool true) ∧ Below w.heap.size w w' := by
  have QW := Lib.hid (fun wr (g : GlobV wr) => awake13_ct wr g)
  have GG := Lib.hid G
  clear G
  have H := Mem.start w
  obtain ⟨x, hx⟩ : ∃ x, o % 4 = x := ⟨_, rfl⟩
  obtain ⟨y, hy⟩ : ∃ y, t % 4 = y := ⟨_, rfl⟩
  have x0 : 0 ≤ x := by omega
  have x1 : x < 4 := by omega
  have y0 : 0 ≤ y := by omega
  have y1 : y < 4 := by omega
  go_enter Tryd.func5, Tryd.ntmps5
  go_wp2_with fail
  go_loopw [11] (fun i wr => ∃ k : Nat, k ≤ 5 ∧ i = .int .i64 k ∧ Mem w.heap.size [] w wr []) (fun i _ => 5 - (intOf i).toNat)
  case atStart => exact ⟨0, Nat.zero_le _, rfl, H⟩
  case round =>
    clear H hx hy
    obtain ⟨k, hk, rfl, H⟩ := hrel
    by_cases h5 : k = 5
    · subst h5
      go_wp2_with (first | (go_at_call 12; (with_reducible refine (QW.out _ (GG.out.mem H)).mono ?_); rintro e w2 ⟨rfl, hB⟩; replace H := H.next hB; clear hB) | fail)
      go_ret
      exact ⟨rfl, H.toBelow⟩
    · have K1 := fun wr (g : GlobV wr) => vscr_ct (8192 + x * 1024 + p) (k : Int) wr g (by omega) (by omega)
      have K2 := fun wr (g : GlobV wr) => vscr_ct (8192 + y * 1024 + p) (k : Int) wr g (by omega) (by omega)
      rw [sc_at x p k x0 x1 p0 p1 (by omega) (by omega)] at K1
      rw [sc_at y p k y0 y1 p0 p1 (by omega) (by omega)] at K2
      have hc : k = 0 ∨ k = 1 ∨ k = 2 ∨ k = 3 ∨ k = 4 := by omega
      rcases hc with rfl | rfl | rfl | rfl | rfl
      all_goals
        simp only [nvV, Int.reduceEq, if_true, if_false, Int.natCast_zero, Int.natCast_one, Int.cast_ofNat_Int] at K1 K2
        have Q1 := Lib.hid K1
        have Q2 := Lib.hid K2
        clear K1 K2
      · have ea : IntKind.u16.wrap (x.tdiv 2) = x / 2 := half_u16 x x0 x1
        have eb : IntKind.u16.wrap (y.tdiv 2) = y / 2 := half_u16 y y0 y1
        have ec := same_at (x / 2) (y / 2) p
        obtain ⟨ed, ee⟩ := place_at (x / 2) p (by omega) p0 p1
        generalize x / 2 = A at *
        generalize y / 2 = B at *
        go_wp2_with (first
          | (go_at_call 6; first
            | ((with_reducible refine (Q1.out _ (GG.out.mem H)).mono ?_); rintro e w2 ⟨rfl, hB⟩; replace H := H.next hB; clear hB)
            | ((with_reducible refine (Q2.out _ (GG.out.mem H)).mono ?_); rintro e w2 ⟨rfl, hB⟩; replace H := H.next hB; clear hB))
          | fail)
        go_roundw
        case rel => exact ⟨1, by omega, by go_num, H⟩
        case measure => simp [intOf]
      · have ec := same_at (x % 2) (y % 2) p
        obtain ⟨ed, ee⟩ := place_at (x % 2) p (by omega) p0 p1
        go_wp2_with (first
          | (go_at_call 6; first
            | ((with_reducible refine (Q1.out _ (GG.out.mem H)).mono ?_); rintro e w2 ⟨rfl, hB⟩; replace H := H.next hB; clear hB)
            | ((with_reducible refine (Q2.out _ (GG.out.mem H)).mono ?_); rintro e w2 ⟨rfl, hB⟩; replace H := H.next hB; clear hB))
          | fail)
        go_roundw
        case rel => exact ⟨2, by omega, by go_num, H⟩
        case measure => simp [intOf]
      · go_wp2_with (first
          | (go_at_call 6; first
            | ((with_reducible refine (Q1.out _ (GG.out.mem H)).mono ?_); rintro e w2 ⟨rfl, hB⟩; replace H := H.next hB; clear hB)
            | ((with_reducible refine (Q2.out _ (GG.out.mem H)).mono ?_); rintro e w2 ⟨rfl, hB⟩; replace H := H.next hB; clear hB))
          | fail)
        go_roundw
        case rel => exact ⟨3, by omega, by go_num, H⟩
        case measure => simp [intOf]
      · obtain ⟨ed, ee⟩ := place_at 1 p (by omega) p0 p1
        go_wp2_with (first
          | (go_at_call 6; first
            | ((with_reducible refine (Q1.out _ (GG.out.mem H)).mono ?_); rintro e w2 ⟨rfl, hB⟩; replace H := H.next hB; clear hB)
            | ((with_reducible refine (Q2.out _ (GG.out.mem H)).mono ?_); rintro e w2 ⟨rfl, hB⟩; replace H := H.next hB; clear hB))
          | fail)
        go_roundw
        case rel => exact ⟨4, by omega, by go_num, H⟩
        case measure => simp [intOf]
      · have ec := same_at x y p
        obtain ⟨ed, ee⟩ := place_at x p (by omega) p0 p1
        go_wp2_with (first
          | (go_at_call 6; first
            | ((with_reducible refine (Q1.out _ (GG.out.mem H)).mono ?_); rintro e w2 ⟨rfl, hB⟩; replace H := H.next hB; clear hB)
            | ((with_reducible refine (Q2.out _ (GG.out.mem H)).mono ?_); rintro e w2 ⟨rfl, hB⟩; replace H := H.next hB; clear hB))
          | fail)
        go_roundw
        case rel => exact ⟨5, by omega, by go_num, H⟩
        case measure => simp [intOf]
end Go.Proofs.YtbonamhinnhlnaaDoor
