/-
  Package tile's Dot. Over this seat's translation; no condition. (Written by gen_ti.py.)
-/
import Derived.Test.YtbgclhhhfldphaaTic
namespace Go.Proofs.Ytbgclhhhfldphaa
open Go.RowKit Go.Sort
set_option linter.unusedSimpArgs false
set_option linter.unusedVariables false
set_option maxRecDepth 20000

attribute [local irreducible] wpList
def dotE (t : Ti) (n : Nat) : Int := bits .or .u8 (bits .or .u8 (bits .or .u8 (bits .or .u8 (bits .or .u8 0 (bits .and .u16 (w16 t.lo / 2 ^ n) 1 % 256)) (bits .and .u16 (w16 t.hi / 2 ^ n) 1 % 256 * 2 % 256)) (bits .and .u16 (w16 t.one / 2 ^ n) 1 % 256 * 4 % 256)) (bits .and .u16 (w16 t.two / 2 ^ n) 1 % 256 * 8 % 256)) (bits .and .u16 (w16 t.s / 2 ^ n) 1 % 256 * 16 % 256)
theorem dot_fin : ∀ a b c d e : Bool, (bits .or .u8 (bits .or .u8 (bits .or .u8 (bits .or .u8 (bits .or .u8 0 (b2i a % 256)) (b2i b % 256 * 2 % 256)) (b2i c % 256 * 4 % 256)) (b2i d % 256 * 8 % 256)) (b2i e % 256 * 16 % 256)).tmod 16 = b2i a + 2 * b2i b + 4 * b2i c + 8 * b2i d ∧ decide (16 ≤ bits .or .u8 (bits .or .u8 (bits .or .u8 (bits .or .u8 (bits .or .u8 0 (b2i a % 256)) (b2i b % 256 * 2 % 256)) (b2i c % 256 * 4 % 256)) (b2i d % 256 * 8 % 256)) (b2i e % 256 * 16 % 256)) = e := by decide +kernel
set_option maxHeartbeats 2000000 in
theorem tdot_ct (t : Ti) (x : BitVec 8) (w : World) : Calls Try.prog 8 #[.agg (tiC t), .int .u8 (w8 x)] w fun e w' => e = .returned (.tuple #[.int .u8 (dotT t (w8 x % 8).toNat), .bool (secT t (w8 x % 8).toNat)]) ∧ Below w.heap.size w w' := by
  obtain ⟨X, hX⟩ : ∃ X, w8 x % 8 = X := ⟨_, rfl⟩
  have hx := w8_lt x
  have hm : (w8 x).tmod 8 = X := by rw [Int.tmod_eq_emod_of_nonneg hx.1, hX]
  have x0 : 0 ≤ X := by omega
  have x7 : X < 8 := by omega
  have hn : (15 - X).toNat = 15 - X.toNat := by omega
  rw [hX]
  unfold dotT secT
  generalize 15 - X.toNat = n at *
  clear hx
  have QN := Lib.hid (fun R wr => numbers_ct R wr)
  have H := Mem.start w
  have M1 : True := trivial
  go_enter Try.func8, Try.ntmps8
  go_wp2_with (first | (clear M1; refine wpList_mboxA rfl _ _ rfl H _ rfl ?_; clear H; intro Rc w1 _ H) | (go_at_call 19; (with_reducible refine (QN.out _ _).mono ?_); rintro e w2 ⟨rfl, hB⟩; replace H := H.next hB; clear hB) | fail)
  refine wp_loop_rounds (5 + 1) ?_
  rw [rounds_succ]
  go_wp2_with (first | (refine gate_tix _ _ _ rfl ?_; refine wpList_tix rfl _ _ _ rfl (.agg (nums _)) (.int .i64 0) _ rfl rfl (num_at0 _) ?_) | (refine gate_load _ _ rfl ?_; refine wpList_mload1 rfl 22 _ rfl _ _ rfl 0 H _ (.int .u16 _) rfl rfl (by decide +kernel) ?_) | fail)
  rw [rounds_succ]
  go_wp2_with (first | (refine gate_tix _ _ _ rfl ?_; refine wpList_tix rfl _ _ _ rfl (.agg (nums _)) (.int .i64 1) _ rfl rfl (num_at1 _) ?_) | (refine gate_load _ _ rfl ?_; refine wpList_mload1 rfl 22 _ rfl _ _ rfl 0 H _ (.int .u16 _) rfl rfl (by decide +kernel) ?_) | fail)
  rw [rounds_succ]
  go_wp2_with (first | (refine gate_tix _ _ _ rfl ?_; refine wpList_tix rfl _ _ _ rfl (.agg (nums _)) (.int .i64 2) _ rfl rfl (num_at2 _) ?_) | (refine gate_load _ _ rfl ?_; refine wpList_mload1 rfl 22 _ rfl _ _ rfl 0 H _ (.int .u16 _) rfl rfl (by decide +kernel) ?_) | fail)
  rw [rounds_succ]
  go_wp2_with (first | (refine gate_tix _ _ _ rfl ?_; refine wpList_tix rfl _ _ _ rfl (.agg (nums _)) (.int .i64 3) _ rfl rfl (num_at3 _) ?_) | (refine gate_load _ _ rfl ?_; refine wpList_mload1 rfl 22 _ rfl _ _ rfl 0 H _ (.int .u16 _) rfl rfl (by decide +kernel) ?_) | fail)
  rw [rounds_succ]
  go_wp2_with (first | (refine gate_tix _ _ _ rfl ?_; refine wpList_tix rfl _ _ _ rfl (.agg (nums _)) (.int .i64 4) _ rfl rfl (num_at4 _) ?_) | (refine gate_load _ _ rfl ?_; refine wpList_mload1 rfl 22 _ rfl _ _ rfl 0 H _ (.int .u16 _) rfl rfl (by decide +kernel) ?_) | fail)
  rw [rounds_succ]
  go_wp2
  go_ret2
  refine ⟨?_, H.toBelow⟩
  show Ending.returned (.tuple #[.int .u8 ((dotE t n).tmod 16), .bool (decide (16 ≤ dotE t n))]) = _
  unfold dotE
  simp only [bit16]
  rw [(dot_fin _ _ _ _ _).1, (dot_fin _ _ _ _ _).2]
end Go.Proofs.Ytbgclhhhfldphaa
