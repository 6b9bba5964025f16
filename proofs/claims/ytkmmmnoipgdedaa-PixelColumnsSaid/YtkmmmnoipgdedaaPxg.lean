/-
  The walk of PixelColumns. Over this seat's translation; no condition. (Written by gen_px.py.)
-/
import Derived.Test.YtkmmmnoipgdedaaPxe
namespace Go.Proofs.Ytkmmmnoipgdedaa
open Go.RowKit Go.Sort
set_option linter.unusedSimpArgs false
set_option linter.unusedVariables false
set_option maxRecDepth 20000

attribute [local irreducible] wpList
theorem bits5 (m : BitVec 8) : (m &&& ~~~24#8).getLsbD 3 = false ∧ (m &&& ~~~24#8).getLsbD 4 = false := by
  have k : ∀ m : BitVec 8, (m &&& ~~~24#8).getLsbD 3 = false ∧ (m &&& ~~~24#8).getLsbD 4 = false := by decide +kernel
  exact k m
theorem bits6 (m y : BitVec 8) : (m ^^^ (y &&& 6#8)).getLsbD 3 = m.getLsbD 3 ∧ (m ^^^ (y &&& 6#8)).getLsbD 4 = m.getLsbD 4 := by
  have k : ∀ y : BitVec 8, (y &&& 6#8).getLsbD 3 = false ∧ (y &&& 6#8).getLsbD 4 = false := by decide +kernel
  simp only [BitVec.getLsbD_xor, (k y).1, (k y).2, Bool.xor_false, and_self]
set_option maxHeartbeats 16000000 in
theorem pixelColumns_in (G S M I x X Y M2 M3 : Int) (b l p1 p2 p3 p4 : Bool) (x0 : 0 ≤ X) (x1 : X < 256) (em2 : bits .xor .u8 M (bits .and .u8 Y 6) = M2) (em3 : bits .andNot .u8 M 24 = M3) (w : World) (h1 : ∀ wr, Calls Try.prog 8 #[.int .u8 M, .int .i64 (X % 8)] wr fun e w' => e = .returned (.tuple #[.bool (p3 && p1), .bool (p4 && p2)]) ∧ Below wr.heap.size wr w') (h2 : ∀ wr, Calls Try.prog 8 #[.int .u8 M, .int .i64 (X + 8)] wr fun e w' => e = .returned (.tuple #[.bool (p3), .bool (p4)]) ∧ Below wr.heap.size wr w') (h3 : ∀ wr, Calls Try.prog 8 #[.int .u8 M2, .int .i64 (X + 8)] wr fun e w' => e = .returned (.tuple #[.bool (p3), .bool (p4)]) ∧ Below wr.heap.size wr w') (h4 : ∀ wr, Calls Try.prog 8 #[.int .u8 M3, .int .i64 x] wr fun e w' => e = .returned (.tuple #[.bool (false), .bool (false)]) ∧ Below wr.heap.size wr w') (h5 : ∀ wr, Calls Try.prog 12 #[.int .u8 M] wr fun e w' => e = .returned (.bool (p3 || p4)) ∧ Below wr.heap.size wr w') (h6 : ∀ wr, Calls Try.prog 12 #[.int .u8 M3] wr fun e w' => e = .returned (.bool false) ∧ Below wr.heap.size wr w') : Calls Try.prog 5 #[.agg (pqV G S M I x b l), .int .u8 X, .int .u8 Y] w fun e w' => e = .returned (.bool true) ∧ Below w.heap.size w w' := by
  have QW := Lib.hid (fun wr => awake16_ct wr)
  have Q1 := Lib.hid h1
  have Q2 := Lib.hid h2
  have Q3 := Lib.hid h3
  have Q4 := Lib.hid h4
  have Q5 := Lib.hid h5
  have Q6 := Lib.hid h6
  have H := Mem.start w
  clear h1 h2 h3 h4 h5 h6
  have M1 : True := trivial
  cases p3 <;> cases p4 <;> cases p1 <;> cases p2
  all_goals
    go_enter Try.func5, Try.ntmps5
    go_wp2_with (first | (clear M1; refine wpList_mboxA rfl _ _ rfl H (pqV _ _ _ _ _ _ _) rfl ?_; clear H; intro Rq w1 _ H) | (refine gate_load _ _ rfl ?_; refine wpList_mload1 rfl 5 _ rfl _ _ rfl 0 H (pqV _ _ _ _ _ _ _) (.int .u8 _) rfl rfl (by decide +kernel) ?_) | (refine gate_load _ _ rfl ?_; refine wpList_mload1 rfl 3 _ rfl _ _ rfl 0 H (pqV _ _ _ _ _ _ _) (.int .i64 _) rfl rfl (by decide +kernel) ?_) | (refine gate_load _ _ rfl ?_; refine wpList_mload1 rfl 4 _ rfl _ _ rfl 0 H (pqV _ _ _ _ _ _ _) (.bool _) rfl rfl (by decide +kernel) ?_) | (go_at_call 8; (with_reducible refine (Q1.out _).mono ?_); rintro e w2 ⟨rfl, hB⟩; replace H := H.next hB; clear hB) | (go_at_call 8; (with_reducible refine (Q2.out _).mono ?_); rintro e w2 ⟨rfl, hB⟩; replace H := H.next hB; clear hB) | (go_at_call 8; (with_reducible refine (Q3.out _).mono ?_); rintro e w2 ⟨rfl, hB⟩; replace H := H.next hB; clear hB) | (go_at_call 8; (with_reducible refine (Q4.out _).mono ?_); rintro e w2 ⟨rfl, hB⟩; replace H := H.next hB; clear hB) | (go_at_call 12; (with_reducible refine (Q5.out _).mono ?_); rintro e w2 ⟨rfl, hB⟩; replace H := H.next hB; clear hB) | (go_at_call 12; (with_reducible refine (Q6.out _).mono ?_); rintro e w2 ⟨rfl, hB⟩; replace H := H.next hB; clear hB) | (go_at_call 18; (with_reducible refine (QW.out _).mono ?_); rintro e w2 ⟨rfl, hB⟩; replace H := H.next hB; clear hB) | fail)
    go_ret
    exact ⟨rfl, H.toBelow⟩
theorem pixelColumns_walk (q : Pq) (x y : BitVec 8) (w : World) : Calls Try.prog 5 #[.agg (pqC q), .int .u8 (w8 x), .int .u8 (w8 y)] w fun e w' => e = .returned (.bool true) ∧ Below w.heap.size w w' := by
  obtain ⟨x0, x1⟩ := w8_lt x
  have b5 := bits5 q.m
  have b6 := bits6 q.m y
  have em2 : bits .xor .u8 (w8 q.m) (bits .and .u8 (w8 y) 6) = w8 (q.m ^^^ (y &&& 6#8)) := by rw [show (6 : Int) = w8 6#8 by decide, v8_and, v8_xor]
  have em3 : bits .andNot .u8 (w8 q.m) 24 = w8 (q.m &&& ~~~24#8) := by rw [show (24 : Int) = w8 24#8 by decide, v8_an]
  have d1 : decide ((8 : Int) ≤ w8 x % 8) = false := decide_eq_false (by omega)
  have d2 : decide ((8 : Int) ≤ w8 x + 8) = true := decide_eq_true (by omega)
  refine pixelColumns_in (w8 q.g) (w8 q.s) (w8 q.m) (w8 q.i) q.x (w8 x) (w8 y) _ _ q.b q.l (q.m.getLsbD 1) (q.m.getLsbD 2) (q.m.getLsbD 3) (q.m.getLsbD 4) x0 x1 em2 em3 w (fun wr => ?_) (fun wr => ?_) (fun wr => ?_) (fun wr => ?_) (fun wr => ?_) (fun wr => ?_)
  · have := pshown_ct q.m (w8 x % 8) wr
    unfold gndP sprP at this
    rw [d1, Bool.false_or, Bool.false_or] at this
    exact this
  · have := pshown_ct q.m (w8 x + 8) wr
    unfold gndP sprP at this
    rw [d2, Bool.true_or, Bool.true_or, Bool.and_true, Bool.and_true] at this
    exact this
  · have := pshown_ct (q.m ^^^ (y &&& 6#8)) (w8 x + 8) wr
    unfold gndP sprP at this
    rw [d2, Bool.true_or, Bool.true_or, Bool.and_true, Bool.and_true, b6.1, b6.2] at this
    exact this
  · have := pshown_ct (q.m &&& ~~~24#8) q.x wr
    unfold gndP sprP at this
    rw [b5.1, b5.2, Bool.false_and, Bool.false_and] at this
    exact this
  · have := pon_ct q.m wr
    unfold anyP at this
    exact this
  · have := pon_ct (q.m &&& ~~~24#8) wr
    unfold anyP at this
    rw [b5.1, b5.2] at this
    exact this
end Go.Proofs.Ytkmmmnoipgdedaa
