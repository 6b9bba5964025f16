/-
  The walk of PixelGrey. Over this seat's translation; no condition. (Written by gen_px.py.)
-/
import Derived.Test.YtkmmmnoipgdedaaPxe
namespace Go.Proofs.Ytkmmmnoipgdedaa
open Go.RowKit Go.Sort
set_option linter.unusedSimpArgs false
set_option linter.unusedVariables false
set_option maxRecDepth 20000

attribute [local irreducible] wpList
set_option maxHeartbeats 4000000 in
theorem pixelGrey_no (G S M I x : Int) (bb ll : Bool) (a : Option Addr) (n cap : Nat) (i0 : 0 ≤ I) (i1 : I < 256) (h : n ≠ 32 ∨ 32 ≤ I) (w : World) : Calls Try.prog 7 #[.agg (pqV G S M I x bb ll), .slice a n cap] w fun e w' => e = .returned (.bool true) ∧ Below w.heap.size w w' := by
  have QW := Lib.hid (fun wr => awake16_ct wr)
  have H := Mem.start w
  have M1 : True := trivial
  by_cases hn : n = 32
  · subst hn
    have hI : 31 < I := by have := h.resolve_left (fun e => e rfl); omega
    clear h
    go_enter Try.func7, Try.ntmps7
    go_wp2_with (first | (clear M1; refine wpList_mboxA rfl _ _ rfl H (pqV _ _ _ _ _ _ _) rfl ?_; clear H; intro Rq w1 _ H) | (refine gate_load _ _ rfl ?_; refine wpList_mload1 rfl 5 _ rfl _ _ rfl 0 H (pqV _ _ _ _ _ _ _) (.int .u8 _) rfl rfl (by decide +kernel) ?_) | (refine gate_load _ _ rfl ?_; refine wpList_mload1 rfl 3 _ rfl _ _ rfl 0 H (pqV _ _ _ _ _ _ _) (.int .i64 _) rfl rfl (by decide +kernel) ?_) | (refine gate_load _ _ rfl ?_; refine wpList_mload1 rfl 4 _ rfl _ _ rfl 0 H (pqV _ _ _ _ _ _ _) (.bool _) rfl rfl (by decide +kernel) ?_) | (go_at_call 18; (with_reducible refine (QW.out _).mono ?_); rintro e w2 ⟨rfl, hB⟩; replace H := H.next hB; clear hB) | fail)
    go_ret
    exact ⟨rfl, H.toBelow⟩
  · clear h
    have hn1 : ¬ (n : Int) = 32 := by omega
    have hn2 : decide ((n : Int) = 32) = false := decide_eq_false hn1
    have hn3 : ((n : Int) == 32) = false := by simpa using hn1
    go_enter Try.func7, Try.ntmps7
    go_wp2_with (first | (clear M1; refine wpList_mboxA rfl _ _ rfl H (pqV _ _ _ _ _ _ _) rfl ?_; clear H; intro Rq w1 _ H) | (refine gate_load _ _ rfl ?_; refine wpList_mload1 rfl 5 _ rfl _ _ rfl 0 H (pqV _ _ _ _ _ _ _) (.int .u8 _) rfl rfl (by decide +kernel) ?_) | (refine gate_load _ _ rfl ?_; refine wpList_mload1 rfl 3 _ rfl _ _ rfl 0 H (pqV _ _ _ _ _ _ _) (.int .i64 _) rfl rfl (by decide +kernel) ?_) | (refine gate_load _ _ rfl ?_; refine wpList_mload1 rfl 4 _ rfl _ _ rfl 0 H (pqV _ _ _ _ _ _ _) (.bool _) rfl rfl (by decide +kernel) ?_) | (go_at_call 18; (with_reducible refine (QW.out _).mono ?_); rintro e w2 ⟨rfl, hB⟩; replace H := H.next hB; clear hB) | fail)
    go_ret
    exact ⟨rfl, H.toBelow⟩
set_option maxHeartbeats 8000000 in
theorem pixelGrey_yes (G S M x : Int) (bb ll : Bool) (b off cap k : Nat) (v63 v48 V : Int) (y : Bool) (hk : k < 32) (hc : 32 ≤ cap) (hm : cap ≤ maxLen) (w : World) (hb : b < w.heap.size) (c0 : w.cell? ⟨b, off + k * 2, none⟩ = some (.int .u8 V)) (c1 : w.cell? ⟨b, off + k * 2 + 1, none⟩ = some (.bool y))
    (M1v M2v : Int) (em1 : bits .or .u8 M 1 = M1v) (em2 : bits .andNot .u8 M 1 = M2v) (h1 : ∀ wr, Below w.heap.size w wr → Calls Try.prog 10 #[.slice (some ⟨b, off, none⟩) 32 cap, .int .u8 (k : Int), .int .u8 (M1v), .bool ll] wr fun e w' => e = .returned (.tuple #[.agg #[.int .u8 (v48), .bool (y || ll)], .int .i64 0]) ∧ Below wr.heap.size wr w') (h2 : ∀ wr, Below w.heap.size w wr → Calls Try.prog 10 #[.slice (some ⟨b, off, none⟩) 32 cap, .int .u8 (k : Int), .int .u8 (M2v), .bool ll] wr fun e w' => e = .returned (.tuple #[.agg #[.int .u8 (v63), .bool (y || ll)], .int .i64 0]) ∧ Below wr.heap.size wr w') (h3 : ∀ wr, Below w.heap.size w wr → Calls Try.prog 10 #[.slice (some ⟨b, off, none⟩) 32 cap, .int .u8 (k : Int), .int .u8 (0), .bool ll] wr fun e w' => e = .returned (.tuple #[.agg #[.int .u8 (v63), .bool (y || ll)], .int .i64 0]) ∧ Below wr.heap.size wr w') (g1 : bits .and .u8 v63 48 = v48) (g2 : bits .and .u8 V 63 = v63) : Calls Try.prog 7 #[.agg (pqV G S M (k : Int) x bb ll), .slice (some ⟨b, off, none⟩) 32 cap] w fun e w' => e = .returned (.bool true) ∧ Below w.heap.size w w' := by
  unfold maxLen at hm
  have QW := Lib.hid (fun wr => awake16_ct wr)
  have HZ := Lib.hid alloc_pb
  have C1 := Lib.hid h1
  have C2 := Lib.hid h2
  have C3 := Lib.hid h3
  have K0 := Lib.hid c0
  have K1 := Lib.hid c1
  have H := Mem.start w
  clear h1 h2 h3 c0 c1
  have M1 : True := trivial
  have M2 : True := trivial
  have M3 : True := trivial
  have M4 : True := trivial
  generalize (y || ll) = z at *
  go_enter Try.func7, Try.ntmps7
  go_wp2_with (first | (clear M1; refine wpList_mboxA rfl _ _ rfl H (pqV _ _ _ _ _ _ _) rfl ?_; clear H; intro Rq w1 _ H) | (refine gate_load _ _ rfl ?_; refine wpList_mload1 rfl 5 _ rfl _ _ rfl 0 H (pqV _ _ _ _ _ _ _) (.int .u8 _) rfl rfl (by decide +kernel) ?_) | (refine gate_load _ _ rfl ?_; refine wpList_mload1 rfl 3 _ rfl _ _ rfl 0 H (pqV _ _ _ _ _ _ _) (.int .i64 _) rfl rfl (by decide +kernel) ?_) | (refine gate_load _ _ rfl ?_; refine wpList_mload1 rfl 4 _ rfl _ _ rfl 0 H (pqV _ _ _ _ _ _ _) (.bool _) rfl rfl (by decide +kernel) ?_) | (refine gate_load _ _ rfl ?_; refine wpList_mload1 rfl 5 _ rfl _ _ rfl 1 H (pqV _ _ _ _ _ _ _) (.int .u8 _) rfl rfl (by decide +kernel) ?_) | (refine gate_load _ _ rfl ?_; refine wpList_mload1 rfl 3 _ rfl _ _ rfl 1 H (pqV _ _ _ _ _ _ _) (.int .i64 _) rfl rfl (by decide +kernel) ?_) | (refine gate_load _ _ rfl ?_; refine wpList_mload1 rfl 4 _ rfl _ _ rfl 1 H (pqV _ _ _ _ _ _ _) (.bool _) rfl rfl (by decide +kernel) ?_) | (refine gate_load _ _ rfl ?_; refine wpList_mload1 rfl 5 _ rfl _ _ rfl 2 H (pqV _ _ _ _ _ _ _) (.int .u8 _) rfl rfl (by decide +kernel) ?_) | (refine gate_load _ _ rfl ?_; refine wpList_mload1 rfl 3 _ rfl _ _ rfl 2 H (pqV _ _ _ _ _ _ _) (.int .i64 _) rfl rfl (by decide +kernel) ?_) | (refine gate_load _ _ rfl ?_; refine wpList_mload1 rfl 4 _ rfl _ _ rfl 2 H (pqV _ _ _ _ _ _ _) (.bool _) rfl rfl (by decide +kernel) ?_) | (go_at_call 10; (with_reducible refine (C1.out _ H.toBelow).mono ?_); rintro e w2 ⟨rfl, hB⟩; replace H := H.next hB; clear hB) | (go_at_call 10; (with_reducible refine (C2.out _ H.toBelow).mono ?_); rintro e w2 ⟨rfl, hB⟩; replace H := H.next hB; clear hB) | (go_at_call 10; (with_reducible refine (C3.out _ H.toBelow).mono ?_); rintro e w2 ⟨rfl, hB⟩; replace H := H.next hB; clear hB) | (clear M2; refine wpList_mnew rfl _ rfl H _ HZ.out ?_; clear H; intro Ra w1 _ H) | (clear M3; refine wpList_mnew rfl _ rfl H _ HZ.out ?_; clear H; intro Rb w1 _ H) | (clear M4; refine wpList_mnew rfl _ rfl H _ HZ.out ?_; clear H; intro Rc w1 _ H) | (refine gate_store _ _ _ rfl ?_; refine wpList_mstoreA rfl 28 _ _ rfl rfl _ rfl 0 H #[.int .u8 _, .bool _] _ rfl rfl (by kernel_rfl) (by kernel_rfl) (by kernel_rfl) ?_; clear H; intro w1 H; simp only [List.set_cons_zero, List.set_cons_succ] at H) | fail)
  have K2 := (H.toBelow.cell (p := ⟨b, off + k * 2, none⟩) hb).trans K0.out
  have r1 := cell_regrown K2
  (try simp only [Act.put, List.setIfInBounds_toArray, List.set_cons_succ, List.set_cons_zero])
  (refine wp_region_quiet_below (by kernel_rfl) (by kernel_rfl) ?_); (repeat (first | (go_big_quiet_want; refine gate_qload _ _ rfl ?_; refine quiet_mload1 5 _ rfl _ _ rfl 3 H (pqV _ _ _ _ _ _ _) (.int .u8 _) rfl rfl (by decide +kernel) ?_; simp only [Act.put, List.setIfInBounds_toArray, List.set_cons_succ, List.set_cons_zero]; go_big_quiet_on) | (go_big_quiet_want; refine gate_qload _ _ rfl ?_; refine quiet_mload1 3 _ rfl _ _ rfl 3 H (pqV _ _ _ _ _ _ _) (.int .i64 _) rfl rfl (by decide +kernel) ?_; simp only [Act.put, List.setIfInBounds_toArray, List.set_cons_succ, List.set_cons_zero]; go_big_quiet_on) | (go_big_quiet_want; refine gate_qload _ _ rfl ?_; refine quiet_mload1 4 _ rfl _ _ rfl 3 H (pqV _ _ _ _ _ _ _) (.bool _) rfl rfl (by decide +kernel) ?_; simp only [Act.put, List.setIfInBounds_toArray, List.set_cons_succ, List.set_cons_zero]; go_big_quiet_on) | (go_big_quiet_want; refine gate_qload _ _ rfl ?_; refine quiet_mload1 5 _ rfl _ _ rfl 0 H #[.int .u8 _, .bool _] (.int .u8 _) rfl rfl (by decide +kernel) ?_; simp only [Act.put, List.setIfInBounds_toArray, List.set_cons_succ, List.set_cons_zero]; go_big_quiet_on) | (go_big_quiet_want; refine gate_qload _ _ rfl ?_; refine quiet_mload1 4 _ rfl _ _ rfl 0 H #[.int .u8 _, .bool _] (.bool _) rfl rfl (by decide +kernel) ?_; simp only [Act.put, List.setIfInBounds_toArray, List.set_cons_succ, List.set_cons_zero]; go_big_quiet_on) | (go_big_quiet_want; refine gate_qload _ _ rfl ?_; refine quiet_mloadA 28 _ rfl _ rfl 0 H #[.int .u8 _, .bool _] rfl (by decide +kernel) (by kernel_rfl) ?_; simp only [Act.put, List.setIfInBounds_toArray, List.set_cons_succ, List.set_cons_zero]; go_big_quiet_on) | (go_big_quiet_want; refine gate_qload _ _ rfl ?_; refine quiet_mload1 5 _ rfl _ _ rfl 1 H #[.int .u8 _, .bool _] (.int .u8 _) rfl rfl (by decide +kernel) ?_; simp only [Act.put, List.setIfInBounds_toArray, List.set_cons_succ, List.set_cons_zero]; go_big_quiet_on) | (go_big_quiet_want; refine gate_qload _ _ rfl ?_; refine quiet_mload1 4 _ rfl _ _ rfl 1 H #[.int .u8 _, .bool _] (.bool _) rfl rfl (by decide +kernel) ?_; simp only [Act.put, List.setIfInBounds_toArray, List.set_cons_succ, List.set_cons_zero]; go_big_quiet_on) | (go_big_quiet_want; refine gate_qload _ _ rfl ?_; refine quiet_mloadA 28 _ rfl _ rfl 1 H #[.int .u8 _, .bool _] rfl (by decide +kernel) (by kernel_rfl) ?_; simp only [Act.put, List.setIfInBounds_toArray, List.set_cons_succ, List.set_cons_zero]; go_big_quiet_on) | (go_big_quiet_want; refine gate_qload _ _ rfl ?_; refine quiet_mload1 5 _ rfl _ _ rfl 2 H #[.int .u8 _, .bool _] (.int .u8 _) rfl rfl (by decide +kernel) ?_; simp only [Act.put, List.setIfInBounds_toArray, List.set_cons_succ, List.set_cons_zero]; go_big_quiet_on) | (go_big_quiet_want; refine gate_qload _ _ rfl ?_; refine quiet_mload1 4 _ rfl _ _ rfl 2 H #[.int .u8 _, .bool _] (.bool _) rfl rfl (by decide +kernel) ?_; simp only [Act.put, List.setIfInBounds_toArray, List.set_cons_succ, List.set_cons_zero]; go_big_quiet_on) | (go_big_quiet_want; refine gate_qload _ _ rfl ?_; refine quiet_mloadA 28 _ rfl _ rfl 2 H #[.int .u8 _, .bool _] rfl (by decide +kernel) (by kernel_rfl) ?_; simp only [Act.put, List.setIfInBounds_toArray, List.set_cons_succ, List.set_cons_zero]; go_big_quiet_on) | go_big_quiet_step ((first | (go_at_call 18; (with_reducible exact Calls.regrown_of (QW.out _))) | fail)))); (refine wpQuiet_nil ?_); intro _ hw'; obtain ⟨⟨dq, osq⟩, hw''⟩ := hw'; (subst hw''); replace H := H.next (below_regrown _ dq osq); generalize Go.Sort.grow (redrawn _ dq) osq = wq at *
  go_wp2
  go_ret
  exact ⟨rfl, H.toBelow⟩
theorem pixelGrey_walk (q : Pq) (sv : Value) (l : List (Int × Bool)) (w : World) (hr : Rd w sv l) (hb : bytP l) : Calls Try.prog 7 #[.agg (pqC q), sv] w fun e w' => e = .returned (.bool true) ∧ Below w.heap.size w w' := by
  obtain ⟨a, cap, rfl, hcap, hm, hr⟩ := hr
  obtain ⟨i0, i1⟩ := w8_lt q.i
  by_cases h2 : l.length = 32 ∧ w8 q.i < 32
  · obtain ⟨hl, hi⟩ := h2
    rcases hr with rfl | ⟨b, off, rfl, hlt, hc⟩
    · simp at hl
    obtain ⟨k, hk⟩ := Int.eq_ofNat_of_zero_le i0
    have hk2 : k < 32 := by omega
    obtain ⟨c1, c2⟩ := hc k (by omega)
    obtain ⟨v, hv⟩ := w8_ex (hb k (by omega)).1 (hb k (by omega)).2
    rw [hv] at c1
    rw [hl] at hcap ⊢
    have em1 : bits .or .u8 (w8 q.m) 1 = w8 (q.m ||| 1#8) := by rw [show (1 : Int) = w8 1#8 by decide, v8_or]
    have em2 : bits .andNot .u8 (w8 q.m) 1 = w8 (q.m &&& ~~~1#8) := by rw [show (1 : Int) = w8 1#8 by decide, v8_an]
    have C := fun (m : BitVec 8) wr (B : Below w.heap.size w wr) => pcol_yes b off cap k q.i m v _ q.l hk hk2 hcap hm wr (Nat.lt_of_lt_of_le hlt B.size) ((B.cell (p := ⟨b, off + k * 2, none⟩) hlt).trans c1) ((B.cell (p := ⟨b, off + k * 2 + 1, none⟩) hlt).trans c2)
    have C1 := C (q.m ||| 1#8)
    have C2 := C (q.m &&& ~~~1#8)
    have C3 := C 0#8
    have b1 : (q.m ||| 1#8).getLsbD 0 = true := by
      have k : ∀ m : BitVec 8, (m ||| 1#8).getLsbD 0 = true := by decide +kernel
      exact k _
    have b2 : (q.m &&& ~~~1#8).getLsbD 0 = false := by
      have k : ∀ m : BitVec 8, (m &&& ~~~1#8).getLsbD 0 = false := by decide +kernel
      exact k _
    rw [hk, tint_at, b1] at C1
    rw [hk, tint_at, b2] at C2
    rw [hk, tint_at, show (0#8).getLsbD 0 = false by decide] at C3
    have e : pqC q = pqV (w8 q.g) (w8 q.s) (w8 q.m) (k : Int) q.x q.b q.l := by unfold pqC pqV; rw [hk]
    rw [e]
    exact pixelGrey_yes (w8 q.g) (w8 q.s) (w8 q.m) q.x q.b q.l b off cap k (w8 (v &&& 63#8)) (w8 (v &&& 48#8)) (w8 v) (nth l k).2 hk2 hcap hm w hlt c1 c2 _ _ em1 em2 C1 C2 C3 (and48_63 v) (and63_raw v)
  · have hn : l.length ≠ 32 ∨ 32 ≤ w8 q.i := by
      by_cases e : l.length = 32
      · exact .inr (by have := fun h => h2 ⟨e, h⟩; omega)
      · exact .inl e
    exact pixelGrey_no (w8 q.g) (w8 q.s) (w8 q.m) (w8 q.i) q.x q.b q.l a l.length cap i0 i1 hn w
end Go.Proofs.Ytkmmmnoipgdedaa
