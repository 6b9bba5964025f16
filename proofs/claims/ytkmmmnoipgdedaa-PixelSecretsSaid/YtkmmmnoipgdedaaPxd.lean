/-
  Package pixel's Colour, and the document's. Over this seat's translation; no condition. (Written by gen_px.py.)
-/
import Derived.Test.YtkmmmnoipgdedaaPxc
namespace Go.Proofs.Ytkmmmnoipgdedaa
open Go.RowKit Go.Sort
set_option linter.unusedSimpArgs false
set_option linter.unusedVariables false
set_option maxRecDepth 20000

theorem alloc_pb (w : World) : (Instr.alloc 28 true (.tuple #[])).run Try.prog w = .ok (.pointer (some ⟨w.heap.size, 0, none⟩)) (w.alloc (.cells #[.int .u8 0, .bool false] 28)) := by kernel_rfl
theorem build_pb2 (a : Int) (x : Bool) (b : Int) (y : Bool) (w : World) : (Instr.buildSlice 24 2 #[(0, .agg #[.int .u8 a, .bool x]), (1, .agg #[.int .u8 b, .bool y])]).run Try.prog w = .ok (.slice (some ⟨w.heap.size, 0, none⟩) 2 2) (w.alloc (.cells #[.int .u8 a, .bool x, .int .u8 b, .bool y] 28)) := by kernel_rfl
theorem rd_pb2 {w : World} {R : Nat} {a b : Int} {x y : Bool} {T : TypeId} (h : w.heap[R]? = some (.cells #[.int .u8 a, .bool x, .int .u8 b, .bool y] T)) : Rd w (.slice (some ⟨R, 0, none⟩) 2 2) [(a, x), (b, y)] := by
  refine ⟨_, _, rfl, by simp, by simp [maxLen], .inr ⟨R, 0, rfl, (Array.getElem?_eq_some_iff.1 h).1, fun k hk => ?_⟩⟩
  match k, hk with
  | 0, _ => exact ⟨cell_of_row w R 0 _ T _ h, cell_of_row w R 1 _ T _ h⟩
  | 1, _ => exact ⟨cell_of_row w R 2 _ T _ h, cell_of_row w R 3 _ T _ h⟩
theorem of_pb2 {n : Nat} {X : List Nat} {w0 w : World} {l : List (Nat × Array Value)} {R : Nat} (v a b : Int) (x y : Bool) (H : Mem n X w0 w l) (i : Nat) (hi : l[i]? = some (R, #[.int .u8 a, .bool x, .int .u8 b, .bool y])) :
    Calls Try.prog 21 #[.int .u8 v, .slice (some ⟨R, 0, none⟩) 2 2] w fun e w' => e = .returned (.agg #[.int .u8 v, .bool (x || y)]) ∧ Below w.heap.size w w' := by
  obtain ⟨T, h⟩ := H.get hi
  have := of_ct v _ [(a, x), (b, y)] w (rd_pb2 h)
  rw [anyS_two] at this
  exact this
def v8 (n : Int) : BitVec 8 := BitVec.ofInt 8 n
theorem w8_v8 {n : Int} (h0 : 0 ≤ n) (h1 : n < 256) : w8 (v8 n) = n := by
  obtain ⟨x, rfl⟩ := w8_ex h0 h1
  rw [v8, ofInt_w8]
/-- May a colour be told? What it is, and whether it is secret. -/
def colB (l : List (Int × Bool)) (i : BitVec 8) : Bool := decide (l.length = 32) && decide (w8 i < 32)
def colV (l : List (Int × Bool)) (i m : BitVec 8) : Int := cond (colB l i) (w8 (tintP (v8 (nth l i.toNat).1) m)) 0
def colS (l : List (Int × Bool)) (i : BitVec 8) (s : Bool) : Bool := cond (colB l i) ((nth l i.toNat).2 || s) false
def colE (l : List (Int × Bool)) (i : BitVec 8) : Int := cond (colB l i) 0 1
theorem tint_at (v m : BitVec 8) : w8 (tintP v m) = cond (m.getLsbD 0) (w8 (v &&& 48#8)) (w8 (v &&& 63#8)) := by
  unfold tintP
  cases m.getLsbD 0 <;> rfl
theorem mod64_t (v : BitVec 8) : (w8 v).tmod 64 = w8 (v &&& 63#8) := by rw [Int.tmod_eq_emod_of_nonneg (w8_lt v).1, mod64_raw]
theorem grey_t (v : BitVec 8) : (w8 (v &&& 63#8)).tdiv 16 * 16 = w8 (v &&& 48#8) := by rw [Int.tdiv_eq_ediv_of_nonneg (w8_lt _).1, grey_raw]
theorem par_t (m : BitVec 8) : ((w8 m).tmod 2 == 1) = m.getLsbD 0 := by rw [Int.tmod_eq_emod_of_nonneg (w8_lt m).1, par_raw]
def bytP (l : List (Int × Bool)) : Prop := ∀ k, k < l.length → 0 ≤ (nth l k).1 ∧ (nth l k).1 < 256
attribute [local irreducible] wpList
set_option maxHeartbeats 4000000 in
theorem pcol_no (a : Option Addr) (n cap : Nat) (i m : BitVec 8) (s : Bool) (h : n ≠ 32 ∨ 32 ≤ w8 i) (w : World) : Calls Try.prog 10 #[.slice a n cap, .int .u8 (w8 i), .int .u8 (w8 m), .bool s] w fun e w' => e = .returned (.tuple #[.agg #[.int .u8 0, .bool false], .int .i64 1]) ∧ Below w.heap.size w w' := by
  have hi := w8_lt i
  generalize w8 i = I at *
  obtain ⟨i0, i1⟩ := hi
  generalize w8 m = M at *
  by_cases hn : n = 32
  · subst hn
    have hI : 32 ≤ I := h.resolve_left (fun e => e rfl)
    clear h
    have HZ := Lib.hid alloc_pb
    have H := Mem.start w
    have M1 : True := trivial
    go_enter Try.func10, Try.ntmps10
    go_wp2_with (first | (clear M1; refine wpList_mnew rfl _ rfl H _ HZ.out ?_; clear H; intro Rr w1 _ H) | (refine gate_store _ _ _ rfl ?_; refine wpList_mstoreA rfl 28 _ _ rfl rfl _ rfl 0 H #[.int .u8 _, .bool _] _ rfl rfl (by kernel_rfl) (by kernel_rfl) (by kernel_rfl) ?_; clear H; intro w1 H; simp only [List.set_cons_zero, List.set_cons_succ] at H) | fail)
    (refine ret_mem2 rfl _ rfl 0 H _ rfl (by kernel_rfl) (by kernel_rfl) rfl _ rfl ?_); exact ⟨rfl, H.toBelow⟩
  · clear h
    have hn1 : (n : Int) ≠ 32 := by omega
    have HZ := Lib.hid alloc_pb
    have H := Mem.start w
    have M1 : True := trivial
    go_enter Try.func10, Try.ntmps10
    go_wp2_with (first | (clear M1; refine wpList_mnew rfl _ rfl H _ HZ.out ?_; clear H; intro Rr w1 _ H) | (refine gate_store _ _ _ rfl ?_; refine wpList_mstoreA rfl 28 _ _ rfl rfl _ rfl 0 H #[.int .u8 _, .bool _] _ rfl rfl (by kernel_rfl) (by kernel_rfl) (by kernel_rfl) ?_; clear H; intro w1 H; simp only [List.set_cons_zero, List.set_cons_succ] at H) | fail)
    (refine ret_mem2 rfl _ rfl 0 H _ rfl (by kernel_rfl) (by kernel_rfl) rfl _ rfl ?_); exact ⟨rfl, H.toBelow⟩
set_option maxHeartbeats 8000000 in
theorem pcol_yes (b off cap k : Nat) (i m v : BitVec 8) (x s : Bool) (hk : w8 i = (k : Int)) (hk2 : k < 32) (hc : 32 ≤ cap) (hm : cap ≤ maxLen) (w : World) (hb : b < w.heap.size) (h1 : w.cell? ⟨b, off + k * 2, none⟩ = some (.int .u8 (w8 v))) (h2 : w.cell? ⟨b, off + k * 2 + 1, none⟩ = some (.bool x)) : Calls Try.prog 10 #[.slice (some ⟨b, off, none⟩) 32 cap, .int .u8 (w8 i), .int .u8 (w8 m), .bool s] w fun e w' => e = .returned (.tuple #[.agg #[.int .u8 (w8 (tintP v m)), .bool (x || s)], .int .i64 0]) ∧ Below w.heap.size w w' := by
  unfold maxLen at hm
  rw [hk, tint_at]
  clear hk
  have H1 := Lib.hid h1
  have H2 := Lib.hid h2
  clear h1 h2
  obtain ⟨v0, v1⟩ := w8_lt v
  obtain ⟨b0, b1⟩ := w8_lt (v &&& 63#8)
  have g63 := and63_raw v
  have g48 := and48_63 v
  have mk := mask1 m
  generalize w8 (v &&& 63#8) = v63 at *
  generalize w8 (v &&& 48#8) = v48 at *
  generalize w8 v = V at *
  generalize m.getLsbD 0 = t at *
  generalize w8 m = M at *
  cases t
  · have mz : bits .and .u8 M 1 = 0 := by simpa using mk
    clear mk
    have HZ := Lib.hid alloc_pb
    have H := Mem.start w
    have M1 : True := trivial
    have M2 : True := trivial
    go_enter Try.func10, Try.ntmps10
    go_wp2_with (first | (clear M1; refine wpList_mnew rfl _ rfl H _ HZ.out ?_; clear H; intro Rr w1 _ H; have f1 := (H.toBelow.cell (p := ⟨b, off + k * 2, none⟩) hb).trans H1.out; have f2 := (H.toBelow.cell (p := ⟨b, off + k * 2 + 1, none⟩) hb).trans H2.out) | (clear M2; refine wpList_mrow rfl _ _ _ rfl H _ (by simp only [List.map_toArray, List.map_cons, List.map_nil, Act.eval]; rfl) _ _ (build_pb2 _ x 0 s) ?_; clear H; intro R2 w1 H) | (go_at_call 21; (with_reducible refine (of_pb2 _ _ _ x s H 0 rfl).mono ?_); rintro e w2 ⟨rfl, hB⟩; replace H := H.next hB; clear hB) | (refine gate_store _ _ _ rfl ?_; refine wpList_mstoreA rfl 28 _ _ rfl rfl _ rfl 1 H #[.int .u8 _, .bool _] _ rfl rfl (by kernel_rfl) (by kernel_rfl) (by kernel_rfl) ?_; clear H; intro w1 H; simp only [List.set_cons_zero, List.set_cons_succ] at H) | fail)
    (refine ret_mem2 rfl _ rfl 1 H _ rfl (by kernel_rfl) (by kernel_rfl) rfl _ rfl ?_); exact ⟨rfl, H.toBelow⟩
  · have mz : bits .and .u8 M 1 ≠ 0 := by simpa using mk
    clear mk
    have HZ := Lib.hid alloc_pb
    have H := Mem.start w
    have M1 : True := trivial
    have M2 : True := trivial
    go_enter Try.func10, Try.ntmps10
    go_wp2_with (first | (clear M1; refine wpList_mnew rfl _ rfl H _ HZ.out ?_; clear H; intro Rr w1 _ H; have f1 := (H.toBelow.cell (p := ⟨b, off + k * 2, none⟩) hb).trans H1.out; have f2 := (H.toBelow.cell (p := ⟨b, off + k * 2 + 1, none⟩) hb).trans H2.out) | (clear M2; refine wpList_mrow rfl _ _ _ rfl H _ (by simp only [List.map_toArray, List.map_cons, List.map_nil, Act.eval]; rfl) _ _ (build_pb2 _ x 0 s) ?_; clear H; intro R2 w1 H) | (go_at_call 21; (with_reducible refine (of_pb2 _ _ _ x s H 0 rfl).mono ?_); rintro e w2 ⟨rfl, hB⟩; replace H := H.next hB; clear hB) | (refine gate_store _ _ _ rfl ?_; refine wpList_mstoreA rfl 28 _ _ rfl rfl _ rfl 1 H #[.int .u8 _, .bool _] _ rfl rfl (by kernel_rfl) (by kernel_rfl) (by kernel_rfl) ?_; clear H; intro w1 H; simp only [List.set_cons_zero, List.set_cons_succ] at H) | fail)
    (refine ret_mem2 rfl _ rfl 1 H _ rfl (by kernel_rfl) (by kernel_rfl) rfl _ rfl ?_); exact ⟨rfl, H.toBelow⟩
set_option maxHeartbeats 4000000 in
theorem rcol16_no (a : Option Addr) (n cap : Nat) (i m : BitVec 8) (s : Bool) (h : n ≠ 32 ∨ 32 ≤ w8 i) (w : World) : Calls Try.prog 11 #[.slice a n cap, .int .u8 (w8 i), .int .u8 (w8 m), .bool s] w fun e w' => e = .returned (.tuple #[.agg #[.int .u8 0, .bool false], .int .i64 1]) ∧ Below w.heap.size w w' := by
  have hi := w8_lt i
  generalize w8 i = I at *
  obtain ⟨i0, i1⟩ := hi
  generalize w8 m = M at *
  by_cases hn : n = 32
  · subst hn
    have hI : 32 ≤ I := h.resolve_left (fun e => e rfl)
    clear h
    have HZ := Lib.hid alloc_pb
    have H := Mem.start w
    have M1 : True := trivial
    go_enter Try.func11, Try.ntmps11
    go_wp2_with (first | (clear M1; refine wpList_mnew rfl _ rfl H _ HZ.out ?_; clear H; intro Rr w1 _ H) | (refine gate_store _ _ _ rfl ?_; refine wpList_mstoreA rfl 28 _ _ rfl rfl _ rfl 0 H #[.int .u8 _, .bool _] _ rfl rfl (by kernel_rfl) (by kernel_rfl) (by kernel_rfl) ?_; clear H; intro w1 H; simp only [List.set_cons_zero, List.set_cons_succ] at H) | fail)
    (refine ret_mem2 rfl _ rfl 0 H _ rfl (by kernel_rfl) (by kernel_rfl) rfl _ rfl ?_); exact ⟨rfl, H.toBelow⟩
  · clear h
    have hn1 : (n : Int) ≠ 32 := by omega
    have HZ := Lib.hid alloc_pb
    have H := Mem.start w
    have M1 : True := trivial
    go_enter Try.func11, Try.ntmps11
    go_wp2_with (first | (clear M1; refine wpList_mnew rfl _ rfl H _ HZ.out ?_; clear H; intro Rr w1 _ H) | (refine gate_store _ _ _ rfl ?_; refine wpList_mstoreA rfl 28 _ _ rfl rfl _ rfl 0 H #[.int .u8 _, .bool _] _ rfl rfl (by kernel_rfl) (by kernel_rfl) (by kernel_rfl) ?_; clear H; intro w1 H; simp only [List.set_cons_zero, List.set_cons_succ] at H) | fail)
    (refine ret_mem2 rfl _ rfl 0 H _ rfl (by kernel_rfl) (by kernel_rfl) rfl _ rfl ?_); exact ⟨rfl, H.toBelow⟩
set_option maxHeartbeats 8000000 in
theorem rcol16_yes (b off cap k : Nat) (i m v : BitVec 8) (x s : Bool) (hk : w8 i = (k : Int)) (hk2 : k < 32) (hc : 32 ≤ cap) (hm : cap ≤ maxLen) (w : World) (hb : b < w.heap.size) (h1 : w.cell? ⟨b, off + k * 2, none⟩ = some (.int .u8 (w8 v))) (h2 : w.cell? ⟨b, off + k * 2 + 1, none⟩ = some (.bool x)) : Calls Try.prog 11 #[.slice (some ⟨b, off, none⟩) 32 cap, .int .u8 (w8 i), .int .u8 (w8 m), .bool s] w fun e w' => e = .returned (.tuple #[.agg #[.int .u8 (w8 (tintP v m)), .bool (x || s)], .int .i64 0]) ∧ Below w.heap.size w w' := by
  unfold maxLen at hm
  rw [hk, tint_at]
  clear hk
  have H1 := Lib.hid h1
  have H2 := Lib.hid h2
  clear h1 h2
  obtain ⟨v0, v1⟩ := w8_lt v
  obtain ⟨b0, b1⟩ := w8_lt (v &&& 63#8)
  have p64 := mod64_raw v
  have q16 := grey_raw v
  obtain ⟨m0, m1⟩ := w8_lt m
  have mk := par_raw m
  generalize w8 (v &&& 63#8) = v63 at *
  generalize w8 (v &&& 48#8) = v48 at *
  generalize w8 v = V at *
  generalize m.getLsbD 0 = t at *
  generalize w8 m = M at *
  cases x
  all_goals
    cases t
    · have mz : M % 2 ≠ 1 := by simpa using mk
      clear mk
      have HZ := Lib.hid alloc_pb
      have H := Mem.start w
      have M1 : True := trivial
      have M2 : True := trivial
      go_enter Try.func11, Try.ntmps11
      go_wp2_with (first | (clear M1; refine wpList_mnew rfl _ rfl H _ HZ.out ?_; clear H; intro Rr w1 _ H; have f1 := (H.toBelow.cell (p := ⟨b, off + k * 2, none⟩) hb).trans H1.out; have f2 := (H.toBelow.cell (p := ⟨b, off + k * 2 + 1, none⟩) hb).trans H2.out) | (refine gate_store _ _ _ rfl ?_; refine wpList_mstoreA rfl 28 _ _ rfl rfl _ rfl 0 H #[.int .u8 _, .bool _] _ rfl rfl (by kernel_rfl) (by kernel_rfl) (by kernel_rfl) ?_; clear H; intro w1 H; simp only [List.set_cons_zero, List.set_cons_succ] at H) | fail)
      (refine ret_mem2 rfl _ rfl 0 H _ rfl (by kernel_rfl) (by kernel_rfl) rfl _ rfl ?_); exact ⟨rfl, H.toBelow⟩
    · have mz : M % 2 = 1 := by simpa using mk
      clear mk
      have HZ := Lib.hid alloc_pb
      have H := Mem.start w
      have M1 : True := trivial
      have M2 : True := trivial
      go_enter Try.func11, Try.ntmps11
      go_wp2_with (first | (clear M1; refine wpList_mnew rfl _ rfl H _ HZ.out ?_; clear H; intro Rr w1 _ H; have f1 := (H.toBelow.cell (p := ⟨b, off + k * 2, none⟩) hb).trans H1.out; have f2 := (H.toBelow.cell (p := ⟨b, off + k * 2 + 1, none⟩) hb).trans H2.out) | (refine gate_store _ _ _ rfl ?_; refine wpList_mstoreA rfl 28 _ _ rfl rfl _ rfl 0 H #[.int .u8 _, .bool _] _ rfl rfl (by kernel_rfl) (by kernel_rfl) (by kernel_rfl) ?_; clear H; intro w1 H; simp only [List.set_cons_zero, List.set_cons_succ] at H) | fail)
      (refine ret_mem2 rfl _ rfl 0 H _ rfl (by kernel_rfl) (by kernel_rfl) rfl _ rfl ?_); exact ⟨rfl, H.toBelow⟩
end Go.Proofs.Ytkmmmnoipgdedaa
