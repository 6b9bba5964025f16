/-
  What the laws of layer 16 share: rows of bytes that were copied, and are written; awake. Over this seat's translation; no condition. (Written by gen_px.py.)
-/
import Derived.Test.YtkmmmnoipgdedaaPxr
import Derived.Test.YtkmmmnoipgdedaaApp
namespace Go.Proofs.Ytkmmmnoipgdedaa
open Go.RowKit Go.Sort
set_option linter.unusedSimpArgs false
set_option linter.unusedVariables false
set_option maxRecDepth 20000

def pcs (x : Int × Bool) : List Value := [.int .u8 x.1, .bool x.2]
theorem pcs_len (x : Int × Bool) : (pcs x).length = 2 := rfl
theorem pcs_one (x : Int × Bool) : ∀ u ∈ pcs x, u.oneCell' = true := by
  intro u hu
  simp only [pcs, List.mem_cons, List.not_mem_nil, or_false] at hu
  rcases hu with rfl | rfl <;> rfl
theorem nthP_at {l : List (Int × Bool)} {k : Nat} (h : k < l.length) : l[k]? = some (nth l k) := by
  unfold nth
  rw [List.getD_eq_getElem?_getD, List.getElem?_eq_getElem h]
  rfl
theorem nthP_set {l : List (Int × Bool)} {k j : Nat} {x : Int × Bool} (h : j < l.length) : nth (l.set k x) j = if k = j then x else nth l j := by
  unfold nth
  rw [List.getD_eq_getElem?_getD, List.getD_eq_getElem?_getD, List.getElem?_set]
  split
  · rename_i e
    subst e
    simp [h]
  · rfl
theorem rowP_get {cs : Array Value} {cap : Nat} {l : List (Int × Bool)} (h : RowG pcs 2 cs cap l) (k : Nat) (hk : k < l.length) : cs[k * 2]? = some (.int .u8 (nth l k).1) ∧ cs[k * 2 + 1]? = some (.bool (nth l k).2) := by
  have e := nthP_at hk
  exact ⟨h.at_ _ _ (by have := flatG_get pcs_len l k _ e 0 (by decide); rw [show k * 2 = k * 2 + 0 by omega, this]; rfl), h.at_ _ _ (by have := flatG_get pcs_len l k _ e 1 (by decide); rw [this]; rfl)⟩
theorem spliceP_one (cs : Array Value) (p : Nat) (v : Value) (hp : p < cs.size) : (splice cs.toList p [v]).toArray = cs.setIfInBounds p v := by
  apply Array.ext'
  simp only [Array.toList_setIfInBounds, splice, List.length_cons, List.length_nil]
  rw [List.set_eq_take_append_cons_drop, if_pos (by simpa using hp)]
  simp
theorem rowP_set {cs : Array Value} {cap : Nat} {l : List (Int × Bool)} (h : RowG pcs 2 cs cap l) (k : Nat) (v : Int) (hk : k < l.length) : RowG pcs 2 (splice cs.toList (k * 2) [.int .u8 v]).toArray cap (l.set k (v, (nth l k).2)) := by
  have hsz := h.size
  have hle := h.le
  have hp : k * 2 < cs.size := by omega
  rw [spliceP_one cs _ _ hp]
  refine ⟨by simpa using hsz, by rw [List.length_set]; exact hle, h.max, fun j u hu => ?_⟩
  have hj : j < (l.set k (v, (nth l k).2)).length * 2 := by
    have := (List.getElem?_eq_some_iff.1 hu).1
    rwa [flatG_len pcs_len] at this
  rw [List.length_set] at hj
  have hq : j / 2 < l.length := by omega
  have hg := flatG_get pcs_len (l.set k (v, (nth l k).2)) (j / 2) _ (nthP_at (by rw [List.length_set]; exact hq)) (j % 2) (by omega)
  rw [show j / 2 * 2 + j % 2 = j by omega, hu, nthP_set hq] at hg
  obtain ⟨c0, c1⟩ := rowP_get h (j / 2) hq
  rw [Array.getElem?_setIfInBounds]
  by_cases e : k = j / 2
  · subst e
    rw [if_pos rfl] at hg
    rcases Nat.mod_two_eq_zero_or_one j with m | m
    · rw [m] at hg
      rw [if_pos (by omega), if_pos hp, hg]
      rfl
    · rw [m] at hg
      rw [if_neg (by omega), hg, show j = j / 2 * 2 + 1 by omega, show (j / 2 * 2 + 1) / 2 = j / 2 by omega, c1]
      rfl
  · rw [if_neg e] at hg
    rw [if_neg (by omega)]
    rcases Nat.mod_two_eq_zero_or_one j with m | m
    · rw [m] at hg
      rw [hg, show j = j / 2 * 2 by omega, show j / 2 * 2 / 2 = j / 2 by omega, c0]
      rfl
    · rw [m] at hg
      rw [hg, show j = j / 2 * 2 + 1 by omega, show (j / 2 * 2 + 1) / 2 = j / 2 by omega, c1]
      rfl
/-- A row of zeros is made. -/
theorem wpList_pmk {P : Program} {ops : Array Oper} {rest : List Oper} {o : Oper} {a : Act} {w : World} {Q : Exit → Act → World → Prop} {n : Nat} {X : List Nat} {w0 : World} {l : List (Nat × Array Value)} (hgd : Region.wanted o (yielded ops a.tmps) = true) (t : TypeId) (x y : Operand) (ho : o.op = .makeSlice t x y) (H : Mem n X w0 w l) (v u : Value) (hx : a.eval x = v) (hy : a.eval y = u) {cs : Array Value} {T : TypeId} {N : Nat}
    (hr : ∀ w : World, (Instr.makeSlice t v u).run P w = .ok (.slice (some ⟨w.heap.size, 0, none⟩) N N) (w.alloc (.cells cs T)))
    (h : ∀ R w1, w.heap.size ≤ R → Mem n X w0 w1 ((R, cs) :: l) → wpList P ops Q rest (a.put o.dst (.slice (some ⟨R, 0, none⟩) N N)) w1) : wpList P ops Q (o :: rest) a w :=
  wpList_want' hgd fun _ hK => by
    unfold Oper.wp execOp
    simp only [ho, hx, hy, Sem.run_bind, hr, Result.andThen_ok, Sem.run_pure]
    exact hK _ _ (h _ _ (Nat.le_refl _) (H.new _ _))
/-- One octet of a row is written. -/
theorem wpList_pst {P : Program} {ops : Array Oper} {rest : List Oper} {o : Oper} {a : Act} {w : World} {Q : Exit → Act → World → Prop} {n : Nat} {X : List Nat} {w0 : World} {l : List (Nat × Array Value)} (hgd : Region.wanted o (yielded ops a.tmps) = true) (ty : TypeId) (x y : Operand) (ho : o.op = .store ty x y) (hdst : o.dst = none) (R k : Nat) (hx : a.eval x = .pointer (some ⟨R, k * 2, none⟩)) (i : Nat) (H : Mem n X w0 w l) {cs : Array Value} {cap : Nat} {L : List (Int × Bool)} (hi : l[i]? = some (R, cs)) (hG : RowG pcs 2 cs cap L) (hk : k < L.length) (v : Int) (hy : a.eval y = .int .u8 v)
    (hz : (P.info? ty).map (·.size) = some 1) (h : ∀ w1 cs', RowG pcs 2 cs' cap (L.set k (v, (nth L k).2)) → Mem n X w0 w1 (l.set i (R, cs')) → wpList P ops Q rest a w1) : wpList P ops Q (o :: rest) a w :=
  wpList_mstore hgd ty x y ho hdst R (k * 2) hx i H cs _ hi (.int .u8 v) hy hz (by have h1 := hG.size; have h2 := hG.le; show k * 2 + 1 ≤ cs.size; omega) (by kernel_rfl) rfl fun w1 H1 => h w1 _ (rowP_set hG k v hk) H1
theorem flat_pcs (l : List (Int × Bool)) : flat l = l.flatMap pcs := by
  induction l with
  | nil => rfl
  | cons p l ih => simp only [flat, List.flatMap_cons, ih, pcs]; rfl
theorem rowP_own {w : World} {base g cap : Nat} {l : List (Int × Bool)} (h : Own w base g cap l) : ∃ cs, base ≤ g ∧ w.heap[g]? = some (.cells cs 28) ∧ RowG pcs 2 cs cap l := by
  rcases h.2 with ⟨h0, _⟩ | ⟨g', cap', cur, hv, hb, hg, hn, hm, hs, ht⟩
  · cases h0
  · injection hv with h1 h2 h3
    injection h1 with h1
    injection h1 with h1
    subst h1 h3
    refine ⟨cur, hb, hg, hs, hn, hm, fun j u hj => ?_⟩
    rw [← flat_pcs] at hj
    rw [← ht, List.getElem?_take] at hj
    split at hj
    · simpa using hj
    · cases hj
theorem ownP_none (w : World) : Own (w.alloc (.cells #[] 28)) w.heap.size w.heap.size 0 [] := ⟨rfl, .inr ⟨w.heap.size, 0, #[], rfl, Nat.le_refl _, heap_alloc_new w _, by simp, by simp [maxLen], rfl, rfl⟩⟩
def zP32 : Array Value := madeCells (Value.agg #[.int .u8 0, .bool false]).cells 64
theorem make_p32 (w : World) : (Instr.makeSlice 24 (.int .i64 32) (.int .i64 32)).run Try.prog w = .ok (.slice (some ⟨w.heap.size, 0, none⟩) 32 32) (w.alloc (.cells zP32 28)) := by kernel_rfl
def zP33 : Array Value := (splice zP32.toList 6 [.int .u8 255]).toArray
theorem zP33_6 : zP33[0 + 3 * 2]? = some (.int .u8 (w8 255#8)) := by kernel_rfl
theorem zP33_7 : zP33[0 + 3 * 2 + 1]? = some (.bool false) := by kernel_rfl
attribute [local irreducible] wpList
set_option maxHeartbeats 2000000 in
theorem awake16_ct  (w : World) : Calls Try.prog 18 #[] w fun e w' => e = .returned (.bool true) ∧ Below w.heap.size w w' := by
  have HM := Lib.hid make_p32
  have HZ := Lib.hid alloc_pb
  have Q1 := Lib.hid (show ∀ wr, Calls Try.prog 8 #[.int .u8 24, .int .i64 7] wr fun e w' => e = .returned (.tuple #[.bool false, .bool false]) ∧ Below wr.heap.size wr w' from fun wr => pshown_ct 24#8 7 wr)
  have Q2 := Lib.hid (show ∀ wr, Calls Try.prog 8 #[.int .u8 24, .int .i64 8] wr fun e w' => e = .returned (.tuple #[.bool true, .bool true]) ∧ Below wr.heap.size wr w' from fun wr => pshown_ct 24#8 8 wr)
  have Q3 := Lib.hid (show ∀ wr, Calls Try.prog 14 #[.int .u8 5, .int .u8 6, .bool false] wr fun e w' => e = .returned (.int .u8 22) ∧ Below wr.heap.size wr w' from fun wr => pover_ct 5#8 6#8 false wr)
  have Q4 := Lib.hid (show ∀ wr, Calls Try.prog 14 #[.int .u8 5, .int .u8 6, .bool true] wr fun e w' => e = .returned (.int .u8 5) ∧ Below wr.heap.size wr w' from fun wr => pover_ct 5#8 6#8 true wr)
  have Q5 := Lib.hid (show ∀ (R : Nat) (wr : World) (hR : R < wr.heap.size), wr.cell? ⟨R, 0 + 3 * 2, none⟩ = some (.int .u8 (w8 255#8)) → wr.cell? ⟨R, 0 + 3 * 2 + 1, none⟩ = some (.bool false) → Calls Try.prog 10 #[.slice (some ⟨R, 0, none⟩) 32 32, .int .u8 3, .int .u8 1, .bool false] wr fun e w' => e = .returned (.tuple #[.agg #[.int .u8 48, .bool false], .int .i64 0]) ∧ Below wr.heap.size wr w' from fun R wr hR h1 h2 => pcol_yes R 0 32 3 3#8 1#8 255#8 false false rfl (by decide) (by decide) (by simp [maxLen]) wr hR h1 h2)
  have C6 := Lib.hid zP33_6
  have C7 := Lib.hid zP33_7
  have H := Mem.start w
  have M1 : True := trivial
  have M2 : True := trivial
  go_enter Try.func18, Try.ntmps18
  go_wp2_with (first | (go_at_call 8; (with_reducible refine (Q1.out _).mono ?_); rintro e w2 ⟨rfl, hB⟩; replace H := H.next hB; clear hB) | (go_at_call 8; (with_reducible refine (Q2.out _).mono ?_); rintro e w2 ⟨rfl, hB⟩; replace H := H.next hB; clear hB) | (go_at_call 14; (with_reducible refine (Q3.out _).mono ?_); rintro e w2 ⟨rfl, hB⟩; replace H := H.next hB; clear hB) | (go_at_call 14; (with_reducible refine (Q4.out _).mono ?_); rintro e w2 ⟨rfl, hB⟩; replace H := H.next hB; clear hB) | (refine wpList_pmk rfl _ _ _ rfl H _ _ rfl rfl HM.out ?_; clear H; intro R w1 _ H) | (clear M1; refine gate_store _ _ _ rfl ?_; refine wpList_mstore rfl 5 _ _ rfl rfl _ _ rfl 0 H _ zP33 rfl (.int .u8 255) rfl (by kernel_rfl) (of_decide_eq_true (by kernel_rfl)) (by kernel_rfl) rfl ?_; clear H; intro w1 H; simp only [List.set_cons_zero, List.set_cons_succ] at H) | (go_at_call 10; (with_reducible refine (Q5.out _ _ (H.lt (List.mem_cons_self ..)) (H.cell (i := 0) rfl C6.out) (H.cell (i := 0) rfl C7.out)).mono ?_); rintro e w2 ⟨rfl, hB⟩; replace H := H.next hB; clear hB) | (clear M2; refine wpList_mnew rfl _ rfl H _ HZ.out ?_; clear H; intro Rv w1 _ H) | (refine gate_store _ _ _ rfl ?_; refine wpList_mstoreA rfl 28 _ _ rfl rfl _ rfl 0 H #[.int .u8 _, .bool _] _ rfl rfl (by kernel_rfl) (by kernel_rfl) (by kernel_rfl) ?_; clear H; intro w1 H; simp only [List.set_cons_zero, List.set_cons_succ] at H) | (refine gate_load _ _ rfl ?_; refine wpList_mloadA rfl 28 _ rfl _ rfl 0 H #[.int .u8 _, .bool _] rfl (by decide +kernel) (by kernel_rfl) ?_) | fail)
  go_ret
  exact ⟨rfl, H.toBelow⟩
end Go.Proofs.Ytkmmmnoipgdedaa
