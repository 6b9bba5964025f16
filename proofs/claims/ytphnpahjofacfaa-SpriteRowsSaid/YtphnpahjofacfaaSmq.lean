/-
  A map that is made, written and asked in a statement whose order is open; an element's place, a shift, a conversion, by their runs; the rows of a sprite as numbers. Over this seat's translation; numbers are of their kinds.
-/
import Derived.Test.YtphnpahjofacfaaSlg
import Derived.Test.YtphnpahjofacfaaSez
import Derived.WideMake
namespace Go.Proofs.Ytphnpahjofacfaa
open Go.RowKit Go.Sort
set_option linter.unusedSimpArgs false
set_option linter.unusedVariables false
set_option maxRecDepth 20000

theorem wantedS_of {ops : Array Oper} {o : Oper} {t : Array Value} {j d : Nat} {b : Bool} (hg : o.guard = some (j, b)) (oj : Oper) (hj : ops[j]? = some oj) (hd : oj.dst = some d) (hs : d < t.size) (hv : t.getD d undef = .bool b) : Region.wanted o (yielded ops t) = true := by
  have e : t[d]? = some (.bool b) := by
    rw [Array.getElem?_eq_getElem hs]
    simp [Array.getD, hs] at hv
    rw [hv]
  unfold Region.wanted yielded
  simp [hg, hj, hd, e]
theorem wantedF_of {ops : Array Oper} {o : Oper} {t : Array Value} {j d : Nat} {b c : Bool} (hg : o.guard = some (j, b)) (oj : Oper) (hj : ops[j]? = some oj) (hd : oj.dst = some d) (hs : d < t.size) (hv : t.getD d undef = .bool c) (hc : (c == b) = false) : Region.wanted o (yielded ops t) = false := by
  have e : t[d]? = some (.bool c) := by
    rw [Array.getElem?_eq_getElem hs]
    simp [Array.getD, hs] at hv
    rw [hv]
  unfold Region.wanted yielded
  cases b <;> cases c <;> simp_all
theorem orK {D : Nat → Bool} {j k : Nat} (h : (j == k) = false) : (D j || j == k) = D j := by rw [h, Bool.or_false]
def mapE : Array MapEntry := #[⟨.bool true, .int .u16 256, 0⟩]
theorem MTb : Try.prog.underlying 54 = some (.map 4 32) := by kernel_rfl
theorem KTb : Try.prog.underlying 4 = some .bool := by kernel_rfl
/-- What is known while a map is made: d27: it is made, d28: it is written. -/
structure MW0 (n : Nat) (X : List Nat) (w0 : World) (L : List (Nat × Array Value)) (s0 : Nat) (d27 d28 d29 : Bool) (w : World) : Prop where
  mem : Mem n X w0 w L
  h28 : d28 = true → d27 = true
  h29 : d29 = true → d28 = true
  sz : d27 = false → w.heap.size = s0
  at_ : d27 = true → w.heap[s0]? = some (cond d28 (.map mapE 1) (.map #[] 0))
theorem Mem.other {n : Nat} {X : List Nat} {w0 w : World} {L : List (Nat × Array Value)} {R : Nat} {es : Array MapEntry} {c : Nat} (h : Mem n X w0 w L) (hR : w.heap[R]? = some (.map es c)) (hn : n ≤ R) (o : Obj) : Mem n X w0 { w with heap := w.heap.setIfInBounds R o } L := by
  refine ⟨h.os, h.tape, h.output, by simpa using h.size, h.base, fun k hk hX => ?_, fun x hx => ?_, h.mine, h.nodup⟩
  · rw [← h.block k hk hX]
    simp only [Array.getElem?_setIfInBounds]
    rw [if_neg (by omega)]
  · obtain ⟨T, e⟩ := h.row x hx
    refine ⟨T, ?_⟩
    simp only [Array.getElem?_setIfInBounds]
    rw [if_neg (fun e2 => by rw [← e2, hR] at e; cases e)]
    exact e
section
variable {o : Oper} {a : Act} {w w0 : World} {Q : Exit → Act → World → Prop} {K : Act → World → Prop} {n : Nat} {X : List Nat} {L : List (Nat × Array Value)} {s0 : Nat}
theorem wp_mkmap (T : TypeId) (ho : o.op = .makeMap T none) {d28 d29 : Bool} (hW : MW0 n X w0 L s0 false d28 d29 w)
    (h : ∀ w1, MW0 n X w0 L s0 true d28 d29 w1 → K (a.put o.dst (.map (some s0))) w1) : o.wp Try.prog a w K Q := by
  have hs := hW.sz rfl
  have e28 : d28 = false := by
    cases h : d28
    · rfl
    · exact absurd (hW.h28 h) (by decide)
  unfold Oper.wp execOp
  have hr : (Instr.makeMap T none).run Try.prog w = .ok (.map (some w.heap.size)) (w.alloc (.map #[] 0)) := run_makeMap_plain w T
  simp only [ho, Option.map_none, Sem.run_bind, hr, Result.andThen_ok, Sem.run_pure]
  rw [hs]
  refine h _ ⟨hW.mem.next ((Below.refl _ _).alloc (Nat.le_refl _) _), fun _ => rfl, hW.h29, fun h => (by cases h), fun _ => ?_⟩
  rw [e28, ← hs]
  exact (MapKept.heap_alloc w _).1
theorem wp_insmap (m k x : Operand) (ho : o.op = .insert 54 m k x) (hdst : o.dst = none) (hm : a.eval m = .map (some s0)) (hk : a.eval k = .bool true) (hx : a.eval x = .int .u16 256) (hn : n ≤ s0) {d29 : Bool} (hW : MW0 n X w0 L s0 true false d29 w)
    (h : ∀ w1, MW0 n X w0 L s0 true true d29 w1 → K a w1) : o.wp Try.prog a w K Q := by
  have hb : w.heap[s0]? = some (.map #[] 0) := hW.at_ rfl
  unfold Oper.wp execOp
  have hc : (Instr.checkKey false 10000 4 (.bool true)).run Try.prog w = .ok () w := MapKept.run_checkKey (k := .bool true) KTb (by simp [MapKept.IsKey]) false 9999
  have hf : Instr.findNow .bool (.bool true) (#[] : Array MapEntry).toList 0 = some none := by kernel_rfl
  have hr : (Instr.mapUpdate 54 (.map (some s0)) (.bool true) (.int .u16 256)).run Try.prog w = .ok () { w with heap := w.heap.setIfInBounds s0 (.map mapE 1) } := by
    simp [Instr.mapUpdate, run_underlying MTb, MapKept.run_getObj_map hb, hc, MapKept.run_findKey KTb hf, MapKept.run_setObj_map _ hb, Result.andThen, mapE]
  simp only [ho, hm, hk, hx, Sem.run_bind, hr, Result.andThen_ok, Sem.run_pure]
  show K (a.put o.dst undef) _
  rw [hdst]
  have hs := MapKept.heap_set (o' := .map mapE 1) hb
  exact h _ ⟨hW.mem.other hb hn _, fun _ => rfl, fun _ => rfl, fun h => (by cases h), fun _ => hs.1⟩
theorem ex_lkmap (m x : Operand) (ho : o.op = .lookup 54 m x false) (hm : a.eval m = .map (some s0)) (b : Bool) (hx : a.eval x = .bool b) {d29 : Bool} (hW : MW0 n X w0 L s0 true true d29 w) : (execOp a.eval o).run Try.prog w = .ok (.value (.int .u16 (if b = true then 256 else 0))) w := by
  have hb : w.heap[s0]? = some (.map mapE 1) := hW.at_ rfl
  have hc : (Instr.checkKey mapE.isEmpty 10000 4 (.bool b)).run Try.prog w = .ok () w := MapKept.run_checkKey (k := .bool b) KTb (by simp [MapKept.IsKey]) _ 9999
  cases b
  · have hf : Instr.findNow .bool (.bool false) mapE.toList 0 = some none := by kernel_rfl
    have hz : (zeroValue 32).run Try.prog w = .ok (.int .u16 0) w := by kernel_rfl
    unfold execOp
    simp [ho, hm, hx, Instr.lookup, run_underlying MTb, MapKept.run_getObj_map hb, hc, MapKept.run_findKey KTb hf, Result.andThen, hz]
  · have hf : Instr.findNow .bool (.bool true) mapE.toList 0 = some (some (0, .int .u16 256)) := by kernel_rfl
    unfold execOp
    simp [ho, hm, hx, Instr.lookup, run_underlying MTb, MapKept.run_getObj_map hb, hc, MapKept.run_findKey KTb hf, Result.andThen]
theorem ex_ixS (T : TypeId) (x y : Operand) (ho : o.op = .indexAddr 22 x y) (g cap j : Nat) (hx : a.eval x = .slice (some ⟨g, 0, none⟩) 256 cap) (hy : a.eval y = .int .i64 (j : Int)) (hj : j < 256) : (execOp a.eval o).run Try.prog w = .ok (.value (.pointer (some ⟨g, j * 2, none⟩))) w := by
  unfold execOp
  simp only [ho, hx, hy]
  go_simp
  intro h
  omega
theorem ex_shrS (x y : Operand) (T2 : TypeId) (ho : o.op = .binOp .shr 32 x y T2) (A : Int) (hx : a.eval x = .int .u16 A) (hy : a.eval y = .int .u64 4) : (execOp a.eval o).run Try.prog w = .ok (.value (.int .u16 (A / 16))) w := by
  unfold execOp
  simp only [ho, hx, hy]
  go_simp
theorem ex_cvS (x : Operand) (ho : o.op = .convert 5 32 x) (A : Int) (h0 : 0 ≤ A) (h1 : A < 256) (hx : a.eval x = .int .u8 A) : (execOp a.eval o).run Try.prog w = .ok (.value (.int .u16 A)) w := by
  unfold execOp
  simp only [ho, hx]
  go_simp
  exact wrap16 h0 (by omega)
theorem ex_mulS (x y : Operand) (T2 : TypeId) (ho : o.op = .binOp .mul 3 x y T2) (i : Nat) (hx : a.eval x = .int .i64 4) (hy : a.eval y = .int .i64 (i : Int)) (hi : i < 64) : (execOp a.eval o).run Try.prog w = .ok (.value (.int .i64 ((4 * i : Nat) : Int))) w := by
  unfold execOp
  simp only [ho, hx, hy]
  go_simp
  rw [IntKind.wrap_i64]
  omega
theorem ex_addS (x y : Operand) (T2 : TypeId) (ho : o.op = .binOp .add 3 x y T2) (i : Nat) (hx : a.eval x = .int .i64 ((4 * i : Nat) : Int)) (hy : a.eval y = .int .i64 1) (hi : i < 64) : (execOp a.eval o).run Try.prog w = .ok (.value (.int .i64 ((4 * i + 1 : Nat) : Int))) w := by
  unfold execOp
  simp only [ho, hx, hy]
  go_simp
  rw [IntKind.wrap_i64]
  omega
end
theorem MW0.keep {n : Nat} {X : List Nat} {w0 w : World} {L : List (Nat × Array Value)} {s0 : Nat} {D : Nat → Bool} (h : MW0 n X w0 L s0 (D 27) (D 28) (D 29) w) (k : Nat) (h1 : (27 == k) = false) (h2 : (28 == k) = false) (h3 : (29 == k) = false) : MW0 n X w0 L s0 (D 27 || 27 == k) (D 28 || 28 == k) (D 29 || 29 == k) w := by
  rw [orK h1, orK h2, orK h3]
  exact h
/-- The address of a sprite's row. -/
def adrR (t row : Int) (tl tb : Bool) : Int := if tl = true then t % 2 * 4096 + 16 * (t - t % 2) + (if row < 8 then row else row + 8) else (if tb = true then 4096 else 0) + 16 * t + row
theorem adrR_low (y t k row : Int) (tl tb : Bool) (k1 : k < 128) (r0 : 0 ≤ row) (r1 : row < highS tl) : adrS (y + row) y t k tl tb = adrR t row tl tb := by
  have h : rwS (y + row) y k tl = row := by
    unfold rwS
    rw [if_pos k1]
    cases tl
    · simp only [highS, cond_false] at r1 ⊢; omega
    · simp only [highS, cond_true] at r1 ⊢; omega
  unfold adrS adrR
  rw [h]
theorem adrR_high (y t k row : Int) (tl tb : Bool) (k1 : 128 ≤ k) (r0 : 0 ≤ row) (r1 : row < highS tl) : adrS (y + highS tl - 1 - row) y t k tl tb = adrR t row tl tb := by
  have h : rwS (y + highS tl - 1 - row) y k tl = row := by
    unfold rwS
    rw [if_neg (by omega)]
    cases tl
    · simp only [highS, cond_false] at r1 ⊢; omega
    · simp only [highS, cond_true] at r1 ⊢; omega
  unfold adrS adrR
  rw [h]
theorem adrR_lt (t row : Int) (tl tb : Bool) (t0 : 0 ≤ t) (t1 : t < 256) (r0 : 0 ≤ row) (r1 : row < highS tl) : 0 ≤ adrR t row tl tb ∧ adrR t row tl tb ≤ 8191 := by
  unfold adrR
  cases tl
  · simp only [highS, cond_false] at r1
    simp only [Bool.false_eq_true, if_false]
    split <;> omega
  · simp only [highS, cond_true] at r1
    simp only [if_true]
    split <;> omega
theorem adrR_7 (t row : Int) (tl tb : Bool) (t0 : 0 ≤ t) (t1 : t < 256) (r0 : 0 ≤ row) (r1 : row < highS tl) : bits .and .u16 (adrR t row tl tb) 7 = row % 8 := by
  have h := adrR_lt t row tl tb t0 t1 r0 r1
  rw [low16 _ 7 3 8 (by decide) (by decide) h.1 (by omega)]
  unfold adrR
  cases tl
  · simp only [Bool.false_eq_true, if_false]
    split <;> omega
  · simp only [if_true]
    split <;> omega
theorem adrR_tall (t row : Int) (tb : Bool) (t0 : 0 ≤ t) (t1 : t < 256) (r0 : 0 ≤ row) (r1 : row < 16) : (decide (bits .and .u16 (adrR t row true tb / 16) 1 = 1) != decide (7 < row)) = false := by
  have h := adrR_lt t row true tb t0 t1 r0 r1
  rw [low16 _ 1 1 2 (by decide) (by decide) (by omega) (by omega)]
  unfold adrR
  simp only [if_true]
  by_cases h8 : row < 8
  · rw [if_pos h8, decide_eq_false (show ¬ 7 < row by omega), decide_eq_false (by omega)]
    rfl
  · rw [if_neg h8, decide_eq_true (show 7 < row by omega), decide_eq_true (by omega)]
    rfl
theorem adrR_short (t row : Int) (tb : Bool) (t0 : 0 ≤ t) (t1 : t < 256) (r0 : 0 ≤ row) (r1 : row < 8) : (adrR t row false tb / 16 != bits .or .u16 t (if tb = true then 256 else 0)) = false := by
  have e : ∀ v : Fin 256, bits .or .u16 (v.val : Int) 256 = (v.val : Int) + 256 ∧ bits .or .u16 (v.val : Int) 0 = (v.val : Int) := by decide +kernel
  have et : bits .or .u16 t (if tb = true then 256 else 0) = t + (if tb = true then 256 else 0) := by
    obtain ⟨n, rfl⟩ := Int.eq_ofNat_of_zero_le t0
    have := e ⟨n, by omega⟩
    cases tb
    · simp only [Bool.false_eq_true, if_false, Int.add_zero]; exact this.2
    · simp only [if_true]; exact this.1
  rw [et]
  unfold adrR
  cases tb
  · simp only [Bool.false_eq_true, if_false]
    simp
    omega
  · simp only [Bool.false_eq_true, if_false, if_true]
    simp
    omega
theorem k127 (k : BitVec 8) : bits .and .u8 (w8 k) 127 = w8 (k &&& 127#8) ∧ bits .or .u8 (w8 (k &&& 127#8)) 128 = w8 (k &&& 127#8 ||| 128#8) ∧ w8 (k &&& 127#8) < 128 ∧ 128 ≤ w8 (k &&& 127#8 ||| 128#8) ∧ (k &&& 127#8 ||| 128#8) &&& 127#8 = k &&& 127#8 := by
  have h : ∀ k : BitVec 8, bits .and .u8 (w8 k) 127 = w8 (k &&& 127#8) ∧ bits .or .u8 (w8 (k &&& 127#8)) 128 = w8 (k &&& 127#8 ||| 128#8) ∧ w8 (k &&& 127#8) < 128 ∧ 128 ≤ w8 (k &&& 127#8 ||| 128#8) ∧ (k &&& 127#8 ||| 128#8) &&& 127#8 = k &&& 127#8 := by decide +kernel
  exact h k
end Go.Proofs.Ytphnpahjofacfaa
