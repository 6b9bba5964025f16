/-
  The document's Parse of a policy's text. Over this seat's translation; of texts of at most 4096 octets.
-/
import Derived.Test.YtfceifmhlmiiiaaGreatDoorRli
import Derived.LoopN
import Derived.Great.Walk
import Derived.Deep.CutBlock
namespace Go.Proofs.YtfceifmhlmiiiaaGreatDoor
open Go.RowKit
set_option linter.unusedSimpArgs false
set_option linter.unusedVariables false
set_option maxRecDepth 20000

/-- What comes of a line. -/
structure NB where
  p : Bool
  o : Bool
  v3 : Value
  v6 : Value
  ra : List (Int × Int)
  sa : List (Int × Int)
  q : Nat
def polN (b : NB) : Array Value := #[.bool b.p, .bool b.o, b.v3, b.v6]
def NF (p q : Bool) (ra sa : List (Int × Int)) (l : List UInt8) (b : NB) : Prop := isBad l = false → b.p = (p || anyP1 [l]) ∧ b.o = (q || anyP2 [l]) ∧ b.ra = ra ++ rams [l] ∧ b.sa = sa ++ saves [l]
structure NW (wS : World) (F : NB → Prop) (D : Nat → Bool) (b : NB) (w : World) : Prop where
  below : Below wS.heap.size wS w
  hB : wS.heap.size ≤ w.heap.size
  o10 : D 10 = true → D 9 = true ∧ D 5 = true
  oq : D 6 = true ∨ D 7 = true → D 5 = true
  f5 : D 5 = true → Rg w b.v3 b.ra ∧ Rg w b.v6 b.sa ∧ F b
  f9 : D 9 = true → wS.heap.size ≤ b.q ∧ (D 10 = false → w.heap[b.q]? = some (.cells polZ 25 (0, 0))) ∧ (D 10 = true → ∃ T, w.heap[b.q]? = some (.cells (polN b) T (0, 0)))
section
variable {wS w w2 : World} {F : NB → Prop} {D : Nat → Bool} {b : NB}
theorem NW.next (h : NW wS F D b w) (hb : Below w.heap.size w w2) : NW wS F D b w2 := by
  obtain ⟨below, hB, o10, oq, f5, f9⟩ := h
  refine ⟨below.trans (hb.mono hB), Nat.le_trans hB hb.size, o10, oq, fun x => ⟨(f5 x).1.below hb, (f5 x).2.1.below hb, (f5 x).2.2⟩, fun x => ?_⟩
  obtain ⟨q0, q1, q2⟩ := f9 x
  refine ⟨q0, fun y => ?_, fun y => ?_⟩
  · have := q1 y
    rw [hb.block _ (Array.getElem?_eq_some_iff.1 this).1]; exact this
  · obtain ⟨T, this⟩ := q2 y
    exact ⟨T, by rw [hb.block _ (Array.getElem?_eq_some_iff.1 this).1]; exact this⟩
theorem NW.start (w : World) (b : NB) : NW w F (fun _ => false) b { w with drawn := w.drawn + 1 } := by
  refine ⟨(Below.refl _ w).drew, Nat.le_refl _, ?_, ?_, ?_, ?_⟩ <;> intro x <;> simp at x
theorem NW.keep (h : NW wS F D b w) {k : Nat} (hk : [5, 6, 7, 9, 10].contains k = false) : NW wS F (fun j => D j || j == k) b w := by
  have e : ∀ s, [5, 6, 7, 9, 10].contains s = true → (D s || s == k) = D s := fun s hs => by
    have : s ≠ k := fun e => by subst e; rw [hs] at hk; cases hk
    simp [this]
  obtain ⟨below, hB, o10, oq, f5, f9⟩ := h
  constructor
  all_goals
    try simp only [e 5 (by decide), e 6 (by decide), e 7 (by decide), e 9 (by decide), e 10 (by decide)]
    assumption
theorem NW.keep5 (h : NW wS F D b w) {k : Nat} (hk : k = 6 ∨ k = 7) (h5 : D 5 = true) : NW wS F (fun j => D j || j == k) b w := by
  obtain ⟨below, hB, o10, oq, f5, f9⟩ := h
  rcases hk with rfl | rfl
  · exact ⟨below, hB, by simpa using o10, by simp [h5], by simpa using f5, by simpa using f9⟩
  · exact ⟨below, hB, by simpa using o10, by simp [h5], by simpa using f5, by simpa using f9⟩
theorem NW.op5 (h0 : NW wS F D b w) (hb : Below w.heap.size w w2) (h5 : D 5 = false) {p o : Bool} {v3 v6 : Value} {ra sa : List (Int × Int)} (hz : Rg w2 v3 ra ∧ Rg w2 v6 sa ∧ F { b with p := p, o := o, v3 := v3, v6 := v6, ra := ra, sa := sa }) : NW wS F (fun j => D j || j == 5) { b with p := p, o := o, v3 := v3, v6 := v6, ra := ra, sa := sa } w2 := by
  obtain ⟨below, hB, o10, oq, f5, f9⟩ := h0.next hb
  have n10 : D 10 = false := Bool.eq_false_iff.2 fun x => by rw [(o10 x).2] at h5; cases h5
  refine ⟨below, hB, by simp [n10], by simp, fun _ => hz, fun x => ?_⟩
  obtain ⟨q0, q1, _⟩ := f9 (by simpa using x)
  exact ⟨q0, fun _ => q1 n10, fun y => by simp [n10] at y⟩
theorem NW.op9 (h0 : NW wS F D b w) (hF : ∀ q, F { b with q := q } ↔ F b) (hb : Below w.heap.size w w2) (h9 : D 9 = false) {q : Nat} (hq : wS.heap.size ≤ q) (hz : w2.heap[q]? = some (.cells polZ 25 (0, 0))) : NW wS F (fun j => D j || j == 9) { b with q := q } w2 := by
  obtain ⟨below, hB, o10, oq, f5, f9⟩ := h0.next hb
  have n10 : D 10 = false := Bool.eq_false_iff.2 fun x => by rw [(o10 x).1] at h9; cases h9
  exact ⟨below, hB, by simp [n10], by simpa using oq, fun x => ⟨(f5 (by simpa using x)).1, (f5 (by simpa using x)).2.1, (hF q).2 (f5 (by simpa using x)).2.2⟩, fun _ => ⟨hq, fun _ => hz, fun y => by simp [n10] at y⟩⟩
theorem NW.op10 (h0 : NW wS F D b w) (h5 : D 5 = true) (h9 : D 9 = true) (h10 : D 10 = false) (hM : Mem w.heap.size [b.q] w w2 [(b.q, polN b)]) : NW wS F (fun j => D j || j == 10) b w2 := by
  obtain ⟨below, hB, o10, oq, f5, f9⟩ := h0
  obtain ⟨q0, q1, _⟩ := f9 h9
  have c := q1 h10
  have hg : w.grownBy w2 (some b.q) := ⟨hM.os, hM.tape, hM.output, hM.size, fun k hk hn => hM.block k hk (by simpa using fun e => hn (by rw [e]))⟩
  have hno : NoInts polZ := noInts4 _ _ _ _ _ _ _ _
  exact ⟨below.grown hg hB (fun k e => by injection e with e; omega), Nat.le_trans hB hg.size, by simp [h5, h9], by simp [h5], fun _ => ⟨rg_grown (f5 h5).1 hg (rg_off (f5 h5).1 c hno), rg_grown (f5 h5).2.1 hg (rg_off (f5 h5).2.1 c hno), (f5 h5).2.2⟩, fun _ => ⟨q0, by simp, fun _ => hM.row (b.q, polN b) (by simp)⟩⟩
end
/-- What the two last calls give. -/
structure TB2 where
  a : Value
  c : Value
  TA : List (Int × Int)
  TB : List (Int × Int)
structure TW (n : Nat) (w0 wS : World) (L : List (Nat × Array Value)) (L1 L2 : TB2 → List (Nat × Array Value)) (la lb : List (Int × Int)) (D : Nat → Bool) (b : TB2) (w : World) : Prop where
  core : D 7 = false → Below wS.heap.size wS w ∧ wS.heap.size ≤ w.heap.size
  mid : D 7 = true → D 9 = false → Mem n [] w0 w (L1 b)
  done : D 9 = true → Mem n [] w0 w (L2 b)
  oall : D 7 = true → D 0 = true ∧ D 1 = true ∧ D 2 = true ∧ D 3 = true ∧ D 4 = true ∧ D 5 = true
  o9 : D 9 = true → D 7 = true
  f2 : D 2 = true → Rg w b.a b.TA ∧ Tidied la b.TA
  f5 : D 5 = true → Rg w b.c b.TB ∧ Tidied lb b.TB
section
variable {n : Nat} {w0 wS w w2 : World} {L : List (Nat × Array Value)} {L1 L2 : TB2 → List (Nat × Array Value)} {la lb : List (Int × Int)} {D : Nat → Bool} {b : TB2}
theorem TW.start (w : World) (b : TB2) : TW n w0 w L L1 L2 la lb (fun _ => false) b { w with drawn := w.drawn + 1 } := by
  refine ⟨fun _ => ⟨(Below.refl _ w).drew, Nat.le_refl _⟩, ?_, ?_, ?_, ?_, ?_, ?_⟩ <;> intro x <;> cases x
theorem TW.keep (h : TW n w0 wS L L1 L2 la lb D b w) {k : Nat} (hk : [2, 5, 7, 9].contains k = false) : TW n w0 wS L L1 L2 la lb (fun j => D j || j == k) b w := by
  have e : ∀ s, [2, 5, 7, 9].contains s = true → (D s || s == k) = D s := fun s hs => by
    have : s ≠ k := fun e => by subst e; rw [hs] at hk; cases hk
    simp [this]
  obtain ⟨core, mid, done, oall, o9, f2, f5⟩ := h
  constructor
  case oall =>
    intro h
    have := oall (by rw [← e 7 (by decide)]; exact h)
    simp [this]
  all_goals
    try simp only [e 2 (by decide), e 5 (by decide), e 7 (by decide), e 9 (by decide)]
    assumption
theorem TW.n7 (h : TW n w0 wS L L1 L2 la lb D b w) {k : Nat} (hk : D k = false) (hm : k = 0 ∨ k = 1 ∨ k = 2 ∨ k = 3 ∨ k = 4 ∨ k = 5 ∨ k = 7) : D 7 = false := Bool.eq_false_iff.2 fun x => by
  have := h.oall x
  rcases hm with rfl | rfl | rfl | rfl | rfl | rfl | rfl <;> simp_all
theorem TW.op2 (h0 : TW n w0 wS L L1 L2 la lb D b w) (h7 : D 7 = false) (hb : Below w.heap.size w w2) {v : Value} {T : List (Int × Int)} (hz : Rg w2 v T ∧ Tidied la T) : TW n w0 wS L L1 L2 la lb (fun j => D j || j == 2) { b with a := v, TA := T } w2 := by
  obtain ⟨core, mid, done, oall, o9, f2, f5⟩ := h0
  have n9 : D 9 = false := Bool.eq_false_iff.2 fun x => by rw [o9 x] at h7; cases h7
  exact ⟨fun _ => ⟨(core h7).1.trans (hb.mono (core h7).2), Nat.le_trans (core h7).2 hb.size⟩, by simp [h7], by simp [n9], by simp [h7], by simpa using o9, fun _ => hz, fun x => ⟨(f5 (by simpa using x)).1.below hb, (f5 (by simpa using x)).2⟩⟩
theorem TW.op5 (h0 : TW n w0 wS L L1 L2 la lb D b w) (h7 : D 7 = false) (hb : Below w.heap.size w w2) {v : Value} {T : List (Int × Int)} (hz : Rg w2 v T ∧ Tidied lb T) : TW n w0 wS L L1 L2 la lb (fun j => D j || j == 5) { b with c := v, TB := T } w2 := by
  obtain ⟨core, mid, done, oall, o9, f2, f5⟩ := h0
  have n9 : D 9 = false := Bool.eq_false_iff.2 fun x => by rw [o9 x] at h7; cases h7
  exact ⟨fun _ => ⟨(core h7).1.trans (hb.mono (core h7).2), Nat.le_trans (core h7).2 hb.size⟩, by simp [h7], by simp [n9], by simp [h7], by simpa using o9, fun x => ⟨(f2 (by simpa using x)).1.below hb, (f2 (by simpa using x)).2⟩, fun _ => hz⟩
theorem TW.op7 (h0 : TW n w0 wS L L1 L2 la lb D b w) (hall : D 0 = true ∧ D 1 = true ∧ D 2 = true ∧ D 3 = true ∧ D 4 = true ∧ D 5 = true) (h7 : D 7 = false) (H : Mem n [] w0 w L) {i R : Nat} {cs cs' : Array Value} (hi : L[i]? = some (R, cs)) (hn : NoInts cs) (hM : Mem w.heap.size [R] w w2 [(R, cs')]) (hL : L1 b = L.set i (R, cs')) : TW n w0 wS L L1 L2 la lb (fun j => D j || j == 7) b w2 := by
  obtain ⟨core, mid, done, oall, o9, f2, f5⟩ := h0
  have n9 : D 9 = false := Bool.eq_false_iff.2 fun x => by rw [o9 x] at h7; cases h7
  obtain ⟨T, hT⟩ := H.get hi
  have hg : w.grownBy w2 (some R) := ⟨hM.os, hM.tape, hM.output, hM.size, fun k hk hn => hM.block k hk (by simpa using fun e => hn (by rw [e]))⟩
  obtain ⟨a2, t2⟩ := f2 hall.2.2.1
  obtain ⟨a5, t5⟩ := f5 hall.2.2.2.2.2
  exact ⟨by simp, fun _ _ => by rw [hL]; exact H.call hi hM, by simp [n9], by simp [hall], by simp, fun _ => ⟨rg_grown a2 hg (rg_off a2 hT hn), t2⟩, fun _ => ⟨rg_grown a5 hg (rg_off a5 hT hn), t5⟩⟩
theorem TW.op9 (h0 : TW n w0 wS L L1 L2 la lb D b w) (h7 : D 7 = true) (h9 : D 9 = false) {i R : Nat} {cs cs' : Array Value} (hi : (L1 b)[i]? = some (R, cs)) (hn : NoInts cs) (hM : Mem w.heap.size [R] w w2 [(R, cs')]) (hL : L2 b = (L1 b).set i (R, cs')) : TW n w0 wS L L1 L2 la lb (fun j => D j || j == 9) b w2 := by
  obtain ⟨core, mid, done, oall, o9, f2, f5⟩ := h0
  have hall := oall h7
  have H := mid h7 h9
  obtain ⟨T, hT⟩ := H.get hi
  have hg : w.grownBy w2 (some R) := ⟨hM.os, hM.tape, hM.output, hM.size, fun k hk hn => hM.block k hk (by simpa using fun e => hn (by rw [e]))⟩
  obtain ⟨a2, t2⟩ := f2 hall.2.2.1
  obtain ⟨a5, t5⟩ := f5 hall.2.2.2.2.2
  exact ⟨by simp [h7], by simp, fun _ => by rw [hL]; exact H.call hi hM, by simpa using oall, by simp [h7], fun _ => ⟨rg_grown a2 hg (rg_off a2 hT hn), t2⟩, fun _ => ⟨rg_grown a5 hg (rg_off a5 hT hn), t5⟩⟩
end
theorem seg_next {L : List UInt8} {f k : Nat} (hf : f ≤ k) (hk : k < L.length) : (L.take (k + 1)).drop f = (L.take k).drop f ++ [L[k]] := by
  rw [List.take_add_one, List.getElem?_eq_getElem hk, List.drop_append_of_le_length (by rw [List.length_take]; omega)]
  rfl
theorem seg_line {L : List UInt8} {f k : Nat} (hf : f ≤ k) (hk : k < L.length) (h10 : L[k] = 10) (hc : 10 ∉ (L.take k).drop f) : linesOf (L.drop f) = (L.take k).drop f :: linesOf (L.drop (k + 1)) := by
  have e : L.drop f = (L.take k).drop f ++ 10 :: L.drop (k + 1) := by
    have h1 : L = L.take k ++ L[k] :: L.drop (k + 1) := by rw [List.getElem_cons_drop, List.take_append_drop]
    conv => lhs; rw [h1]
    rw [List.drop_append_of_le_length (by rw [List.length_take]; omega), h10]
  rw [e, linesOf_first _ _ hc]
theorem seg_last {L : List UInt8} {f k : Nat} (hk : k = L.length) (hc : 10 ∉ (L.take k).drop f) : linesOf (L.drop f) = [(L.take k).drop f] := by
  subst hk
  rw [List.take_length] at *
  exact linesOf_none _ hc
/-- Up to octet k: done are the lines that have been read, the next one begins at f. -/
structure PI (L : List UInt8) (done : List (List UInt8)) (f k : Nat) : Prop where
  lines : linesOf L = done ++ (if k ≤ L.length then linesOf (L.drop f) else [])
  fk : k ≤ L.length → f ≤ k
  clean : k ≤ L.length → 10 ∉ (L.take k).drop f
  good : noBad done = true
theorem PI.start (L : List UInt8) : PI L [] 0 0 := ⟨by simp, fun _ => Nat.le_refl _, fun _ => by simp, rfl⟩
theorem PI.on {L : List UInt8} {done : List (List UInt8)} {f k : Nat} (h : PI L done f k) (hk : k < L.length) (hne : L[k] ≠ 10) : PI L done f (k + 1) := by
  have h1 := h.lines
  rw [if_pos (by omega)] at h1
  refine ⟨by rw [if_pos (by omega)]; exact h1, fun _ => by have := h.fk (by omega); omega, fun _ => ?_, h.good⟩
  rw [seg_next (h.fk (by omega)) hk]
  simp only [List.mem_append, List.mem_singleton, not_or]
  exact ⟨h.clean (by omega), fun e => hne e.symm⟩
theorem PI.seg {L : List UInt8} {done : List (List UInt8)} {f k : Nat} (h : PI L done f k) (hk : k ≤ L.length) (he : k = L.length ∨ ∃ h : k < L.length, L[k] = 10) : ∃ rest, linesOf L = done ++ (L.take k).drop f :: rest ∧ rest = (if k + 1 ≤ L.length then linesOf (L.drop (k + 1)) else []) := by
  have h1 := h.lines
  rw [if_pos hk] at h1
  refine ⟨_, ?_, rfl⟩
  rcases he with e | ⟨hl, e⟩
  · rw [if_neg (by omega), h1, seg_last e (h.clean hk)]
  · rw [if_pos (by omega), h1, seg_line (h.fk hk) hl e (h.clean hk)]
theorem PI.step {L : List UInt8} {done : List (List UInt8)} {f k : Nat} (h : PI L done f k) (hk : k ≤ L.length) (he : k = L.length ∨ ∃ h : k < L.length, L[k] = 10) (hb : isBad ((L.take k).drop f) = false) : PI L (done ++ [(L.take k).drop f]) (k + 1) (k + 1) := by
  obtain ⟨rest, h1, h2⟩ := h.seg hk he
  refine ⟨by rw [h1, h2, List.append_assoc]; rfl, fun _ => Nat.le_refl _, fun _ => ?_, ?_⟩
  · rw [List.drop_of_length_le (by rw [List.length_take]; omega)]; simp
  · rw [noBad_append, h.good]
    simp [noBad, hb]
theorem PI.bad {L : List UInt8} {done : List (List UInt8)} {f k : Nat} (h : PI L done f k) (hk : k ≤ L.length) (he : k = L.length ∨ ∃ h : k < L.length, L[k] = 10) (hb : isBad ((L.take k).drop f) = true) : done.length < (linesOf L).length ∧ noBad ((linesOf L).take done.length) = true ∧ isBad ((linesOf L).getD done.length []) = true := by
  obtain ⟨rest, h1, _⟩ := h.seg hk he
  rw [h1]
  refine ⟨by simp, ?_, ?_⟩
  · rw [List.take_left]; exact h.good
  · have : (done ++ (L.take k).drop f :: rest).getD done.length [] = (L.take k).drop f := by simp
    rw [this]; exact hb
theorem PI.len {L : List UInt8} {done : List (List UInt8)} {f k : Nat} (h : PI L done f k) : done.length ≤ L.length + 1 := by
  have h1 := h.lines
  have h2 := linesOf_len L
  rw [h1, List.length_append] at h2
  omega
theorem PI.all {L : List UInt8} {done : List (List UInt8)} {f k : Nat} (h : PI L done f k) (hk : L.length < k) : linesOf L = done := by
  have h1 := h.lines
  rw [if_neg (by omega), List.append_nil] at h1
  exact h1
def RPP (ls : List (List UInt8)) (w : World) (e : Ending) (w' : World) : Prop :=
  (∃ k, k < ls.length ∧ noBad (ls.take k) = true ∧ isBad (ls.getD k []) = true ∧ e = .returned (.tuple #[.agg #[.bool false, .bool false, .slice none 0 0, .slice none 0 0], .int .i64 ((k + 1 : Nat) : Int), .int .i64 7]) ∧ Below w.heap.size w w') ∨
  (noBad ls = true ∧ ∃ sv tv ra sa, e = .returned (.tuple #[polV (anyP1 ls) (anyP2 ls) sv tv, .int .i64 0, .int .i64 0]) ∧ Rg w' sv ra ∧ Rg w' tv sa ∧ Tidied (rams ls) ra ∧ Tidied (saves ls) sa ∧ Below w.heap.size w w')
section
variable {P : Program} {n : Nat} {X : List Nat} {w0 w : World} {l : List (Nat × Array Value)} {a : Act}
/-- What comes back is a struct that lies in a block, and two more results. -/
theorem ret_mem3 {fn : Func} {Rr : Ending → World → Prop} {p q r : Tmp} {ty : TypeId} (hf : fn.results = #[.cell p ty, .tmp q, .tmp r]) (R : Nat) (hp : a.tmps.getD p undef = .pointer (some ⟨R, 0, none⟩)) (i : Nat) (H : Mem n X w0 w l) (cs : Array Value) (hi : l[i]? = some (R, cs))
    (hu : (P.underlying ty).map aggB = some true) (hz : (P.info? ty).map (·.size) = some cs.size) (hd : a.defers = []) (v u : Value) (hq : a.tmps.getD q undef = v) (hr : a.tmps.getD r undef = u) (h : Rr (.returned (.tuple #[.agg cs, v, u])) w) : bodyPost P fn Rr .ret a w := by
  obtain ⟨t, hg⟩ := H.get hi
  refine bodyPost_ret ?_ hd h
  have hl := run_loadVar_part (P := P) w R 0 t ty cs cs hg hu hz (fun j v hj => by rw [Nat.zero_add]; exact hj)
  have hp' : a.tmps[p]?.getD undef = .pointer (some ⟨R, 0, none⟩) := by simpa using hp
  have hq' : a.tmps[q]?.getD undef = v := by simpa using hq
  have hr' : a.tmps[r]?.getD undef = u := by simpa using hr
  simp [results, hf, hp', hq', hr', asAddr, hl]
end
set_option maxHeartbeats 1000000 in
theorem rparse_large (s : ByteArray) (w : World) (hs : 4096 < s.size) : Calls Tryz.prog 5 #[.string s] w fun e w' => e = .returned (.tuple #[.agg #[.bool false, .bool false, .slice none 0 0, .slice none 0 0], .int .i64 0, .int .i64 9]) ∧ Below w.heap.size w w' := by
  have HZ := Lib.hid alloc_pol
  have H := Mem.start w
  have d : decide (4096 < (s.size : Int)) = true := by simp; omega
  go_enter Tryz.func5, Tryz.ntmps5
  go_wp2_with (first
    | go_skip | (refine wpList_mboxA rfl _ _ rfl H _ rfl ?_; clear H; intro _ w1 _ H) | (refine gate_load _ _ rfl ?_; first | (refine wpList_mloadA rfl _ _ rfl _ rfl 0 H _ rfl (by decide +kernel) (by kernel_rfl) ?_) | (refine wpList_mload1 rfl _ _ rfl _ _ rfl 0 H _ (.int _ _) rfl rfl (by decide +kernel) ?_) | (refine wpList_mload1 rfl _ _ rfl _ _ rfl 0 H _ (.bool _) rfl rfl (by decide +kernel) ?_) | (refine wpList_mload1 rfl _ _ rfl _ _ rfl 0 H _ (.pointer _) rfl rfl (by decide +kernel) ?_) | (refine wpList_mload1 rfl _ _ rfl _ _ rfl 0 H _ (.string _) rfl rfl (by decide +kernel) ?_) | (refine wpList_mload1 rfl _ _ rfl _ _ rfl 0 H _ (.slice _ _ _) rfl rfl (by decide +kernel) ?_)) | (refine gate_store _ _ _ rfl ?_; (first | (refine wpList_mstoreA rfl _ _ _ rfl rfl _ rfl 0 H _ _ rfl rfl (by kernel_rfl) (by kernel_rfl) (by kernel_rfl) ?_) | (refine wpList_mstore rfl _ _ _ rfl rfl _ _ rfl 0 H _ _ rfl (.int _ _) rfl (by kernel_rfl) (of_decide_eq_true (by kernel_rfl)) (by kernel_rfl) rfl ?_) | (refine wpList_mstore rfl _ _ _ rfl rfl _ _ rfl 0 H _ _ rfl (.bool _) rfl (by kernel_rfl) (of_decide_eq_true (by kernel_rfl)) (by kernel_rfl) rfl ?_) | (refine wpList_mstore rfl _ _ _ rfl rfl _ _ rfl 0 H _ _ rfl (.pointer _) rfl (by kernel_rfl) (of_decide_eq_true (by kernel_rfl)) (by kernel_rfl) rfl ?_) | (refine wpList_mstore rfl _ _ _ rfl rfl _ _ rfl 0 H _ _ rfl (.string _) rfl (by kernel_rfl) (of_decide_eq_true (by kernel_rfl)) (by kernel_rfl) rfl ?_) | (refine wpList_mstore rfl _ _ _ rfl rfl _ _ rfl 0 H _ _ rfl (.slice _ _ _) rfl (by kernel_rfl) (of_decide_eq_true (by kernel_rfl)) (by kernel_rfl) rfl ?_)); clear H; intro w1 H; simp only [List.set_cons_zero, List.set_cons_succ] at H)
    | (refine wpList_mnew rfl _ rfl H _ HZ.out ?_; clear H; intro _ w1 _ H))
  refine ret_mem3 rfl _ rfl 0 H _ rfl (by kernel_rfl) (by kernel_rfl) rfl _ _ rfl rfl ?_
  exact ⟨rfl, H.toBelow⟩
set_option maxHeartbeats 16000000 in
theorem rparse_ct (s : ByteArray) (w : World) (hs : s.size ≤ 4096) : Calls Tryz.prog 5 #[.string s] w (RPP (linesOf s.data.toList) w) := by
  have HZ := Lib.hid alloc_pol
  have KT := Lib.hid (fun v l wr (hr : Rg wr v l) (hk : l.all wholeB = true) (hn : l.length ≤ 100000) => rtidy_ct v l wr hr hk hn)
  have KL := Lib.hid (fun p q sv tv ra sa t wr h1 h2 hs n1 n2 => rline_ct p q sv tv ra sa t wr h1 h2 hs n1 n2)
  have hlen : s.data.toList.length = s.size := by rw [Array.length_toList]; rfl
  have H := Mem.start w
  have d0 : decide (4096 < (s.size : Int)) = false := by simp; omega
  go_enter Tryz.func5, Tryz.ntmps5
  go_wp2_with (first
    | go_skip | (refine wpList_mboxA rfl _ _ rfl H _ rfl ?_; clear H; intro _ w1 _ H) | (refine gate_load _ _ rfl ?_; first | (refine wpList_mloadA rfl _ _ rfl _ rfl 0 H _ rfl (by decide +kernel) (by kernel_rfl) ?_) | (refine wpList_mloadA rfl _ _ rfl _ rfl 1 H _ rfl (by decide +kernel) (by kernel_rfl) ?_) | (refine wpList_mload1 rfl _ _ rfl _ _ rfl 0 H _ (.int _ _) rfl rfl (by decide +kernel) ?_) | (refine wpList_mload1 rfl _ _ rfl _ _ rfl 1 H _ (.int _ _) rfl rfl (by decide +kernel) ?_) | (refine wpList_mload1 rfl _ _ rfl _ _ rfl 0 H _ (.bool _) rfl rfl (by decide +kernel) ?_) | (refine wpList_mload1 rfl _ _ rfl _ _ rfl 1 H _ (.bool _) rfl rfl (by decide +kernel) ?_) | (refine wpList_mload1 rfl _ _ rfl _ _ rfl 0 H _ (.pointer _) rfl rfl (by decide +kernel) ?_) | (refine wpList_mload1 rfl _ _ rfl _ _ rfl 1 H _ (.pointer _) rfl rfl (by decide +kernel) ?_) | (refine wpList_mload1 rfl _ _ rfl _ _ rfl 0 H _ (.string _) rfl rfl (by decide +kernel) ?_) | (refine wpList_mload1 rfl _ _ rfl _ _ rfl 1 H _ (.string _) rfl rfl (by decide +kernel) ?_) | (refine wpList_mload1 rfl _ _ rfl _ _ rfl 0 H _ (.slice _ _ _) rfl rfl (by decide +kernel) ?_) | (refine wpList_mload1 rfl _ _ rfl _ _ rfl 1 H _ (.slice _ _ _) rfl rfl (by decide +kernel) ?_)) | (refine gate_store _ _ _ rfl ?_; (first | (refine wpList_mstoreA rfl _ _ _ rfl rfl _ rfl 0 H _ _ rfl rfl (by kernel_rfl) (by kernel_rfl) (by kernel_rfl) ?_) | (refine wpList_mstoreA rfl _ _ _ rfl rfl _ rfl 1 H _ _ rfl rfl (by kernel_rfl) (by kernel_rfl) (by kernel_rfl) ?_) | (refine wpList_mstore rfl _ _ _ rfl rfl _ _ rfl 0 H _ _ rfl (.int _ _) rfl (by kernel_rfl) (of_decide_eq_true (by kernel_rfl)) (by kernel_rfl) rfl ?_) | (refine wpList_mstore rfl _ _ _ rfl rfl _ _ rfl 1 H _ _ rfl (.int _ _) rfl (by kernel_rfl) (of_decide_eq_true (by kernel_rfl)) (by kernel_rfl) rfl ?_) | (refine wpList_mstore rfl _ _ _ rfl rfl _ _ rfl 0 H _ _ rfl (.bool _) rfl (by kernel_rfl) (of_decide_eq_true (by kernel_rfl)) (by kernel_rfl) rfl ?_) | (refine wpList_mstore rfl _ _ _ rfl rfl _ _ rfl 1 H _ _ rfl (.bool _) rfl (by kernel_rfl) (of_decide_eq_true (by kernel_rfl)) (by kernel_rfl) rfl ?_) | (refine wpList_mstore rfl _ _ _ rfl rfl _ _ rfl 0 H _ _ rfl (.pointer _) rfl (by kernel_rfl) (of_decide_eq_true (by kernel_rfl)) (by kernel_rfl) rfl ?_) | (refine wpList_mstore rfl _ _ _ rfl rfl _ _ rfl 1 H _ _ rfl (.pointer _) rfl (by kernel_rfl) (of_decide_eq_true (by kernel_rfl)) (by kernel_rfl) rfl ?_) | (refine wpList_mstore rfl _ _ _ rfl rfl _ _ rfl 0 H _ _ rfl (.string _) rfl (by kernel_rfl) (of_decide_eq_true (by kernel_rfl)) (by kernel_rfl) rfl ?_) | (refine wpList_mstore rfl _ _ _ rfl rfl _ _ rfl 1 H _ _ rfl (.string _) rfl (by kernel_rfl) (of_decide_eq_true (by kernel_rfl)) (by kernel_rfl) rfl ?_) | (refine wpList_mstore rfl _ _ _ rfl rfl _ _ rfl 0 H _ _ rfl (.slice _ _ _) rfl (by kernel_rfl) (of_decide_eq_true (by kernel_rfl)) (by kernel_rfl) rfl ?_) | (refine wpList_mstore rfl _ _ _ rfl rfl _ _ rfl 1 H _ _ rfl (.slice _ _ _) rfl (by kernel_rfl) (of_decide_eq_true (by kernel_rfl)) (by kernel_rfl) rfl ?_)); clear H; intro w1 H; simp only [List.set_cons_zero, List.set_cons_succ] at H)
    | (refine wpList_mnew rfl _ rfl (H : Mem _ _ _ _ ([] : List (Nat × Array Value))) _ HZ.out ?_; clear H; intro R2 w1 _ H)
    | (refine wpList_mnew rfl _ rfl H _ HZ.out ?_; clear H; intro R5 w1 _ H))
  replace H : Mem w.heap.size [] w w1 [(R5, polZ), (R2, polZ)] := H
  go_loopw [6, 7, 8] (fun li fr i wr => ∃ (k f : Nat) (done : List (List UInt8)) (v3 v6 : Value), li = .int .i64 ((done.length : Int) + 1) ∧ fr = .int .i64 (f : Int) ∧ i = .int .i64 (k : Int) ∧ k ≤ s.size + 1 ∧ Hid (PI s.data.toList done f k) ∧ Mem w.heap.size [] w wr [(R5, #[.bool (anyP1 done), .bool (anyP2 done), v3, v6]), (R2, polZ)] ∧ Hid (Rg wr v3 (rams done)) ∧ Hid (Rg wr v6 (saves done))) (fun _ _ i _ => s.size + 2 - (intOf i).toNat)
  case atStart => exact ⟨0, 0, [], .slice none 0 0, .slice none 0 0, rfl, rfl, rfl, by omega, Lib.hid (PI.start _), H, Lib.hid (rg0 _), Lib.hid (rg0 _)⟩
  case round =>
    clear H
    obtain ⟨k, f, done, v3, v6, rfl, rfl, rfl, hk, HI, H, G3, G6⟩ := hrel
    have hdl := HI.out.len
    rw [hlen] at hdl
    have nR := rams_len done
    have nS := saves_len done
    obtain ⟨y3, z3, rfl, _⟩ := G3.out
    obtain ⟨y6, z6, rfl, _⟩ := G6.out
    by_cases hle : k ≤ s.size
    · have hfk := HI.out.fk (by omega)
      have d1 : decide ((k : Int) ≤ (s.size : Int)) = true := by simpa using hle
      by_cases hcont : ∃ h : k < s.size, s[k]'h ≠ 10
      · obtain ⟨h, hne⟩ := hcont
        have d2 : decide ((k : Int) < (s.size : Int)) = true := by simpa using h
        have d3 : (((s[k]'h).toNat : Int) != 10) = true := by
          rw [bne_iff_ne]
          intro e
          exact hne (UInt8.toNat_inj.1 (show (s[k]'h).toNat = (10 : UInt8).toNat by have : (10 : UInt8).toNat = 10 := rfl; omega))
        have hPI := Lib.hid (HI.out.on (k := k) (by omega) hne)
        clear HI KL KT
        go_wp2_with fail
        go_roundw
        case rel => exact ⟨k + 1, f, done, _, _, rfl, rfl, by go_num, by omega, hPI, H, G3, G6⟩
        case measure => simp [intOf]; omega
      · have hel : k = s.data.toList.length ∨ ∃ h : k < s.data.toList.length, s.data.toList[k] = 10 := by
          by_cases h : k < s.size
          · right
            refine ⟨by omega, ?_⟩
            by_cases e : s[k]'h = 10
            · exact e
            · exact absurd ⟨h, e⟩ hcont
          · left; omega
        have QL := Lib.hid (fun wr h1 h2 => KL.out (anyP1 done) (anyP2 done) (.slice y3 (rams done).length z3) (.slice y6 (saves done).length z6) (rams done) (saves done) (s.extract f k) wr h1 h2 (by rw [ByteArray.size_extract]; omega) (by omega) (by omega))
        unfold polV at QL
        clear KL KT
        have SL : ∀ W, (Instr.sliceAt 9 (.string s) (some (.int .i64 (f : Int))) (some (.int .i64 (k : Int))) none).run Tryz.prog W = .ok (.string (s.extract f k)) W := fun W => by
          rw [run_sliceAt_string (h := Tryz.underlying9), run_slice_string (h := Tryz.underlying9) (h0 := by omega) (h1 := by omega) (h2 := by omega)]
          simp
        by_cases h : k < s.size
        · have d2 : decide ((k : Int) < (s.size : Int)) = true := by simpa using h
          have d3 : (((s[k]'h).toNat : Int) != 10) = false := by
            have : s[k]'h = 10 := by
              by_cases e : s[k]'h = 10
              · exact e
              · exact absurd ⟨h, e⟩ hcont
            rw [this]; rfl
          clear hcont
          have hseg : (s.extract f k).data.toList = (s.data.toList.take k).drop f := ex_list s f k
          obtain ⟨OK, hOK⟩ : ∃ OK, (!isBad (s.extract f k).data.toList) = OK := ⟨_, rfl⟩
          have hOK := Lib.hid hOK
          go_wp2_with fail
          (try simp only [Act.put, List.setIfInBounds_toArray, List.set_cons_succ, List.set_cons_zero])
          refine wp_region_settledG ⟨false, false, .bool false, .bool false, [], [], 0⟩ (by kernel_rfl) (by kernel_rfl) (fun b : NB => [(some 33, .agg #[.bool (anyP1 done), .bool (anyP2 done), .slice y3 (rams done).length z3, .slice y6 (saves done).length z6]), (some 34, .string s), (some 35, .int .i64 (f : Int)), (some 36, .int .i64 (k : Int)), (some 37, .string (s.extract f k)), (some 38, .tuple #[.agg (polN b), .bool OK]), (some 32, .tuple #[.agg (polN b), .bool OK]), (some 39, .agg (polN b)), (some 40, .bool OK), (some 9, .pointer (some ⟨b.q, 0, none⟩)), (none, undef), (some 10, .bool OK)]) (NW _ (NF (anyP1 done) (anyP2 done) (rams done) (saves done) (s.extract f k).data.toList)) 59 (by rfl) (fun _ => by rfl) (fun _ => by rfl) (fun _ => by rfl) (NW.start _ _) ⟨?a0, ?a1, ?a2, ?a3, ?a4, ?a5, ?a6, ?a7, ?a8, ?a9, ?a10, ?a11, trivial⟩ ?_
          case a0 =>
            intro D i a' w' hk he hl hW
            have f5 : a'.tmps.getD 5 undef = .pointer (some ⟨R5, 0, none⟩) := (hl 5).trans ((lookS_absent _ 0 (by simp)).trans rfl)
            exact wp_sload _ _ rfl _ _ f5 0 (H.next hW.below) _ #[.bool (anyP1 done), .bool (anyP2 done), .slice y3 (rams done).length z3, .slice y6 (saves done).length z6] rfl (by decide +kernel) (by kernel_rfl) (fun j v hj => by rw [Nat.zero_add]; exact hj) ⟨i, fun _ => rfl, ⟨_, rfl, rfl⟩, hW.keep (by decide)⟩
          case a1 =>
            intro D i a' w' hk he hl hW
            have f0 : a'.tmps.getD 0 undef = .string s := (hl 0).trans ((lookS_absent _ 0 (by simp)).trans rfl)
            exact wp_val (.string s) (by simp only [execOp, Act.eval]; rw [f0]; kernel_rfl) ⟨i, fun _ => rfl, ⟨_, rfl, rfl⟩, hW.keep (by decide)⟩
          case a2 =>
            intro D i a' w' hk he hl hW
            have f7 : a'.tmps.getD 7 undef = .int .i64 (f : Int) := (hl 7).trans ((lookS_absent _ 0 (by simp)).trans rfl)
            exact wp_val (.int .i64 (f : Int)) (by simp only [execOp, Act.eval]; rw [f7]; kernel_rfl) ⟨i, fun _ => rfl, ⟨_, rfl, rfl⟩, hW.keep (by decide)⟩
          case a3 =>
            intro D i a' w' hk he hl hW
            have f8 : a'.tmps.getD 8 undef = .int .i64 (k : Int) := (hl 8).trans ((lookS_absent _ 0 (by simp)).trans rfl)
            exact wp_val (.int .i64 (k : Int)) (by simp only [execOp, Act.eval]; rw [f8]; kernel_rfl) ⟨i, fun _ => rfl, ⟨_, rfl, rfl⟩, hW.keep (by decide)⟩
          case a4 =>
            intro D i a' w' hk he hl hW
            have e1 := (hl 34).trans (lookS_at rfl (he ⟨1, .data⟩ (by simp) rfl) rfl)
            have e2 := (hl 35).trans (lookS_at rfl (he ⟨2, .data⟩ (by simp) rfl) rfl)
            have e3 := (hl 36).trans (lookS_at rfl (he ⟨3, .data⟩ (by simp) rfl) rfl)
            exact wp_val (.string (s.extract f k)) (by simp only [execOp, Act.eval, Option.map_some, Option.map_none, e1, e2, e3, Sem.run_bind, SL, Result.andThen_ok, Sem.run_pure]) ⟨i, fun _ => rfl, ⟨_, rfl, rfl⟩, hW.keep (by decide)⟩
          case a5 =>
            intro D i a' w' hk he hl hW
            have e0 := (hl 33).trans (lookS_at rfl (he ⟨0, .data⟩ (by simp) rfl) rfl)
            have e4 := (hl 37).trans (lookS_at rfl (he ⟨4, .data⟩ (by simp) rfl) rfl)
            refine wp_callp (vals := #[.agg #[.bool (anyP1 done), .bool (anyP2 done), .slice y3 (rams done).length z3, .slice y6 (saves done).length z6], .string (s.extract f k)]) rfl rfl (by simp only [List.map_toArray, List.map_cons, List.map_nil, Act.eval, e0, e4]) (by kernel_rfl) (QL.out _ (G3.out.below hW.below) (G6.out.below hW.below)) ?_
            rintro e w2 ⟨p', q', u3, u6, ra', sa', rfl, k1, k2, hb, hf⟩
            have n10 : D 10 = false := Bool.eq_false_iff.2 fun x => by rw [(hW.o10 x).2] at hk; cases hk
            have n6 : D 6 = false := Bool.eq_false_iff.2 fun x => by rw [hW.oq (.inl x)] at hk; cases hk
            have n7 : D 7 = false := Bool.eq_false_iff.2 fun x => by rw [hW.oq (.inr x)] at hk; cases hk
            exact ⟨_, rfl, { i with p := p', o := q', v3 := u3, v6 := u6, ra := ra', sa := sa' }, fun j => by simp only [lookS, polN, hk, n10, n6, n7, Bool.false_eq_true, if_false, Nat.zero_add, Nat.reduceAdd], ⟨_, by rw [← hOK.out]; rfl, rfl⟩, hW.op5 hb hk ⟨k1, k2, hf⟩⟩
          case a6 =>
            intro D i a' w' hk he hl hW
            have e5 := (hl 38).trans (lookS_at rfl (he ⟨5, .data⟩ (by simp) rfl) rfl)
            exact wp_val (.tuple #[.agg (polN i), .bool OK]) (by simp only [execOp, Act.eval]; rw [e5]; kernel_rfl) ⟨i, fun _ => rfl, ⟨_, rfl, rfl⟩, hW.keep5 (.inl rfl) (he ⟨5, .data⟩ (by simp) rfl)⟩
          case a7 =>
            intro D i a' w' hk he hl hW
            have e6 := (hl 32).trans (lookS_at rfl (he ⟨6, .data⟩ (by simp) rfl) rfl)
            exact wp_val (.agg (polN i)) (by simp only [execOp, Act.eval]; rw [e6]; kernel_rfl) ⟨i, fun _ => rfl, ⟨_, rfl, rfl⟩, hW.keep5 (.inr rfl) (hW.oq (.inl (he ⟨6, .data⟩ (by simp) rfl)))⟩
          case a8 =>
            intro D i a' w' hk he hl hW
            have e6 := (hl 32).trans (lookS_at rfl (he ⟨6, .data⟩ (by simp) rfl) rfl)
            exact wp_val (.bool OK) (by simp only [execOp, Act.eval]; rw [e6]; kernel_rfl) ⟨i, fun _ => rfl, ⟨_, rfl, rfl⟩, hW.keep (by decide)⟩
          case a9 =>
            intro D i a' w' hk he hl hW
            exact wp_alo _ rfl _ alloc_pol ⟨{ i with q := w'.heap.size }, fun j => by simp only [lookS, polN, hk, Bool.false_eq_true, if_false, Nat.zero_add, Nat.reduceAdd], ⟨_, rfl, rfl⟩, hW.op9 (fun q => Iff.rfl) ((Below.refl _ _).alloc (Nat.le_refl _) _) hk hW.hB (heap_alloc_new w' _)⟩
          case a10 =>
            intro D i a' w' hk he hl hW
            have e9 := (hl 9).trans (lookS_at rfl (he ⟨9, .data⟩ (by simp) rfl) rfl)
            have e7 := (hl 39).trans (lookS_at rfl (he ⟨7, .data⟩ (by simp) rfl) rfl)
            have h9 := he ⟨9, .data⟩ (by simp) rfl
            have h5 := he ⟨5, .chain⟩ (by simp) rfl
            obtain ⟨y3, z3, hv3, _⟩ := (hW.f5 h5).1
            obtain ⟨y6, z6, hv6, _⟩ := (hW.f5 h5).2.1
            have hone : (polN i).all (·.oneCell') = true := by unfold polN; rw [hv3, hv6]; kernel_rfl
            exact wp_sstoreA _ _ _ rfl rfl i.q e9 0 (Mem.begin ((hW.f9 h9).2.1 hk)) polZ (polN i) rfl e7 (by kernel_rfl) (by rfl) hone fun w1 hM => ⟨i, fun _ => rfl, ⟨undef, rfl, rfl⟩, hW.op10 h5 h9 hk hM⟩
          case a11 =>
            intro D i a' w' hk he hl hW
            have e8 := (hl 40).trans (lookS_at rfl (he ⟨8, .data⟩ (by simp) rfl) rfl)
            exact wp_val (.bool OK) (by simp only [execOp, Act.eval]; rw [e8]; kernel_rfl) ⟨i, fun _ => rfl, ⟨_, rfl, rfl⟩, hW.keep (by decide)⟩
          intro D b w' hD hW
          have hx := hW.f5 (hD 5 (by decide))
          obtain ⟨hq0, _, hq2⟩ := hW.f9 (hD 9 (by decide))
          obtain ⟨T, hq⟩ := hq2 (hD 10 (by decide))
          have H1 := H.add hW.below hq0 hq
          clear H hD hW hq hq0 hq2 QL SL
          obtain ⟨bp, bo, b3, b6, ra, sa, Rq⟩ := b
          simp only [polN] at H1 hx
          obtain ⟨g3, g6, hF⟩ := hx
          have G3 := Lib.hid g3
          have G6 := Lib.hid g6
          have HF := Lib.hid hF
          clear hF
          obtain ⟨x3, c3, hv3, _⟩ := g3
          generalize hn3 : ra.length = N3 at hv3
          subst hv3
          clear hn3
          obtain ⟨x6, c6, hv6, _⟩ := g6
          generalize hn6 : sa.length = N6 at hv6
          subst hv6
          clear hn6
          have HN := Lib.hid (show ∀ x ∈ [(Rq, #[.bool bp, .bool bo, .slice x3 N3 c3, .slice x6 N6 c6]), (R5, #[.bool (anyP1 done), .bool (anyP2 done), .slice y3 (rams done).length z3, .slice y6 (saves done).length z6]), (R2, polZ)], NoInts x.2 from by
            intro x hx
            simp only [List.mem_cons, List.not_mem_nil, or_false] at hx
            rcases hx with rfl | rfl | rfl
            · exact noInts4 _ _ _ _ _ _ _ _
            · exact noInts4 _ _ _ _ _ _ _ _
            · exact noInts4 _ _ _ _ _ _ _ _)
          have H0 := Lib.hid H1
          have H := H1.restart
          clear H1
          simp only [polN, putAll, List.foldl_cons, List.foldl_nil, Act.put, List.setIfInBounds_toArray, List.set_cons_succ, List.set_cons_zero]
          cases OK
          · have hb : isBad ((s.data.toList.take k).drop f) = true := by have := hOK.out; rw [hseg] at this; simpa using this
            obtain ⟨q1, q2, q3⟩ := HI.out.bad (by omega) hel hb
            clear HI HF
            go_wp2_with (first | go_skip | (refine wpList_mboxA rfl _ _ rfl H _ rfl ?_; clear H; intro _ w1 _ H) | (refine gate_load _ _ rfl ?_; first | (refine wpList_mloadA rfl _ _ rfl _ rfl 0 H _ rfl (by decide +kernel) (by kernel_rfl) ?_) | (refine wpList_mloadA rfl _ _ rfl _ rfl 1 H _ rfl (by decide +kernel) (by kernel_rfl) ?_) | (refine wpList_mloadA rfl _ _ rfl _ rfl 2 H _ rfl (by decide +kernel) (by kernel_rfl) ?_) | (refine wpList_mload1 rfl _ _ rfl _ _ rfl 0 H _ (.int _ _) rfl rfl (by decide +kernel) ?_) | (refine wpList_mload1 rfl _ _ rfl _ _ rfl 1 H _ (.int _ _) rfl rfl (by decide +kernel) ?_) | (refine wpList_mload1 rfl _ _ rfl _ _ rfl 2 H _ (.int _ _) rfl rfl (by decide +kernel) ?_) | (refine wpList_mload1 rfl _ _ rfl _ _ rfl 0 H _ (.bool _) rfl rfl (by decide +kernel) ?_) | (refine wpList_mload1 rfl _ _ rfl _ _ rfl 1 H _ (.bool _) rfl rfl (by decide +kernel) ?_) | (refine wpList_mload1 rfl _ _ rfl _ _ rfl 2 H _ (.bool _) rfl rfl (by decide +kernel) ?_) | (refine wpList_mload1 rfl _ _ rfl _ _ rfl 0 H _ (.pointer _) rfl rfl (by decide +kernel) ?_) | (refine wpList_mload1 rfl _ _ rfl _ _ rfl 1 H _ (.pointer _) rfl rfl (by decide +kernel) ?_) | (refine wpList_mload1 rfl _ _ rfl _ _ rfl 2 H _ (.pointer _) rfl rfl (by decide +kernel) ?_) | (refine wpList_mload1 rfl _ _ rfl _ _ rfl 0 H _ (.string _) rfl rfl (by decide +kernel) ?_) | (refine wpList_mload1 rfl _ _ rfl _ _ rfl 1 H _ (.string _) rfl rfl (by decide +kernel) ?_) | (refine wpList_mload1 rfl _ _ rfl _ _ rfl 2 H _ (.string _) rfl rfl (by decide +kernel) ?_) | (refine wpList_mload1 rfl _ _ rfl _ _ rfl 0 H _ (.slice _ _ _) rfl rfl (by decide +kernel) ?_) | (refine wpList_mload1 rfl _ _ rfl _ _ rfl 1 H _ (.slice _ _ _) rfl rfl (by decide +kernel) ?_) | (refine wpList_mload1 rfl _ _ rfl _ _ rfl 2 H _ (.slice _ _ _) rfl rfl (by decide +kernel) ?_)) | (refine gate_store _ _ _ rfl ?_; (first | (refine wpList_mstoreA rfl _ _ _ rfl rfl _ rfl 0 H _ _ rfl rfl (by kernel_rfl) (by kernel_rfl) (by kernel_rfl) ?_) | (refine wpList_mstoreA rfl _ _ _ rfl rfl _ rfl 1 H _ _ rfl rfl (by kernel_rfl) (by kernel_rfl) (by kernel_rfl) ?_) | (refine wpList_mstoreA rfl _ _ _ rfl rfl _ rfl 2 H _ _ rfl rfl (by kernel_rfl) (by kernel_rfl) (by kernel_rfl) ?_) | (refine wpList_mstore rfl _ _ _ rfl rfl _ _ rfl 0 H _ _ rfl (.int _ _) rfl (by kernel_rfl) (of_decide_eq_true (by kernel_rfl)) (by kernel_rfl) rfl ?_) | (refine wpList_mstore rfl _ _ _ rfl rfl _ _ rfl 1 H _ _ rfl (.int _ _) rfl (by kernel_rfl) (of_decide_eq_true (by kernel_rfl)) (by kernel_rfl) rfl ?_) | (refine wpList_mstore rfl _ _ _ rfl rfl _ _ rfl 2 H _ _ rfl (.int _ _) rfl (by kernel_rfl) (of_decide_eq_true (by kernel_rfl)) (by kernel_rfl) rfl ?_) | (refine wpList_mstore rfl _ _ _ rfl rfl _ _ rfl 0 H _ _ rfl (.bool _) rfl (by kernel_rfl) (of_decide_eq_true (by kernel_rfl)) (by kernel_rfl) rfl ?_) | (refine wpList_mstore rfl _ _ _ rfl rfl _ _ rfl 1 H _ _ rfl (.bool _) rfl (by kernel_rfl) (of_decide_eq_true (by kernel_rfl)) (by kernel_rfl) rfl ?_) | (refine wpList_mstore rfl _ _ _ rfl rfl _ _ rfl 2 H _ _ rfl (.bool _) rfl (by kernel_rfl) (of_decide_eq_true (by kernel_rfl)) (by kernel_rfl) rfl ?_) | (refine wpList_mstore rfl _ _ _ rfl rfl _ _ rfl 0 H _ _ rfl (.pointer _) rfl (by kernel_rfl) (of_decide_eq_true (by kernel_rfl)) (by kernel_rfl) rfl ?_) | (refine wpList_mstore rfl _ _ _ rfl rfl _ _ rfl 1 H _ _ rfl (.pointer _) rfl (by kernel_rfl) (of_decide_eq_true (by kernel_rfl)) (by kernel_rfl) rfl ?_) | (refine wpList_mstore rfl _ _ _ rfl rfl _ _ rfl 2 H _ _ rfl (.pointer _) rfl (by kernel_rfl) (of_decide_eq_true (by kernel_rfl)) (by kernel_rfl) rfl ?_) | (refine wpList_mstore rfl _ _ _ rfl rfl _ _ rfl 0 H _ _ rfl (.string _) rfl (by kernel_rfl) (of_decide_eq_true (by kernel_rfl)) (by kernel_rfl) rfl ?_) | (refine wpList_mstore rfl _ _ _ rfl rfl _ _ rfl 1 H _ _ rfl (.string _) rfl (by kernel_rfl) (of_decide_eq_true (by kernel_rfl)) (by kernel_rfl) rfl ?_) | (refine wpList_mstore rfl _ _ _ rfl rfl _ _ rfl 2 H _ _ rfl (.string _) rfl (by kernel_rfl) (of_decide_eq_true (by kernel_rfl)) (by kernel_rfl) rfl ?_) | (refine wpList_mstore rfl _ _ _ rfl rfl _ _ rfl 0 H _ _ rfl (.slice _ _ _) rfl (by kernel_rfl) (of_decide_eq_true (by kernel_rfl)) (by kernel_rfl) rfl ?_) | (refine wpList_mstore rfl _ _ _ rfl rfl _ _ rfl 1 H _ _ rfl (.slice _ _ _) rfl (by kernel_rfl) (of_decide_eq_true (by kernel_rfl)) (by kernel_rfl) rfl ?_) | (refine wpList_mstore rfl _ _ _ rfl rfl _ _ rfl 2 H _ _ rfl (.slice _ _ _) rfl (by kernel_rfl) (of_decide_eq_true (by kernel_rfl)) (by kernel_rfl) rfl ?_)); clear H; intro w1 H; simp only [List.set_cons_zero, List.set_cons_succ] at H))
            refine ret_mem3 rfl _ rfl 2 H _ rfl (by kernel_rfl) (by kernel_rfl) rfl _ _ rfl rfl ?_
            exact .inl ⟨done.length, q1, q2, q3, rfl, H0.out.below2 H⟩
          · have hb : isBad ((s.data.toList.take k).drop f) = false := by have := hOK.out; rw [hseg] at this; simpa using this
            have hPI := Lib.hid (HI.out.step (by omega) hel hb)
            obtain ⟨a1, a2, a3, a4⟩ := HF.out (by rw [hseg]; exact hb)
            rw [hseg] at a1 a2 a3 a4
            simp only at a1 a2 a3 a4
            rw [← anyP1_append] at a1
            rw [← anyP2_append] at a2
            rw [← rams_append] at a3
            rw [← saves_append] at a4
            clear HI HF hb hseg hOK hel
            go_wp2_with (first | go_skip | (refine wpList_mboxA rfl _ _ rfl H _ rfl ?_; clear H; intro _ w1 _ H) | (refine gate_load _ _ rfl ?_; first | (refine wpList_mloadA rfl _ _ rfl _ rfl 0 H _ rfl (by decide +kernel) (by kernel_rfl) ?_) | (refine wpList_mloadA rfl _ _ rfl _ rfl 1 H _ rfl (by decide +kernel) (by kernel_rfl) ?_) | (refine wpList_mloadA rfl _ _ rfl _ rfl 2 H _ rfl (by decide +kernel) (by kernel_rfl) ?_) | (refine wpList_mload1 rfl _ _ rfl _ _ rfl 0 H _ (.int _ _) rfl rfl (by decide +kernel) ?_) | (refine wpList_mload1 rfl _ _ rfl _ _ rfl 1 H _ (.int _ _) rfl rfl (by decide +kernel) ?_) | (refine wpList_mload1 rfl _ _ rfl _ _ rfl 2 H _ (.int _ _) rfl rfl (by decide +kernel) ?_) | (refine wpList_mload1 rfl _ _ rfl _ _ rfl 0 H _ (.bool _) rfl rfl (by decide +kernel) ?_) | (refine wpList_mload1 rfl _ _ rfl _ _ rfl 1 H _ (.bool _) rfl rfl (by decide +kernel) ?_) | (refine wpList_mload1 rfl _ _ rfl _ _ rfl 2 H _ (.bool _) rfl rfl (by decide +kernel) ?_) | (refine wpList_mload1 rfl _ _ rfl _ _ rfl 0 H _ (.pointer _) rfl rfl (by decide +kernel) ?_) | (refine wpList_mload1 rfl _ _ rfl _ _ rfl 1 H _ (.pointer _) rfl rfl (by decide +kernel) ?_) | (refine wpList_mload1 rfl _ _ rfl _ _ rfl 2 H _ (.pointer _) rfl rfl (by decide +kernel) ?_) | (refine wpList_mload1 rfl _ _ rfl _ _ rfl 0 H _ (.string _) rfl rfl (by decide +kernel) ?_) | (refine wpList_mload1 rfl _ _ rfl _ _ rfl 1 H _ (.string _) rfl rfl (by decide +kernel) ?_) | (refine wpList_mload1 rfl _ _ rfl _ _ rfl 2 H _ (.string _) rfl rfl (by decide +kernel) ?_) | (refine wpList_mload1 rfl _ _ rfl _ _ rfl 0 H _ (.slice _ _ _) rfl rfl (by decide +kernel) ?_) | (refine wpList_mload1 rfl _ _ rfl _ _ rfl 1 H _ (.slice _ _ _) rfl rfl (by decide +kernel) ?_) | (refine wpList_mload1 rfl _ _ rfl _ _ rfl 2 H _ (.slice _ _ _) rfl rfl (by decide +kernel) ?_)) | (refine gate_store _ _ _ rfl ?_; (first | (refine wpList_mstoreA rfl _ _ _ rfl rfl _ rfl 0 H _ _ rfl rfl (by kernel_rfl) (by kernel_rfl) (by kernel_rfl) ?_) | (refine wpList_mstoreA rfl _ _ _ rfl rfl _ rfl 1 H _ _ rfl rfl (by kernel_rfl) (by kernel_rfl) (by kernel_rfl) ?_) | (refine wpList_mstoreA rfl _ _ _ rfl rfl _ rfl 2 H _ _ rfl rfl (by kernel_rfl) (by kernel_rfl) (by kernel_rfl) ?_) | (refine wpList_mstore rfl _ _ _ rfl rfl _ _ rfl 0 H _ _ rfl (.int _ _) rfl (by kernel_rfl) (of_decide_eq_true (by kernel_rfl)) (by kernel_rfl) rfl ?_) | (refine wpList_mstore rfl _ _ _ rfl rfl _ _ rfl 1 H _ _ rfl (.int _ _) rfl (by kernel_rfl) (of_decide_eq_true (by kernel_rfl)) (by kernel_rfl) rfl ?_) | (refine wpList_mstore rfl _ _ _ rfl rfl _ _ rfl 2 H _ _ rfl (.int _ _) rfl (by kernel_rfl) (of_decide_eq_true (by kernel_rfl)) (by kernel_rfl) rfl ?_) | (refine wpList_mstore rfl _ _ _ rfl rfl _ _ rfl 0 H _ _ rfl (.bool _) rfl (by kernel_rfl) (of_decide_eq_true (by kernel_rfl)) (by kernel_rfl) rfl ?_) | (refine wpList_mstore rfl _ _ _ rfl rfl _ _ rfl 1 H _ _ rfl (.bool _) rfl (by kernel_rfl) (of_decide_eq_true (by kernel_rfl)) (by kernel_rfl) rfl ?_) | (refine wpList_mstore rfl _ _ _ rfl rfl _ _ rfl 2 H _ _ rfl (.bool _) rfl (by kernel_rfl) (of_decide_eq_true (by kernel_rfl)) (by kernel_rfl) rfl ?_) | (refine wpList_mstore rfl _ _ _ rfl rfl _ _ rfl 0 H _ _ rfl (.pointer _) rfl (by kernel_rfl) (of_decide_eq_true (by kernel_rfl)) (by kernel_rfl) rfl ?_) | (refine wpList_mstore rfl _ _ _ rfl rfl _ _ rfl 1 H _ _ rfl (.pointer _) rfl (by kernel_rfl) (of_decide_eq_true (by kernel_rfl)) (by kernel_rfl) rfl ?_) | (refine wpList_mstore rfl _ _ _ rfl rfl _ _ rfl 2 H _ _ rfl (.pointer _) rfl (by kernel_rfl) (of_decide_eq_true (by kernel_rfl)) (by kernel_rfl) rfl ?_) | (refine wpList_mstore rfl _ _ _ rfl rfl _ _ rfl 0 H _ _ rfl (.string _) rfl (by kernel_rfl) (of_decide_eq_true (by kernel_rfl)) (by kernel_rfl) rfl ?_) | (refine wpList_mstore rfl _ _ _ rfl rfl _ _ rfl 1 H _ _ rfl (.string _) rfl (by kernel_rfl) (of_decide_eq_true (by kernel_rfl)) (by kernel_rfl) rfl ?_) | (refine wpList_mstore rfl _ _ _ rfl rfl _ _ rfl 2 H _ _ rfl (.string _) rfl (by kernel_rfl) (of_decide_eq_true (by kernel_rfl)) (by kernel_rfl) rfl ?_) | (refine wpList_mstore rfl _ _ _ rfl rfl _ _ rfl 0 H _ _ rfl (.slice _ _ _) rfl (by kernel_rfl) (of_decide_eq_true (by kernel_rfl)) (by kernel_rfl) rfl ?_) | (refine wpList_mstore rfl _ _ _ rfl rfl _ _ rfl 1 H _ _ rfl (.slice _ _ _) rfl (by kernel_rfl) (of_decide_eq_true (by kernel_rfl)) (by kernel_rfl) rfl ?_) | (refine wpList_mstore rfl _ _ _ rfl rfl _ _ rfl 2 H _ _ rfl (.slice _ _ _) rfl (by kernel_rfl) (of_decide_eq_true (by kernel_rfl)) (by kernel_rfl) rfl ?_)); clear H; intro w1 H; simp only [List.set_cons_zero, List.set_cons_succ] at H))
            go_roundw
            case rel => exact ⟨k + 1, k + 1, done ++ [(s.data.toList.take k).drop f], .slice x3 N3 c3, .slice x6 N6 c6, by rw [List.length_append]; go_num, by go_num, by go_num, by omega, hPI, by (rw [← a1, ← a2]; exact (H0.out.join H rfl).sub (List.Sublist.cons _ (List.Sublist.refl _))), Lib.hid (by rw [← a3]; exact rg_mem G3.out H0.out HN.out H), Lib.hid (by rw [← a4]; exact rg_mem G6.out H0.out HN.out H)⟩
            case measure => simp [intOf]; omega
        · have d2 : decide ((k : Int) < (s.size : Int)) = false := by simp; omega
          clear hcont
          have hseg : (s.extract f k).data.toList = (s.data.toList.take k).drop f := ex_list s f k
          obtain ⟨OK, hOK⟩ : ∃ OK, (!isBad (s.extract f k).data.toList) = OK := ⟨_, rfl⟩
          have hOK := Lib.hid hOK
          go_wp2_with fail
          (try simp only [Act.put, List.setIfInBounds_toArray, List.set_cons_succ, List.set_cons_zero])
          refine wp_region_settledG ⟨false, false, .bool false, .bool false, [], [], 0⟩ (by kernel_rfl) (by kernel_rfl) (fun b : NB => [(some 33, .agg #[.bool (anyP1 done), .bool (anyP2 done), .slice y3 (rams done).length z3, .slice y6 (saves done).length z6]), (some 34, .string s), (some 35, .int .i64 (f : Int)), (some 36, .int .i64 (k : Int)), (some 37, .string (s.extract f k)), (some 38, .tuple #[.agg (polN b), .bool OK]), (some 32, .tuple #[.agg (polN b), .bool OK]), (some 39, .agg (polN b)), (some 40, .bool OK), (some 9, .pointer (some ⟨b.q, 0, none⟩)), (none, undef), (some 10, .bool OK)]) (NW _ (NF (anyP1 done) (anyP2 done) (rams done) (saves done) (s.extract f k).data.toList)) 59 (by rfl) (fun _ => by rfl) (fun _ => by rfl) (fun _ => by rfl) (NW.start _ _) ⟨?b0, ?b1, ?b2, ?b3, ?b4, ?b5, ?b6, ?b7, ?b8, ?b9, ?b10, ?b11, trivial⟩ ?_
          case b0 =>
            intro D i a' w' hk he hl hW
            have f5 : a'.tmps.getD 5 undef = .pointer (some ⟨R5, 0, none⟩) := (hl 5).trans ((lookS_absent _ 0 (by simp)).trans rfl)
            exact wp_sload _ _ rfl _ _ f5 0 (H.next hW.below) _ #[.bool (anyP1 done), .bool (anyP2 done), .slice y3 (rams done).length z3, .slice y6 (saves done).length z6] rfl (by decide +kernel) (by kernel_rfl) (fun j v hj => by rw [Nat.zero_add]; exact hj) ⟨i, fun _ => rfl, ⟨_, rfl, rfl⟩, hW.keep (by decide)⟩
          case b1 =>
            intro D i a' w' hk he hl hW
            have f0 : a'.tmps.getD 0 undef = .string s := (hl 0).trans ((lookS_absent _ 0 (by simp)).trans rfl)
            exact wp_val (.string s) (by simp only [execOp, Act.eval]; rw [f0]; kernel_rfl) ⟨i, fun _ => rfl, ⟨_, rfl, rfl⟩, hW.keep (by decide)⟩
          case b2 =>
            intro D i a' w' hk he hl hW
            have f7 : a'.tmps.getD 7 undef = .int .i64 (f : Int) := (hl 7).trans ((lookS_absent _ 0 (by simp)).trans rfl)
            exact wp_val (.int .i64 (f : Int)) (by simp only [execOp, Act.eval]; rw [f7]; kernel_rfl) ⟨i, fun _ => rfl, ⟨_, rfl, rfl⟩, hW.keep (by decide)⟩
          case b3 =>
            intro D i a' w' hk he hl hW
            have f8 : a'.tmps.getD 8 undef = .int .i64 (k : Int) := (hl 8).trans ((lookS_absent _ 0 (by simp)).trans rfl)
            exact wp_val (.int .i64 (k : Int)) (by simp only [execOp, Act.eval]; rw [f8]; kernel_rfl) ⟨i, fun _ => rfl, ⟨_, rfl, rfl⟩, hW.keep (by decide)⟩
          case b4 =>
            intro D i a' w' hk he hl hW
            have e1 := (hl 34).trans (lookS_at rfl (he ⟨1, .data⟩ (by simp) rfl) rfl)
            have e2 := (hl 35).trans (lookS_at rfl (he ⟨2, .data⟩ (by simp) rfl) rfl)
            have e3 := (hl 36).trans (lookS_at rfl (he ⟨3, .data⟩ (by simp) rfl) rfl)
            exact wp_val (.string (s.extract f k)) (by simp only [execOp, Act.eval, Option.map_some, Option.map_none, e1, e2, e3, Sem.run_bind, SL, Result.andThen_ok, Sem.run_pure]) ⟨i, fun _ => rfl, ⟨_, rfl, rfl⟩, hW.keep (by decide)⟩
          case b5 =>
            intro D i a' w' hk he hl hW
            have e0 := (hl 33).trans (lookS_at rfl (he ⟨0, .data⟩ (by simp) rfl) rfl)
            have e4 := (hl 37).trans (lookS_at rfl (he ⟨4, .data⟩ (by simp) rfl) rfl)
            refine wp_callp (vals := #[.agg #[.bool (anyP1 done), .bool (anyP2 done), .slice y3 (rams done).length z3, .slice y6 (saves done).length z6], .string (s.extract f k)]) rfl rfl (by simp only [List.map_toArray, List.map_cons, List.map_nil, Act.eval, e0, e4]) (by kernel_rfl) (QL.out _ (G3.out.below hW.below) (G6.out.below hW.below)) ?_
            rintro e w2 ⟨p', q', u3, u6, ra', sa', rfl, k1, k2, hb, hf⟩
            have n10 : D 10 = false := Bool.eq_false_iff.2 fun x => by rw [(hW.o10 x).2] at hk; cases hk
            have n6 : D 6 = false := Bool.eq_false_iff.2 fun x => by rw [hW.oq (.inl x)] at hk; cases hk
            have n7 : D 7 = false := Bool.eq_false_iff.2 fun x => by rw [hW.oq (.inr x)] at hk; cases hk
            exact ⟨_, rfl, { i with p := p', o := q', v3 := u3, v6 := u6, ra := ra', sa := sa' }, fun j => by simp only [lookS, polN, hk, n10, n6, n7, Bool.false_eq_true, if_false, Nat.zero_add, Nat.reduceAdd], ⟨_, by rw [← hOK.out]; rfl, rfl⟩, hW.op5 hb hk ⟨k1, k2, hf⟩⟩
          case b6 =>
            intro D i a' w' hk he hl hW
            have e5 := (hl 38).trans (lookS_at rfl (he ⟨5, .data⟩ (by simp) rfl) rfl)
            exact wp_val (.tuple #[.agg (polN i), .bool OK]) (by simp only [execOp, Act.eval]; rw [e5]; kernel_rfl) ⟨i, fun _ => rfl, ⟨_, rfl, rfl⟩, hW.keep5 (.inl rfl) (he ⟨5, .data⟩ (by simp) rfl)⟩
          case b7 =>
            intro D i a' w' hk he hl hW
            have e6 := (hl 32).trans (lookS_at rfl (he ⟨6, .data⟩ (by simp) rfl) rfl)
            exact wp_val (.agg (polN i)) (by simp only [execOp, Act.eval]; rw [e6]; kernel_rfl) ⟨i, fun _ => rfl, ⟨_, rfl, rfl⟩, hW.keep5 (.inr rfl) (hW.oq (.inl (he ⟨6, .data⟩ (by simp) rfl)))⟩
          case b8 =>
            intro D i a' w' hk he hl hW
            have e6 := (hl 32).trans (lookS_at rfl (he ⟨6, .data⟩ (by simp) rfl) rfl)
            exact wp_val (.bool OK) (by simp only [execOp, Act.eval]; rw [e6]; kernel_rfl) ⟨i, fun _ => rfl, ⟨_, rfl, rfl⟩, hW.keep (by decide)⟩
          case b9 =>
            intro D i a' w' hk he hl hW
            exact wp_alo _ rfl _ alloc_pol ⟨{ i with q := w'.heap.size }, fun j => by simp only [lookS, polN, hk, Bool.false_eq_true, if_false, Nat.zero_add, Nat.reduceAdd], ⟨_, rfl, rfl⟩, hW.op9 (fun q => Iff.rfl) ((Below.refl _ _).alloc (Nat.le_refl _) _) hk hW.hB (heap_alloc_new w' _)⟩
          case b10 =>
            intro D i a' w' hk he hl hW
            have e9 := (hl 9).trans (lookS_at rfl (he ⟨9, .data⟩ (by simp) rfl) rfl)
            have e7 := (hl 39).trans (lookS_at rfl (he ⟨7, .data⟩ (by simp) rfl) rfl)
            have h9 := he ⟨9, .data⟩ (by simp) rfl
            have h5 := he ⟨5, .chain⟩ (by simp) rfl
            obtain ⟨y3, z3, hv3, _⟩ := (hW.f5 h5).1
            obtain ⟨y6, z6, hv6, _⟩ := (hW.f5 h5).2.1
            have hone : (polN i).all (·.oneCell') = true := by unfold polN; rw [hv3, hv6]; kernel_rfl
            exact wp_sstoreA _ _ _ rfl rfl i.q e9 0 (Mem.begin ((hW.f9 h9).2.1 hk)) polZ (polN i) rfl e7 (by kernel_rfl) (by rfl) hone fun w1 hM => ⟨i, fun _ => rfl, ⟨undef, rfl, rfl⟩, hW.op10 h5 h9 hk hM⟩
          case b11 =>
            intro D i a' w' hk he hl hW
            have e8 := (hl 40).trans (lookS_at rfl (he ⟨8, .data⟩ (by simp) rfl) rfl)
            exact wp_val (.bool OK) (by simp only [execOp, Act.eval]; rw [e8]; kernel_rfl) ⟨i, fun _ => rfl, ⟨_, rfl, rfl⟩, hW.keep (by decide)⟩
          intro D b w' hD hW
          have hx := hW.f5 (hD 5 (by decide))
          obtain ⟨hq0, _, hq2⟩ := hW.f9 (hD 9 (by decide))
          obtain ⟨T, hq⟩ := hq2 (hD 10 (by decide))
          have H1 := H.add hW.below hq0 hq
          clear H hD hW hq hq0 hq2 QL SL
          obtain ⟨bp, bo, b3, b6, ra, sa, Rq⟩ := b
          simp only [polN] at H1 hx
          obtain ⟨g3, g6, hF⟩ := hx
          have G3 := Lib.hid g3
          have G6 := Lib.hid g6
          have HF := Lib.hid hF
          clear hF
          obtain ⟨x3, c3, hv3, _⟩ := g3
          generalize hn3 : ra.length = N3 at hv3
          subst hv3
          clear hn3
          obtain ⟨x6, c6, hv6, _⟩ := g6
          generalize hn6 : sa.length = N6 at hv6
          subst hv6
          clear hn6
          have HN := Lib.hid (show ∀ x ∈ [(Rq, #[.bool bp, .bool bo, .slice x3 N3 c3, .slice x6 N6 c6]), (R5, #[.bool (anyP1 done), .bool (anyP2 done), .slice y3 (rams done).length z3, .slice y6 (saves done).length z6]), (R2, polZ)], NoInts x.2 from by
            intro x hx
            simp only [List.mem_cons, List.not_mem_nil, or_false] at hx
            rcases hx with rfl | rfl | rfl
            · exact noInts4 _ _ _ _ _ _ _ _
            · exact noInts4 _ _ _ _ _ _ _ _
            · exact noInts4 _ _ _ _ _ _ _ _)
          have H0 := Lib.hid H1
          have H := H1.restart
          clear H1
          simp only [polN, putAll, List.foldl_cons, List.foldl_nil, Act.put, List.setIfInBounds_toArray, List.set_cons_succ, List.set_cons_zero]
          cases OK
          · have hb : isBad ((s.data.toList.take k).drop f) = true := by have := hOK.out; rw [hseg] at this; simpa using this
            obtain ⟨q1, q2, q3⟩ := HI.out.bad (by omega) hel hb
            clear HI HF
            go_wp2_with (first | go_skip | (refine wpList_mboxA rfl _ _ rfl H _ rfl ?_; clear H; intro _ w1 _ H) | (refine gate_load _ _ rfl ?_; first | (refine wpList_mloadA rfl _ _ rfl _ rfl 0 H _ rfl (by decide +kernel) (by kernel_rfl) ?_) | (refine wpList_mloadA rfl _ _ rfl _ rfl 1 H _ rfl (by decide +kernel) (by kernel_rfl) ?_) | (refine wpList_mloadA rfl _ _ rfl _ rfl 2 H _ rfl (by decide +kernel) (by kernel_rfl) ?_) | (refine wpList_mload1 rfl _ _ rfl _ _ rfl 0 H _ (.int _ _) rfl rfl (by decide +kernel) ?_) | (refine wpList_mload1 rfl _ _ rfl _ _ rfl 1 H _ (.int _ _) rfl rfl (by decide +kernel) ?_) | (refine wpList_mload1 rfl _ _ rfl _ _ rfl 2 H _ (.int _ _) rfl rfl (by decide +kernel) ?_) | (refine wpList_mload1 rfl _ _ rfl _ _ rfl 0 H _ (.bool _) rfl rfl (by decide +kernel) ?_) | (refine wpList_mload1 rfl _ _ rfl _ _ rfl 1 H _ (.bool _) rfl rfl (by decide +kernel) ?_) | (refine wpList_mload1 rfl _ _ rfl _ _ rfl 2 H _ (.bool _) rfl rfl (by decide +kernel) ?_) | (refine wpList_mload1 rfl _ _ rfl _ _ rfl 0 H _ (.pointer _) rfl rfl (by decide +kernel) ?_) | (refine wpList_mload1 rfl _ _ rfl _ _ rfl 1 H _ (.pointer _) rfl rfl (by decide +kernel) ?_) | (refine wpList_mload1 rfl _ _ rfl _ _ rfl 2 H _ (.pointer _) rfl rfl (by decide +kernel) ?_) | (refine wpList_mload1 rfl _ _ rfl _ _ rfl 0 H _ (.string _) rfl rfl (by decide +kernel) ?_) | (refine wpList_mload1 rfl _ _ rfl _ _ rfl 1 H _ (.string _) rfl rfl (by decide +kernel) ?_) | (refine wpList_mload1 rfl _ _ rfl _ _ rfl 2 H _ (.string _) rfl rfl (by decide +kernel) ?_) | (refine wpList_mload1 rfl _ _ rfl _ _ rfl 0 H _ (.slice _ _ _) rfl rfl (by decide +kernel) ?_) | (refine wpList_mload1 rfl _ _ rfl _ _ rfl 1 H _ (.slice _ _ _) rfl rfl (by decide +kernel) ?_) | (refine wpList_mload1 rfl _ _ rfl _ _ rfl 2 H _ (.slice _ _ _) rfl rfl (by decide +kernel) ?_)) | (refine gate_store _ _ _ rfl ?_; (first | (refine wpList_mstoreA rfl _ _ _ rfl rfl _ rfl 0 H _ _ rfl rfl (by kernel_rfl) (by kernel_rfl) (by kernel_rfl) ?_) | (refine wpList_mstoreA rfl _ _ _ rfl rfl _ rfl 1 H _ _ rfl rfl (by kernel_rfl) (by kernel_rfl) (by kernel_rfl) ?_) | (refine wpList_mstoreA rfl _ _ _ rfl rfl _ rfl 2 H _ _ rfl rfl (by kernel_rfl) (by kernel_rfl) (by kernel_rfl) ?_) | (refine wpList_mstore rfl _ _ _ rfl rfl _ _ rfl 0 H _ _ rfl (.int _ _) rfl (by kernel_rfl) (of_decide_eq_true (by kernel_rfl)) (by kernel_rfl) rfl ?_) | (refine wpList_mstore rfl _ _ _ rfl rfl _ _ rfl 1 H _ _ rfl (.int _ _) rfl (by kernel_rfl) (of_decide_eq_true (by kernel_rfl)) (by kernel_rfl) rfl ?_) | (refine wpList_mstore rfl _ _ _ rfl rfl _ _ rfl 2 H _ _ rfl (.int _ _) rfl (by kernel_rfl) (of_decide_eq_true (by kernel_rfl)) (by kernel_rfl) rfl ?_) | (refine wpList_mstore rfl _ _ _ rfl rfl _ _ rfl 0 H _ _ rfl (.bool _) rfl (by kernel_rfl) (of_decide_eq_true (by kernel_rfl)) (by kernel_rfl) rfl ?_) | (refine wpList_mstore rfl _ _ _ rfl rfl _ _ rfl 1 H _ _ rfl (.bool _) rfl (by kernel_rfl) (of_decide_eq_true (by kernel_rfl)) (by kernel_rfl) rfl ?_) | (refine wpList_mstore rfl _ _ _ rfl rfl _ _ rfl 2 H _ _ rfl (.bool _) rfl (by kernel_rfl) (of_decide_eq_true (by kernel_rfl)) (by kernel_rfl) rfl ?_) | (refine wpList_mstore rfl _ _ _ rfl rfl _ _ rfl 0 H _ _ rfl (.pointer _) rfl (by kernel_rfl) (of_decide_eq_true (by kernel_rfl)) (by kernel_rfl) rfl ?_) | (refine wpList_mstore rfl _ _ _ rfl rfl _ _ rfl 1 H _ _ rfl (.pointer _) rfl (by kernel_rfl) (of_decide_eq_true (by kernel_rfl)) (by kernel_rfl) rfl ?_) | (refine wpList_mstore rfl _ _ _ rfl rfl _ _ rfl 2 H _ _ rfl (.pointer _) rfl (by kernel_rfl) (of_decide_eq_true (by kernel_rfl)) (by kernel_rfl) rfl ?_) | (refine wpList_mstore rfl _ _ _ rfl rfl _ _ rfl 0 H _ _ rfl (.string _) rfl (by kernel_rfl) (of_decide_eq_true (by kernel_rfl)) (by kernel_rfl) rfl ?_) | (refine wpList_mstore rfl _ _ _ rfl rfl _ _ rfl 1 H _ _ rfl (.string _) rfl (by kernel_rfl) (of_decide_eq_true (by kernel_rfl)) (by kernel_rfl) rfl ?_) | (refine wpList_mstore rfl _ _ _ rfl rfl _ _ rfl 2 H _ _ rfl (.string _) rfl (by kernel_rfl) (of_decide_eq_true (by kernel_rfl)) (by kernel_rfl) rfl ?_) | (refine wpList_mstore rfl _ _ _ rfl rfl _ _ rfl 0 H _ _ rfl (.slice _ _ _) rfl (by kernel_rfl) (of_decide_eq_true (by kernel_rfl)) (by kernel_rfl) rfl ?_) | (refine wpList_mstore rfl _ _ _ rfl rfl _ _ rfl 1 H _ _ rfl (.slice _ _ _) rfl (by kernel_rfl) (of_decide_eq_true (by kernel_rfl)) (by kernel_rfl) rfl ?_) | (refine wpList_mstore rfl _ _ _ rfl rfl _ _ rfl 2 H _ _ rfl (.slice _ _ _) rfl (by kernel_rfl) (of_decide_eq_true (by kernel_rfl)) (by kernel_rfl) rfl ?_)); clear H; intro w1 H; simp only [List.set_cons_zero, List.set_cons_succ] at H))
            refine ret_mem3 rfl _ rfl 2 H _ rfl (by kernel_rfl) (by kernel_rfl) rfl _ _ rfl rfl ?_
            exact .inl ⟨done.length, q1, q2, q3, rfl, H0.out.below2 H⟩
          · have hb : isBad ((s.data.toList.take k).drop f) = false := by have := hOK.out; rw [hseg] at this; simpa using this
            have hPI := Lib.hid (HI.out.step (by omega) hel hb)
            obtain ⟨a1, a2, a3, a4⟩ := HF.out (by rw [hseg]; exact hb)
            rw [hseg] at a1 a2 a3 a4
            simp only at a1 a2 a3 a4
            rw [← anyP1_append] at a1
            rw [← anyP2_append] at a2
            rw [← rams_append] at a3
            rw [← saves_append] at a4
            clear HI HF hb hseg hOK hel
            go_wp2_with (first | go_skip | (refine wpList_mboxA rfl _ _ rfl H _ rfl ?_; clear H; intro _ w1 _ H) | (refine gate_load _ _ rfl ?_; first | (refine wpList_mloadA rfl _ _ rfl _ rfl 0 H _ rfl (by decide +kernel) (by kernel_rfl) ?_) | (refine wpList_mloadA rfl _ _ rfl _ rfl 1 H _ rfl (by decide +kernel) (by kernel_rfl) ?_) | (refine wpList_mloadA rfl _ _ rfl _ rfl 2 H _ rfl (by decide +kernel) (by kernel_rfl) ?_) | (refine wpList_mload1 rfl _ _ rfl _ _ rfl 0 H _ (.int _ _) rfl rfl (by decide +kernel) ?_) | (refine wpList_mload1 rfl _ _ rfl _ _ rfl 1 H _ (.int _ _) rfl rfl (by decide +kernel) ?_) | (refine wpList_mload1 rfl _ _ rfl _ _ rfl 2 H _ (.int _ _) rfl rfl (by decide +kernel) ?_) | (refine wpList_mload1 rfl _ _ rfl _ _ rfl 0 H _ (.bool _) rfl rfl (by decide +kernel) ?_) | (refine wpList_mload1 rfl _ _ rfl _ _ rfl 1 H _ (.bool _) rfl rfl (by decide +kernel) ?_) | (refine wpList_mload1 rfl _ _ rfl _ _ rfl 2 H _ (.bool _) rfl rfl (by decide +kernel) ?_) | (refine wpList_mload1 rfl _ _ rfl _ _ rfl 0 H _ (.pointer _) rfl rfl (by decide +kernel) ?_) | (refine wpList_mload1 rfl _ _ rfl _ _ rfl 1 H _ (.pointer _) rfl rfl (by decide +kernel) ?_) | (refine wpList_mload1 rfl _ _ rfl _ _ rfl 2 H _ (.pointer _) rfl rfl (by decide +kernel) ?_) | (refine wpList_mload1 rfl _ _ rfl _ _ rfl 0 H _ (.string _) rfl rfl (by decide +kernel) ?_) | (refine wpList_mload1 rfl _ _ rfl _ _ rfl 1 H _ (.string _) rfl rfl (by decide +kernel) ?_) | (refine wpList_mload1 rfl _ _ rfl _ _ rfl 2 H _ (.string _) rfl rfl (by decide +kernel) ?_) | (refine wpList_mload1 rfl _ _ rfl _ _ rfl 0 H _ (.slice _ _ _) rfl rfl (by decide +kernel) ?_) | (refine wpList_mload1 rfl _ _ rfl _ _ rfl 1 H _ (.slice _ _ _) rfl rfl (by decide +kernel) ?_) | (refine wpList_mload1 rfl _ _ rfl _ _ rfl 2 H _ (.slice _ _ _) rfl rfl (by decide +kernel) ?_)) | (refine gate_store _ _ _ rfl ?_; (first | (refine wpList_mstoreA rfl _ _ _ rfl rfl _ rfl 0 H _ _ rfl rfl (by kernel_rfl) (by kernel_rfl) (by kernel_rfl) ?_) | (refine wpList_mstoreA rfl _ _ _ rfl rfl _ rfl 1 H _ _ rfl rfl (by kernel_rfl) (by kernel_rfl) (by kernel_rfl) ?_) | (refine wpList_mstoreA rfl _ _ _ rfl rfl _ rfl 2 H _ _ rfl rfl (by kernel_rfl) (by kernel_rfl) (by kernel_rfl) ?_) | (refine wpList_mstore rfl _ _ _ rfl rfl _ _ rfl 0 H _ _ rfl (.int _ _) rfl (by kernel_rfl) (of_decide_eq_true (by kernel_rfl)) (by kernel_rfl) rfl ?_) | (refine wpList_mstore rfl _ _ _ rfl rfl _ _ rfl 1 H _ _ rfl (.int _ _) rfl (by kernel_rfl) (of_decide_eq_true (by kernel_rfl)) (by kernel_rfl) rfl ?_) | (refine wpList_mstore rfl _ _ _ rfl rfl _ _ rfl 2 H _ _ rfl (.int _ _) rfl (by kernel_rfl) (of_decide_eq_true (by kernel_rfl)) (by kernel_rfl) rfl ?_) | (refine wpList_mstore rfl _ _ _ rfl rfl _ _ rfl 0 H _ _ rfl (.bool _) rfl (by kernel_rfl) (of_decide_eq_true (by kernel_rfl)) (by kernel_rfl) rfl ?_) | (refine wpList_mstore rfl _ _ _ rfl rfl _ _ rfl 1 H _ _ rfl (.bool _) rfl (by kernel_rfl) (of_decide_eq_true (by kernel_rfl)) (by kernel_rfl) rfl ?_) | (refine wpList_mstore rfl _ _ _ rfl rfl _ _ rfl 2 H _ _ rfl (.bool _) rfl (by kernel_rfl) (of_decide_eq_true (by kernel_rfl)) (by kernel_rfl) rfl ?_) | (refine wpList_mstore rfl _ _ _ rfl rfl _ _ rfl 0 H _ _ rfl (.pointer _) rfl (by kernel_rfl) (of_decide_eq_true (by kernel_rfl)) (by kernel_rfl) rfl ?_) | (refine wpList_mstore rfl _ _ _ rfl rfl _ _ rfl 1 H _ _ rfl (.pointer _) rfl (by kernel_rfl) (of_decide_eq_true (by kernel_rfl)) (by kernel_rfl) rfl ?_) | (refine wpList_mstore rfl _ _ _ rfl rfl _ _ rfl 2 H _ _ rfl (.pointer _) rfl (by kernel_rfl) (of_decide_eq_true (by kernel_rfl)) (by kernel_rfl) rfl ?_) | (refine wpList_mstore rfl _ _ _ rfl rfl _ _ rfl 0 H _ _ rfl (.string _) rfl (by kernel_rfl) (of_decide_eq_true (by kernel_rfl)) (by kernel_rfl) rfl ?_) | (refine wpList_mstore rfl _ _ _ rfl rfl _ _ rfl 1 H _ _ rfl (.string _) rfl (by kernel_rfl) (of_decide_eq_true (by kernel_rfl)) (by kernel_rfl) rfl ?_) | (refine wpList_mstore rfl _ _ _ rfl rfl _ _ rfl 2 H _ _ rfl (.string _) rfl (by kernel_rfl) (of_decide_eq_true (by kernel_rfl)) (by kernel_rfl) rfl ?_) | (refine wpList_mstore rfl _ _ _ rfl rfl _ _ rfl 0 H _ _ rfl (.slice _ _ _) rfl (by kernel_rfl) (of_decide_eq_true (by kernel_rfl)) (by kernel_rfl) rfl ?_) | (refine wpList_mstore rfl _ _ _ rfl rfl _ _ rfl 1 H _ _ rfl (.slice _ _ _) rfl (by kernel_rfl) (of_decide_eq_true (by kernel_rfl)) (by kernel_rfl) rfl ?_) | (refine wpList_mstore rfl _ _ _ rfl rfl _ _ rfl 2 H _ _ rfl (.slice _ _ _) rfl (by kernel_rfl) (of_decide_eq_true (by kernel_rfl)) (by kernel_rfl) rfl ?_)); clear H; intro w1 H; simp only [List.set_cons_zero, List.set_cons_succ] at H))
            go_roundw
            case rel => exact ⟨k + 1, k + 1, done ++ [(s.data.toList.take k).drop f], .slice x3 N3 c3, .slice x6 N6 c6, by rw [List.length_append]; go_num, by go_num, by go_num, by omega, hPI, by (rw [← a1, ← a2]; exact (H0.out.join H rfl).sub (List.Sublist.cons _ (List.Sublist.refl _))), Lib.hid (by rw [← a3]; exact rg_mem G3.out H0.out HN.out H), Lib.hid (by rw [← a4]; exact rg_mem G6.out H0.out HN.out H)⟩
            case measure => simp [intOf]; omega
    · have hdone := HI.out.all (by omega)
      have hgood := HI.out.good
      have d1 : decide ((k : Int) ≤ (s.size : Int)) = false := by simp; omega
      have hdn0 := Lib.hid hdone
      clear KL HI hdone
      go_wp2_with fail
      (try simp only [Act.put, List.setIfInBounds_toArray, List.set_cons_succ, List.set_cons_zero])
      refine wp_region_settledG (β := TB2) (⟨.bool false, .bool false, [], []⟩ : TB2) (by kernel_rfl) (by kernel_rfl) (fun b : TB2 => [(some 50, .pointer (some ⟨R5, 2, none⟩)), (some 51, .slice y3 (rams done).length z3), (some 52, b.a), (some 53, .pointer (some ⟨R5, 3, none⟩)), (some 54, .slice y6 (saves done).length z6), (some 55, b.c), (some 56, .pointer (some ⟨R5, 2, none⟩)), (none, undef), (some 57, .pointer (some ⟨R5, 3, none⟩)), (none, undef)]) (TW w.heap.size w _ [(R5, #[.bool (anyP1 done), .bool (anyP2 done), .slice y3 (rams done).length z3, .slice y6 (saves done).length z6]), (R2, polZ)] (fun b : TB2 => [(R5, #[.bool (anyP1 done), .bool (anyP2 done), b.a, .slice y6 (saves done).length z6]), (R2, polZ)]) (fun b : TB2 => [(R5, #[.bool (anyP1 done), .bool (anyP2 done), b.a, b.c]), (R2, polZ)]) (rams done) (saves done)) 59 (by rfl) (fun _ => by rfl) (fun _ => by rfl) (fun _ => by rfl) (TW.start _ _) ⟨?t0, ?t1, ?t2, ?t3, ?t4, ?t5, ?t6, ?t7, ?t8, ?t9, trivial⟩ ?_
      case t0 =>
        intro D i a' w' hk he hl hW
        have f5 : a'.tmps.getD 5 undef = .pointer (some ⟨R5, 0, none⟩) := (hl 5).trans ((lookS_absent _ 0 (by simp)).trans rfl)
        exact wp_val (.pointer (some ⟨R5, 2, none⟩)) (by simp only [execOp, Act.eval]; rw [f5]; kernel_rfl) ⟨i, fun _ => rfl, ⟨_, rfl, rfl⟩, hW.keep (by decide)⟩
      case t3 =>
        intro D i a' w' hk he hl hW
        have f5 : a'.tmps.getD 5 undef = .pointer (some ⟨R5, 0, none⟩) := (hl 5).trans ((lookS_absent _ 0 (by simp)).trans rfl)
        exact wp_val (.pointer (some ⟨R5, 3, none⟩)) (by simp only [execOp, Act.eval]; rw [f5]; kernel_rfl) ⟨i, fun _ => rfl, ⟨_, rfl, rfl⟩, hW.keep (by decide)⟩
      case t6 =>
        intro D i a' w' hk he hl hW
        have f5 : a'.tmps.getD 5 undef = .pointer (some ⟨R5, 0, none⟩) := (hl 5).trans ((lookS_absent _ 0 (by simp)).trans rfl)
        exact wp_val (.pointer (some ⟨R5, 2, none⟩)) (by simp only [execOp, Act.eval]; rw [f5]; kernel_rfl) ⟨i, fun _ => rfl, ⟨_, rfl, rfl⟩, hW.keep (by decide)⟩
      case t8 =>
        intro D i a' w' hk he hl hW
        have f5 : a'.tmps.getD 5 undef = .pointer (some ⟨R5, 0, none⟩) := (hl 5).trans ((lookS_absent _ 0 (by simp)).trans rfl)
        exact wp_val (.pointer (some ⟨R5, 3, none⟩)) (by simp only [execOp, Act.eval]; rw [f5]; kernel_rfl) ⟨i, fun _ => rfl, ⟨_, rfl, rfl⟩, hW.keep (by decide)⟩
      case t1 =>
        intro D i a' w' hk he hl hW
        have n7 := hW.n7 hk (by simp)
        have e0 := (hl 50).trans (lookS_at rfl (he ⟨0, .data⟩ (by simp) rfl) rfl)
        exact wp_sload1 _ _ rfl _ _ e0 0 (H.next (hW.core n7).1) _ (.slice y3 (rams done).length z3) rfl rfl (by decide +kernel) ⟨i, fun _ => rfl, ⟨_, rfl, rfl⟩, hW.keep (by decide)⟩
      case t4 =>
        intro D i a' w' hk he hl hW
        have n7 := hW.n7 hk (by simp)
        have e3 := (hl 53).trans (lookS_at rfl (he ⟨3, .data⟩ (by simp) rfl) rfl)
        exact wp_sload1 _ _ rfl _ _ e3 0 (H.next (hW.core n7).1) _ (.slice y6 (saves done).length z6) rfl rfl (by decide +kernel) ⟨i, fun _ => rfl, ⟨_, rfl, rfl⟩, hW.keep (by decide)⟩
      case t2 =>
        intro D i a' w' hk he hl hW
        have n7 := hW.n7 hk (by simp)
        have e1 := (hl 51).trans (lookS_at rfl (he ⟨1, .data⟩ (by simp) rfl) rfl)
        refine wp_callp (vals := #[.slice y3 (rams done).length z3]) rfl rfl (by simp only [List.map_toArray, List.map_cons, List.map_nil, Act.eval, e1]) (by kernel_rfl) (KT.out _ _ _ (G3.out.below (hW.core n7).1) (rams_whole done) (by omega)) ?_
        rintro e w2 ⟨v', T, rfl, hv, hT, hb⟩
        exact ⟨v', rfl, { i with a := v', TA := T }, fun j => by simp only [lookS, hk, Bool.false_eq_true, if_false, Nat.zero_add, Nat.reduceAdd], ⟨_, rfl, rfl⟩, hW.op2 n7 hb ⟨hv, hT⟩⟩
      case t5 =>
        intro D i a' w' hk he hl hW
        have n7 := hW.n7 hk (by simp)
        have e4 := (hl 54).trans (lookS_at rfl (he ⟨4, .data⟩ (by simp) rfl) rfl)
        refine wp_callp (vals := #[.slice y6 (saves done).length z6]) rfl rfl (by simp only [List.map_toArray, List.map_cons, List.map_nil, Act.eval, e4]) (by kernel_rfl) (KT.out _ _ _ (G6.out.below (hW.core n7).1) (saves_whole done) (by omega)) ?_
        rintro e w2 ⟨v', T, rfl, hv, hT, hb⟩
        exact ⟨v', rfl, { i with c := v', TB := T }, fun j => by simp only [lookS, hk, Bool.false_eq_true, if_false, Nat.zero_add, Nat.reduceAdd], ⟨_, rfl, rfl⟩, hW.op5 n7 hb ⟨hv, hT⟩⟩
      case t7 =>
        intro D i a' w' hk he hl hW
        have e6 := (hl 56).trans (lookS_at rfl (he ⟨6, .data⟩ (by simp) rfl) rfl)
        have e2 := (hl 52).trans (lookS_at rfl (he ⟨2, .data⟩ (by simp) rfl) rfl)
        have hall : D 0 = true ∧ D 1 = true ∧ D 2 = true ∧ D 3 = true ∧ D 4 = true ∧ D 5 = true := ⟨he ⟨0, .phase⟩ (by simp) rfl, he ⟨1, .phase⟩ (by simp) rfl, he ⟨2, .phase⟩ (by simp) rfl, he ⟨3, .phase⟩ (by simp) rfl, he ⟨4, .phase⟩ (by simp) rfl, he ⟨5, .chain⟩ (by simp) rfl⟩
        obtain ⟨ya, za, hva, _⟩ := (hW.f2 hall.2.2.1).1
        have HH := H.next (hW.core hk).1
        obtain ⟨T, hT⟩ := HH.get (i := 0) rfl
        exact wp_sstore1 _ _ _ rfl rfl R5 2 e6 0 (Mem.begin hT) _ #[.bool (anyP1 done), .bool (anyP2 done), i.a, .slice y6 (saves done).length z6] rfl i.a e2 (by rw [hva]; kernel_rfl) (by rw [hva]; exact of_decide_eq_true (by kernel_rfl)) (by rw [hva]; kernel_rfl) (by rw [hva]; rfl) fun w1 hM => ⟨i, fun _ => rfl, ⟨undef, rfl, rfl⟩, hW.op7 hall hk HH (i := 0) rfl (noInts4 _ _ _ _ _ _ _ _) hM rfl⟩
      case t9 =>
        intro D i a' w' hk he hl hW
        have e8 := (hl 57).trans (lookS_at rfl (he ⟨8, .data⟩ (by simp) rfl) rfl)
        have e5 := (hl 55).trans (lookS_at rfl (he ⟨5, .data⟩ (by simp) rfl) rfl)
        have h7 := he ⟨7, .chain⟩ (by simp) rfl
        have hall := hW.oall h7
        obtain ⟨ya, za, hva, _⟩ := (hW.f2 hall.2.2.1).1
        obtain ⟨yc, zc, hvc, _⟩ := (hW.f5 hall.2.2.2.2.2).1
        have HH := hW.mid h7 hk
        obtain ⟨T, hT⟩ := HH.get (i := 0) rfl
        exact wp_sstore1 _ _ _ rfl rfl R5 3 e8 0 (Mem.begin hT) _ #[.bool (anyP1 done), .bool (anyP2 done), i.a, i.c] rfl i.c e5 (by rw [hvc]; kernel_rfl) (by rw [hvc]; exact of_decide_eq_true (by kernel_rfl)) (by rw [hvc]; kernel_rfl) (by rw [hvc]; rfl) fun w1 hM => ⟨i, fun _ => rfl, ⟨undef, rfl, rfl⟩, hW.op9 h7 hk (i := 0) rfl (by rw [hva]; exact noInts4 _ _ _ _ _ _ _ _) hM rfl⟩
      intro D b w' hD hW
      have H1 := hW.done (hD 9 (by decide))
      have f2 := hW.f2 (hD 2 (by decide))
      have f5 := hW.f5 (hD 5 (by decide))
      clear H hD hW
      obtain ⟨ba, bc, TA, TB⟩ := b
      simp only at H1 f2 f5
      obtain ⟨g3, t3⟩ := f2
      obtain ⟨g6, t6⟩ := f5
      have G3 := Lib.hid g3
      have G6 := Lib.hid g6
      obtain ⟨x3, c3, rfl, _⟩ := g3
      obtain ⟨x6, c6, rfl, _⟩ := g6
      have HN := Lib.hid (show ∀ x ∈ [(R5, #[.bool (anyP1 done), .bool (anyP2 done), .slice x3 TA.length c3, .slice x6 TB.length c6]), (R2, polZ)], NoInts x.2 from by
        intro x hx
        simp only [List.mem_cons, List.not_mem_nil, or_false] at hx
        rcases hx with rfl | rfl
        · exact noInts4 _ _ _ _ _ _ _ _
        · exact noInts4 _ _ _ _ _ _ _ _)
      have H0 := Lib.hid H1
      have H := H1.restart
      clear H1
      simp only [putAll, List.foldl_cons, List.foldl_nil, Act.put, List.setIfInBounds_toArray, List.set_cons_succ, List.set_cons_zero]
      go_wp2_with (first | go_skip | (refine wpList_mboxA rfl _ _ rfl H _ rfl ?_; clear H; intro _ w1 _ H) | (refine gate_load _ _ rfl ?_; first | (refine wpList_mloadA rfl _ _ rfl _ rfl 0 H _ rfl (by decide +kernel) (by kernel_rfl) ?_) | (refine wpList_mloadA rfl _ _ rfl _ rfl 1 H _ rfl (by decide +kernel) (by kernel_rfl) ?_) | (refine wpList_mload1 rfl _ _ rfl _ _ rfl 0 H _ (.int _ _) rfl rfl (by decide +kernel) ?_) | (refine wpList_mload1 rfl _ _ rfl _ _ rfl 1 H _ (.int _ _) rfl rfl (by decide +kernel) ?_) | (refine wpList_mload1 rfl _ _ rfl _ _ rfl 0 H _ (.bool _) rfl rfl (by decide +kernel) ?_) | (refine wpList_mload1 rfl _ _ rfl _ _ rfl 1 H _ (.bool _) rfl rfl (by decide +kernel) ?_) | (refine wpList_mload1 rfl _ _ rfl _ _ rfl 0 H _ (.pointer _) rfl rfl (by decide +kernel) ?_) | (refine wpList_mload1 rfl _ _ rfl _ _ rfl 1 H _ (.pointer _) rfl rfl (by decide +kernel) ?_) | (refine wpList_mload1 rfl _ _ rfl _ _ rfl 0 H _ (.string _) rfl rfl (by decide +kernel) ?_) | (refine wpList_mload1 rfl _ _ rfl _ _ rfl 1 H _ (.string _) rfl rfl (by decide +kernel) ?_) | (refine wpList_mload1 rfl _ _ rfl _ _ rfl 0 H _ (.slice _ _ _) rfl rfl (by decide +kernel) ?_) | (refine wpList_mload1 rfl _ _ rfl _ _ rfl 1 H _ (.slice _ _ _) rfl rfl (by decide +kernel) ?_)) | (refine gate_store _ _ _ rfl ?_; (first | (refine wpList_mstoreA rfl _ _ _ rfl rfl _ rfl 0 H _ _ rfl rfl (by kernel_rfl) (by kernel_rfl) (by kernel_rfl) ?_) | (refine wpList_mstoreA rfl _ _ _ rfl rfl _ rfl 1 H _ _ rfl rfl (by kernel_rfl) (by kernel_rfl) (by kernel_rfl) ?_) | (refine wpList_mstore rfl _ _ _ rfl rfl _ _ rfl 0 H _ _ rfl (.int _ _) rfl (by kernel_rfl) (of_decide_eq_true (by kernel_rfl)) (by kernel_rfl) rfl ?_) | (refine wpList_mstore rfl _ _ _ rfl rfl _ _ rfl 1 H _ _ rfl (.int _ _) rfl (by kernel_rfl) (of_decide_eq_true (by kernel_rfl)) (by kernel_rfl) rfl ?_) | (refine wpList_mstore rfl _ _ _ rfl rfl _ _ rfl 0 H _ _ rfl (.bool _) rfl (by kernel_rfl) (of_decide_eq_true (by kernel_rfl)) (by kernel_rfl) rfl ?_) | (refine wpList_mstore rfl _ _ _ rfl rfl _ _ rfl 1 H _ _ rfl (.bool _) rfl (by kernel_rfl) (of_decide_eq_true (by kernel_rfl)) (by kernel_rfl) rfl ?_) | (refine wpList_mstore rfl _ _ _ rfl rfl _ _ rfl 0 H _ _ rfl (.pointer _) rfl (by kernel_rfl) (of_decide_eq_true (by kernel_rfl)) (by kernel_rfl) rfl ?_) | (refine wpList_mstore rfl _ _ _ rfl rfl _ _ rfl 1 H _ _ rfl (.pointer _) rfl (by kernel_rfl) (of_decide_eq_true (by kernel_rfl)) (by kernel_rfl) rfl ?_) | (refine wpList_mstore rfl _ _ _ rfl rfl _ _ rfl 0 H _ _ rfl (.string _) rfl (by kernel_rfl) (of_decide_eq_true (by kernel_rfl)) (by kernel_rfl) rfl ?_) | (refine wpList_mstore rfl _ _ _ rfl rfl _ _ rfl 1 H _ _ rfl (.string _) rfl (by kernel_rfl) (of_decide_eq_true (by kernel_rfl)) (by kernel_rfl) rfl ?_) | (refine wpList_mstore rfl _ _ _ rfl rfl _ _ rfl 0 H _ _ rfl (.slice _ _ _) rfl (by kernel_rfl) (of_decide_eq_true (by kernel_rfl)) (by kernel_rfl) rfl ?_) | (refine wpList_mstore rfl _ _ _ rfl rfl _ _ rfl 1 H _ _ rfl (.slice _ _ _) rfl (by kernel_rfl) (of_decide_eq_true (by kernel_rfl)) (by kernel_rfl) rfl ?_)); clear H; intro w1 H; simp only [List.set_cons_zero, List.set_cons_succ] at H))
      refine ret_mem3 rfl _ rfl 1 H _ rfl (by kernel_rfl) (by kernel_rfl) rfl _ _ rfl rfl ?_
      rw [hdn0.out]
      exact .inr ⟨hgood, _, _, TA, TB, rfl, rg_mem G3.out H0.out HN.out H, rg_mem G6.out H0.out HN.out H, t3, t6, H0.out.below2 H⟩
end Go.Proofs.YtfceifmhlmiiiaaGreatDoor
