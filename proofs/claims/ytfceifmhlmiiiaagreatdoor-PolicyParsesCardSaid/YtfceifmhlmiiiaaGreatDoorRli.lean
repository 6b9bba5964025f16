/-
  The document's begins and Line of a policy's text. Over this seat's translation; of texts of at most 5000 octets, and at most 5000 ranges.
-/
import Derived.Test.YtfceifmhlmiiiaaGreatDoorRns
import Derived.Test.YtfceifmhlmiiiaaGreatDoorJoc
import Derived.Test.YtfceifmhlmiiiaaGreatDoorSwp
namespace Go.Proofs.YtfceifmhlmiiiaaGreatDoor
open Go.RowKit
set_option linter.unusedSimpArgs false
set_option linter.unusedVariables false
set_option maxRecDepth 20000

theorem ex_list (s : ByteArray) (a b : Nat) : (s.extract a b).data.toList = (s.data.toList.take b).drop a := by
  rw [ByteArray.data_extract, Array.toList_extract]
  exact List.extract_eq_drop_take' ..
theorem pre_take (s p : ByteArray) (h : p.size ≤ s.size) : Lib.hasPrefix s.data.toList p.data.toList = decide (s.extract 0 p.size = p) := by
  have hl : p.data.toList.length = p.size := by rw [Array.length_toList]; rfl
  rw [Bool.eq_iff_iff, decide_eq_true_eq]
  unfold Lib.hasPrefix
  rw [List.isPrefixOf_iff_prefix, List.prefix_iff_eq_take, hl]
  constructor
  · intro e
    have : (s.extract 0 p.size).data.toList = p.data.toList := by rw [ex_list, List.drop_zero]; exact e.symm
    have h2 : (s.extract 0 p.size).data = p.data := Array.toList_inj.1 this
    cases hx : s.extract 0 p.size
    cases p
    rw [hx] at h2
    simp only at h2
    rw [h2]
  · intro e
    have := ex_list s 0 p.size
    rw [e, List.drop_zero] at this
    exact this
theorem pre_short (s p : ByteArray) (h : s.size < p.size) : Lib.hasPrefix s.data.toList p.data.toList = false := by
  rw [Bool.eq_false_iff]
  intro e
  unfold Lib.hasPrefix at e
  have := (List.isPrefixOf_iff_prefix.1 e).length_le
  rw [Array.length_toList, Array.length_toList] at this
  have h1 : s.data.size = s.size := rfl
  have h2 : p.data.size = p.size := rfl
  omega
theorem bl_inj {a b : ByteArray} (h : a.toList = b.toList) : a = b := by
  rw [ByteArray.toList_eq, ByteArray.toList_eq] at h
  exact ByteArray.ext (Array.toList_inj.1 h)
theorem bl_eq (a b : ByteArray) : (a.toList == b.toList) = decide (a = b) := by
  rw [Bool.eq_iff_iff, beq_iff_eq, decide_eq_true_eq]
  exact ⟨bl_inj, fun e => by rw [e]⟩
set_option maxHeartbeats 1000000 in
theorem rbegins_ct (s p : ByteArray) (w : World) (hs : s.size ≤ 5000) (hp : p.size ≤ 5000) : Calls Tryz.prog 29 #[.string s, .string p] w fun e w' => e = .returned (.bool (Lib.hasPrefix s.data.toList p.data.toList)) ∧ Below w.heap.size w w' := by
  have H := Mem.start w
  by_cases h : p.size ≤ s.size
  · rw [pre_take s p h, ← bl_eq]
    have d : decide ((p.size : Int) ≤ (s.size : Int)) = true := by simpa using h
    go_enter Tryz.func29, Tryz.ntmps29
    go_wp2
    go_ret
    exact ⟨rfl, H.toBelow⟩
  · rw [pre_short s p (by omega)]
    have d : decide ((p.size : Int) ≤ (s.size : Int)) = false := by simp; omega
    go_enter Tryz.func29, Tryz.ntmps29
    go_wp2
    go_ret
    exact ⟨rfl, H.toBelow⟩
theorem ex_bs1 (a b : Int) (w : World) : (Instr.buildSlice 23 1 #[(0, .agg #[.int .i64 a, .int .i64 b])]).run Tryz.prog w = .ok (.slice (some ⟨w.heap.size, 0, none⟩) 1 1) (w.alloc (.cells #[.int .i64 a, .int .i64 b] 42)) := by kernel_rfl
theorem wp_bs1 {Q : Exit → Act → World → Prop} {w : World} {o : Oper} {a : Act} {K : Act → World → Prop} (x : Operand) (ho : o.op = .buildSlice 23 1 #[(0, x)]) (y z : Int) (hx : a.eval x = .agg #[.int .i64 y, .int .i64 z])
    (h : K (a.put o.dst (.slice (some ⟨w.heap.size, 0, none⟩) 1 1)) (w.alloc (.cells #[.int .i64 y, .int .i64 z] 42))) : o.wp Tryz.prog a w K Q := by
  have e := ex_bs1 y z w
  unfold Oper.wp execOp
  simp only [ho, List.map_toArray, List.map_cons, List.map_nil, hx, Sem.run_bind, e, Result.andThen_ok, Sem.run_pure]
  exact h
theorem Mem.join {n : Nat} {X : List Nat} {w0 w w2 : World} {l l2 : List (Nat × Array Value)} (h : Mem n X w0 w l) (h2 : Mem w.heap.size (l.map (·.1)) w w2 l2) (hl : l2.map (·.1) = l.map (·.1)) : Mem n X w0 w2 l2 := by
  refine ⟨h2.os.trans h.os, h2.tape.trans h.tape, h2.output.trans h.output, Nat.le_trans h.size h2.size, h.base, fun k hk hX => ?_, h2.row, fun x hx => ?_, h2.nodup⟩
  · rw [h2.block k (Nat.lt_of_lt_of_le hk (Nat.le_trans h.base h.size)) (fun hm => by
      obtain ⟨x, hx, e⟩ := List.mem_map.1 hm
      rcases h.mine x hx with h3 | h3
      · omega
      · rw [e] at h3; exact hX h3)]
    exact h.block k hk hX
  · have : x.1 ∈ l2.map (·.1) := List.mem_map.2 ⟨x, hx, rfl⟩
    rw [hl] at this
    obtain ⟨y, hy, e⟩ := List.mem_map.1 this
    rw [← e]
    exact h.mine y hy
structure LB where
  r0 : Value
  r1 : Value
  r5 : Value
  r6 : Value
/-- What is known between the operations of 'p.Ram = append(append([]Range{}, p.Ram...), r)'. -/
structure LW (n : Nat) (w0 wS : World) (L' : Value → List (Nat × Array Value)) (ra : List (Int × Int)) (r : Int × Int) (vo : Value) (so : List (Int × Int)) (D : Nat → Bool) (b : LB) (w : World) : Prop where
  core : D 8 = false → Below wS.heap.size wS w ∧ wS.heap.size ≤ w.heap.size
  done : D 8 = true → Mem n [] w0 w (L' b.r6)
  o6 : D 6 = true → D 3 = true
  o8 : D 8 = true → D 6 = true
  oall : D 8 = true → D 0 = true ∧ D 1 = true ∧ D 2 = true ∧ D 3 = true ∧ D 4 = true ∧ D 5 = true ∧ D 6 = true
  f0 : D 0 = true → D 3 = false → Zs wS.heap.size w b.r0
  f3 : D 3 = true → D 6 = false → (ra = [] ∧ Zs wS.heap.size w b.r1) ∨ (ra ≠ [] ∧ RowJ wS.heap.size w b.r1 ra)
  f5 : D 5 = true → D 6 = false → Rg w b.r5 [r]
  f6 : D 6 = true → Rg w b.r6 (ra ++ [r])
  fo : Rg w vo so
section
variable {n : Nat} {w0 wS w w2 : World} {L' : Value → List (Nat × Array Value)} {ra so : List (Int × Int)} {r : Int × Int} {vo v : Value} {D : Nat → Bool} {b : LB}
theorem LW.start (h : Rg w vo so) (b : LB) : LW n w0 w L' ra r vo so (fun _ => false) b { w with drawn := w.drawn + 1 } := by
  refine ⟨fun _ => ⟨(Below.refl _ w).drew, Nat.le_refl _⟩, ?_, ?_, ?_, ?_, ?_, ?_, ?_, ?_, h.below (Below.refl _ w).drew⟩ <;> intro x <;> cases x
theorem LW.keep (h : LW n w0 wS L' ra r vo so D b w) {k : Nat} (hk : [0, 3, 5, 6, 8].contains k = false) : LW n w0 wS L' ra r vo so (fun j => D j || j == k) b w := by
  have e : ∀ s, [0, 3, 5, 6, 8].contains s = true → (D s || s == k) = D s := fun s hs => by
    have : s ≠ k := fun e => by subst e; rw [hs] at hk; cases hk
    simp [this]
  obtain ⟨core, done, o6, o8, oall, f0, f3, f5, f6, fo⟩ := h
  constructor
  case oall =>
    intro h
    have := oall (by rw [← e 8 (by decide)]; exact h)
    simp [this]
  all_goals
    try simp only [e 0 (by decide), e 3 (by decide), e 5 (by decide), e 6 (by decide), e 8 (by decide)]
    assumption
theorem LW.next (h : LW n w0 wS L' ra r vo so D b w) (h8 : D 8 = false) (hb : Below w.heap.size w w2) : LW n w0 wS L' ra r vo so D b w2 := by
  obtain ⟨core, done, o6, o8, oall, f0, f3, f5, f6, fo⟩ := h
  refine ⟨fun x => ⟨(core x).1.trans (hb.mono (core x).2), Nat.le_trans (core x).2 hb.size⟩, fun x => by (rw [h8] at x; cases x), o6, o8, oall, fun x y => (f0 x y).next hb, fun x y => ?_, fun x y => (f5 x y).below hb, fun x => (f6 x).below hb, fo.below hb⟩
  rcases f3 x y with ⟨e, z⟩ | ⟨e, z⟩
  · exact .inl ⟨e, z.next hb⟩
  · exact .inr ⟨e, z.next hb⟩
theorem LW.n8 (h : LW n w0 wS L' ra r vo so D b w) (h6 : D 6 = false) : D 8 = false := Bool.eq_false_iff.2 fun x => by rw [h.o8 x] at h6; cases h6
theorem LW.op0 (h0 : LW n w0 wS L' ra r vo so D b w) (h8 : D 8 = false) (hb : Below w.heap.size w w2) (hz : Zs wS.heap.size w2 v) : LW n w0 wS L' ra r vo so (fun j => D j || j == 0) { b with r0 := v } w2 := by
  obtain ⟨core, done, o6, o8, oall, f0, f3, f5, f6, fo⟩ := h0.next h8 hb
  exact ⟨by simpa using core, by simp [h8], by simpa using o6, by simpa using o8, fun h => by have := oall (by simpa using h); simp [this], fun _ _ => hz, by simpa using f3, by simpa using f5, by simpa using f6, fo⟩
theorem LW.op3 (h0 : LW n w0 wS L' ra r vo so D b w) (h8 : D 8 = false) (hb : Below w.heap.size w w2) (hz : (ra = [] ∧ Zs wS.heap.size w2 v) ∨ (ra ≠ [] ∧ RowJ wS.heap.size w2 v ra)) : LW n w0 wS L' ra r vo so (fun j => D j || j == 3) { b with r1 := v } w2 := by
  obtain ⟨core, done, o6, o8, oall, f0, f3, f5, f6, fo⟩ := h0.next h8 hb
  exact ⟨by simpa using core, by simp [h8], by simp, by simpa using o8, fun h => by have := oall (by simpa using h); simp [this], by simp, fun _ _ => hz, by simpa using f5, by simpa using f6, fo⟩
theorem LW.op5 (h0 : LW n w0 wS L' ra r vo so D b w) (h8 : D 8 = false) (hb : Below w.heap.size w w2) (hz : Rg w2 v [r]) : LW n w0 wS L' ra r vo so (fun j => D j || j == 5) { b with r5 := v } w2 := by
  obtain ⟨core, done, o6, o8, oall, f0, f3, f5, f6, fo⟩ := h0.next h8 hb
  exact ⟨by simpa using core, by simp [h8], by simpa using o6, by simpa using o8, fun h => by have := oall (by simpa using h); simp [this], by simpa using f0, by simpa using f3, fun _ _ => hz, by simpa using f6, fo⟩
theorem LW.op6 (h0 : LW n w0 wS L' ra r vo so D b w) (ho : Rg wS vo so) (h3 : D 3 = true) (h6 : D 6 = false) (hz : Below w.heap.size w w2 ∨ (ra ≠ [] ∧ RowJ wS.heap.size w b.r1 ra ∧ w.grownBy w2 b.r1.ownBlock)) (hr : Rg w2 v (ra ++ [r])) : LW n w0 wS L' ra r vo so (fun j => D j || j == 6) { b with r6 := v } w2 := by
  have h8 := h0.n8 h6
  rcases hz with hb | ⟨hne, hrow, hg⟩
  · obtain ⟨core, done, o6, o8, oall, f0, f3, f5, f6, fo⟩ := h0.next h8 hb
    exact ⟨by simpa using core, by simp [h8], by simp [h3], by simp, fun h => by have := oall (by simpa using h); simp [this], by simpa using f0, by simp, by simp, fun _ => hr, fo⟩
  · obtain ⟨g, cap, cur, hv, hob, hbg, hcur, hcn⟩ := hrow.block hne
    rw [hob] at hg
    obtain ⟨core, done, o6, o8, oall, f0, f3, f5, f6, fo⟩ := h0
    obtain ⟨c1, c2⟩ := core h8
    have c3 : Below wS.heap.size wS w2 := c1.grown hg c2 (fun k e => by injection e with e; omega)
    exact ⟨fun _ => ⟨c3, Nat.le_trans c2 hg.size⟩, by simp [h8], by simp [h3], by simp, fun h => by have := oall (by simpa using h); simp [this], by simp [h3], by simp, by simp, fun _ => hr, ho.below c3⟩
theorem LW.op8 (h0 : LW n w0 wS L' ra r vo so D b w) (hall : D 0 = true ∧ D 1 = true ∧ D 2 = true ∧ D 3 = true ∧ D 4 = true ∧ D 5 = true ∧ D 6 = true) (h6 : D 6 = true) (h8 : D 8 = false) {L : List (Nat × Array Value)} (H : Mem n [] w0 w L) {i R : Nat} {cs cs' : Array Value} (hi : L[i]? = some (R, cs)) (hn : NoInts cs) (hM : Mem w.heap.size [R] w w2 [(R, cs')]) (hL : L' b.r6 = L.set i (R, cs')) : LW n w0 wS L' ra r vo so (fun j => D j || j == 8) b w2 := by
  have h3 := h0.o6 h6
  obtain ⟨T, hT⟩ := H.get hi
  have hg : w.grownBy w2 (some R) := ⟨hM.os, hM.tape, hM.output, hM.size, fun k hk hn => hM.block k hk (by simpa using fun e => hn (by rw [e]))⟩
  exact ⟨by simp, fun _ => by rw [hL]; exact H.call hi hM, by simpa using h0.o6, by simp [h6], fun _ => by simp [hall], by simp [h3], by simp [h6], by simp [h6], fun _ => rg_grown (h0.f6 h6) hg (rg_off (h0.f6 h6) hT hn), rg_grown h0.fo hg (rg_off h0.fo hT hn)⟩
end
def LineP (p q : Bool) (ra sa : List (Int × Int)) (l : List UInt8) (w : World) (e : Ending) (w' : World) : Prop := ∃ (p' q' : Bool) (v3 v6 : Value) (ra' sa' : List (Int × Int)), e = .returned (.tuple #[polV p' q' v3 v6, .bool (!isBad l)]) ∧ Rg w' v3 ra' ∧ Rg w' v6 sa' ∧ Below w.heap.size w w' ∧ (isBad l = false → p' = (p || anyP1 [l]) ∧ q' = (q || anyP2 [l]) ∧ ra' = ra ++ rams [l] ∧ sa' = sa ++ saves [l])
theorem bl_no {B : ByteArray} {l : List UInt8} (C : ByteArray) (hC : C.data.toList = l) (h : ¬ B.data.toList = l) : (B.toList == C.toList) = false := by
  rw [bl_eq, decide_eq_false_iff_not]
  intro e; rw [e] at h; exact h hC
theorem bl_yes {B : ByteArray} {l : List UInt8} (C : ByteArray) (hC : C.data.toList = l) (h : B.data.toList = l) : (B.toList == C.toList) = true := by
  rw [bl_eq, decide_eq_true_eq]
  exact ByteArray.ext (Array.toList_inj.1 (h.trans hC.symm))
theorem any1 (l : List UInt8) : anyP1 [l] = decide (cls l = .port1) := by simp [anyP1]
theorem any2 (l : List UInt8) : anyP2 [l] = decide (cls l = .port2) := by simp [anyP2]
theorem rams1 (l : List UInt8) : rams [l] = (ramOf l).toList := by unfold rams; cases h : ramOf l <;> simp [h]
theorem saves1 (l : List UInt8) : saves [l] = (saveOf l).toList := by unfold saves; cases h : saveOf l <;> simp [h]
/-- A line, case by case. -/
theorem line_cases (t : ByteArray) :
    (t.toList.isEmpty = true ∧ cls t.data.toList = .skip) ∨
    (∃ z0 : 0 < t.size, t.toList.isEmpty = false ∧ ((((t[0]'z0).toNat : Int) == 35) = true ∧ cls t.data.toList = .skip ∨
      (((t[0]'z0).toNat : Int) == 35) = false ∧ ((t.toList == [112, 111, 114, 116, 32, 49]) = true ∧ cls t.data.toList = .port1 ∨
        (t.toList == [112, 111, 114, 116, 32, 49]) = false ∧ ((t.toList == [112, 111, 114, 116, 32, 50]) = true ∧ cls t.data.toList = .port2 ∨
          (t.toList == [112, 111, 114, 116, 32, 50]) = false ∧ cls t.data.toList = match readL ramW 2048 t.data.toList with
            | some r => .ram r
            | none => match readL saveW 8192 t.data.toList with
              | some r => .save r
              | none => .bad)))) := by
  have he : t.toList = t.data.toList := ByteArray.toList_eq t
  have hlen : t.data.toList.length = t.size := by rw [Array.length_toList]; rfl
  rw [he]
  unfold cls
  by_cases h0 : t.data.toList = []
  · left; rw [h0]; exact ⟨rfl, rfl⟩
  · right
    have z0 : 0 < t.size := by rw [← hlen]; exact List.length_pos_iff.2 h0
    have hc : ∃ l, t.data.toList = t[0]'z0 :: l := by
      have h1 : 0 < t.data.toList.length := by omega
      have := List.drop_eq_getElem_cons (l := t.data.toList) (i := 0) h1
      rw [List.drop_zero] at this
      exact ⟨_, this⟩
    refine ⟨z0, by simpa using h0, ?_⟩
    obtain ⟨l, hl⟩ := hc
    by_cases h35 : t[0]'z0 = 35
    · left
      refine ⟨by rw [h35]; rfl, ?_⟩
      have : isSkip t.data.toList = true := by rw [hl]; simp [isSkip, h35]
      rw [if_pos this]
    · right
      have hs : ¬ isSkip t.data.toList = true := by rw [hl]; simp [isSkip, h35]
      refine ⟨?_, ?_⟩
      · rw [beq_eq_false_iff_ne]
        intro e
        exact h35 (UInt8.toNat_inj.1 (show (t[0]'z0).toNat = (35 : UInt8).toNat by have : (35 : UInt8).toNat = 35 := rfl; omega))
      · rw [if_neg hs]
        by_cases g1 : t.data.toList = port1W
        · left; rw [if_pos g1]; exact ⟨by rw [g1]; rfl, rfl⟩
        · right
          refine ⟨by rw [beq_eq_false_iff_ne]; exact g1, ?_⟩
          rw [if_neg g1]
          by_cases g2 : t.data.toList = port2W
          · left; rw [if_pos g2]; exact ⟨by rw [g2]; rfl, rfl⟩
          · right
            refine ⟨by rw [beq_eq_false_iff_ne]; exact g2, ?_⟩
            rw [if_neg g2]
            rfl
theorem bad_no {l : List UInt8} (h : cls l ≠ .bad) : isBad l = false := by unfold isBad; simpa using h
set_option maxHeartbeats 4000000 in
theorem rline_s0 (p q : Bool) (sv tv : Value) (ra sa : List (Int × Int)) (t : ByteArray) (w : World) (h1 : Rg w sv ra) (h2 : Rg w tv sa) (hs : t.size ≤ 5000) (n1 : ra.length ≤ 50000) (n2 : sa.length ≤ 50000) (hk : cls t.data.toList = .skip) (e0 : t.toList.isEmpty = true) : Calls Tryz.prog 12 #[polV p q sv tv, .string t] w (LineP p q ra sa t.data.toList w) := by
  have R1 := Lib.hid h1
  have R2 := Lib.hid h2
  obtain ⟨x1, c1, rfl, _⟩ := h1
  obtain ⟨x2, c2, rfl, _⟩ := h2
  have HZ := Lib.hid alloc_pol
  have HY := Lib.hid alloc_range
  have H := Mem.start w
  unfold polV
  go_enter Tryz.func12, Tryz.ntmps12
  go_wp2_with (first
    | go_skip | (refine wpList_mboxA rfl _ _ rfl H _ rfl ?_; clear H; intro _ w1 _ H) | (refine gate_load _ _ rfl ?_; first | (refine wpList_mloadA rfl _ _ rfl _ rfl 0 H _ rfl (by decide +kernel) (by kernel_rfl) ?_) | (refine wpList_mloadA rfl _ _ rfl _ rfl 1 H _ rfl (by decide +kernel) (by kernel_rfl) ?_) | (refine wpList_mload1 rfl _ _ rfl _ _ rfl 0 H _ (.int _ _) rfl rfl (by decide +kernel) ?_) | (refine wpList_mload1 rfl _ _ rfl _ _ rfl 1 H _ (.int _ _) rfl rfl (by decide +kernel) ?_) | (refine wpList_mload1 rfl _ _ rfl _ _ rfl 0 H _ (.bool _) rfl rfl (by decide +kernel) ?_) | (refine wpList_mload1 rfl _ _ rfl _ _ rfl 1 H _ (.bool _) rfl rfl (by decide +kernel) ?_) | (refine wpList_mload1 rfl _ _ rfl _ _ rfl 0 H _ (.pointer _) rfl rfl (by decide +kernel) ?_) | (refine wpList_mload1 rfl _ _ rfl _ _ rfl 1 H _ (.pointer _) rfl rfl (by decide +kernel) ?_) | (refine wpList_mload1 rfl _ _ rfl _ _ rfl 0 H _ (.string _) rfl rfl (by decide +kernel) ?_) | (refine wpList_mload1 rfl _ _ rfl _ _ rfl 1 H _ (.string _) rfl rfl (by decide +kernel) ?_) | (refine wpList_mload1 rfl _ _ rfl _ _ rfl 0 H _ (.slice _ _ _) rfl rfl (by decide +kernel) ?_) | (refine wpList_mload1 rfl _ _ rfl _ _ rfl 1 H _ (.slice _ _ _) rfl rfl (by decide +kernel) ?_)) | (refine gate_store _ _ _ rfl ?_; (first | (refine wpList_mstoreA rfl _ _ _ rfl rfl _ rfl 0 H _ _ rfl rfl (by kernel_rfl) (by kernel_rfl) (by kernel_rfl) ?_) | (refine wpList_mstoreA rfl _ _ _ rfl rfl _ rfl 1 H _ _ rfl rfl (by kernel_rfl) (by kernel_rfl) (by kernel_rfl) ?_) | (refine wpList_mstore rfl _ _ _ rfl rfl _ _ rfl 0 H _ _ rfl (.int _ _) rfl (by kernel_rfl) (of_decide_eq_true (by kernel_rfl)) (by kernel_rfl) rfl ?_) | (refine wpList_mstore rfl _ _ _ rfl rfl _ _ rfl 1 H _ _ rfl (.int _ _) rfl (by kernel_rfl) (of_decide_eq_true (by kernel_rfl)) (by kernel_rfl) rfl ?_) | (refine wpList_mstore rfl _ _ _ rfl rfl _ _ rfl 0 H _ _ rfl (.bool _) rfl (by kernel_rfl) (of_decide_eq_true (by kernel_rfl)) (by kernel_rfl) rfl ?_) | (refine wpList_mstore rfl _ _ _ rfl rfl _ _ rfl 1 H _ _ rfl (.bool _) rfl (by kernel_rfl) (of_decide_eq_true (by kernel_rfl)) (by kernel_rfl) rfl ?_) | (refine wpList_mstore rfl _ _ _ rfl rfl _ _ rfl 0 H _ _ rfl (.pointer _) rfl (by kernel_rfl) (of_decide_eq_true (by kernel_rfl)) (by kernel_rfl) rfl ?_) | (refine wpList_mstore rfl _ _ _ rfl rfl _ _ rfl 1 H _ _ rfl (.pointer _) rfl (by kernel_rfl) (of_decide_eq_true (by kernel_rfl)) (by kernel_rfl) rfl ?_) | (refine wpList_mstore rfl _ _ _ rfl rfl _ _ rfl 0 H _ _ rfl (.string _) rfl (by kernel_rfl) (of_decide_eq_true (by kernel_rfl)) (by kernel_rfl) rfl ?_) | (refine wpList_mstore rfl _ _ _ rfl rfl _ _ rfl 1 H _ _ rfl (.string _) rfl (by kernel_rfl) (of_decide_eq_true (by kernel_rfl)) (by kernel_rfl) rfl ?_) | (refine wpList_mstore rfl _ _ _ rfl rfl _ _ rfl 0 H _ _ rfl (.slice _ _ _) rfl (by kernel_rfl) (of_decide_eq_true (by kernel_rfl)) (by kernel_rfl) rfl ?_) | (refine wpList_mstore rfl _ _ _ rfl rfl _ _ rfl 1 H _ _ rfl (.slice _ _ _) rfl (by kernel_rfl) (of_decide_eq_true (by kernel_rfl)) (by kernel_rfl) rfl ?_)); clear H; intro w1 H; simp only [List.set_cons_zero, List.set_cons_succ] at H)
    | (refine wpList_mnew rfl _ rfl H _ HZ.out ?_; clear H; intro _ w1 _ H))
  refine ret_mem2 rfl _ rfl 0 H _ rfl (by kernel_rfl) (by kernel_rfl) rfl _ rfl ?_
  have hb := bad_no (l := t.data.toList) (by rw [hk]; intro e; cases e)
  exact ⟨p, q, _, _, ra, sa, by rw [hb]; rfl, R1.out.below H.toBelow, R2.out.below H.toBelow, H.toBelow, fun _ => ⟨by rw [any1, hk]; simp, by rw [any2, hk]; simp, by rw [rams1]; unfold ramOf; rw [hk]; simp, by rw [saves1]; unfold saveOf; rw [hk]; simp⟩⟩
set_option maxHeartbeats 4000000 in
theorem rline_s1 (p q : Bool) (sv tv : Value) (ra sa : List (Int × Int)) (t : ByteArray) (w : World) (h1 : Rg w sv ra) (h2 : Rg w tv sa) (hs : t.size ≤ 5000) (n1 : ra.length ≤ 50000) (n2 : sa.length ≤ 50000) (hk : cls t.data.toList = .skip) (z0 : 0 < t.size) (e0 : t.toList.isEmpty = false) (e1 : (((t[0]'z0).toNat : Int) == 35) = true) : Calls Tryz.prog 12 #[polV p q sv tv, .string t] w (LineP p q ra sa t.data.toList w) := by
  have R1 := Lib.hid h1
  have R2 := Lib.hid h2
  obtain ⟨x1, c1, rfl, _⟩ := h1
  obtain ⟨x2, c2, rfl, _⟩ := h2
  have HZ := Lib.hid alloc_pol
  have HY := Lib.hid alloc_range
  have H := Mem.start w
  unfold polV
  go_enter Tryz.func12, Tryz.ntmps12
  go_wp2_with (first
    | go_skip | (refine wpList_mboxA rfl _ _ rfl H _ rfl ?_; clear H; intro _ w1 _ H) | (refine gate_load _ _ rfl ?_; first | (refine wpList_mloadA rfl _ _ rfl _ rfl 0 H _ rfl (by decide +kernel) (by kernel_rfl) ?_) | (refine wpList_mloadA rfl _ _ rfl _ rfl 1 H _ rfl (by decide +kernel) (by kernel_rfl) ?_) | (refine wpList_mload1 rfl _ _ rfl _ _ rfl 0 H _ (.int _ _) rfl rfl (by decide +kernel) ?_) | (refine wpList_mload1 rfl _ _ rfl _ _ rfl 1 H _ (.int _ _) rfl rfl (by decide +kernel) ?_) | (refine wpList_mload1 rfl _ _ rfl _ _ rfl 0 H _ (.bool _) rfl rfl (by decide +kernel) ?_) | (refine wpList_mload1 rfl _ _ rfl _ _ rfl 1 H _ (.bool _) rfl rfl (by decide +kernel) ?_) | (refine wpList_mload1 rfl _ _ rfl _ _ rfl 0 H _ (.pointer _) rfl rfl (by decide +kernel) ?_) | (refine wpList_mload1 rfl _ _ rfl _ _ rfl 1 H _ (.pointer _) rfl rfl (by decide +kernel) ?_) | (refine wpList_mload1 rfl _ _ rfl _ _ rfl 0 H _ (.string _) rfl rfl (by decide +kernel) ?_) | (refine wpList_mload1 rfl _ _ rfl _ _ rfl 1 H _ (.string _) rfl rfl (by decide +kernel) ?_) | (refine wpList_mload1 rfl _ _ rfl _ _ rfl 0 H _ (.slice _ _ _) rfl rfl (by decide +kernel) ?_) | (refine wpList_mload1 rfl _ _ rfl _ _ rfl 1 H _ (.slice _ _ _) rfl rfl (by decide +kernel) ?_)) | (refine gate_store _ _ _ rfl ?_; (first | (refine wpList_mstoreA rfl _ _ _ rfl rfl _ rfl 0 H _ _ rfl rfl (by kernel_rfl) (by kernel_rfl) (by kernel_rfl) ?_) | (refine wpList_mstoreA rfl _ _ _ rfl rfl _ rfl 1 H _ _ rfl rfl (by kernel_rfl) (by kernel_rfl) (by kernel_rfl) ?_) | (refine wpList_mstore rfl _ _ _ rfl rfl _ _ rfl 0 H _ _ rfl (.int _ _) rfl (by kernel_rfl) (of_decide_eq_true (by kernel_rfl)) (by kernel_rfl) rfl ?_) | (refine wpList_mstore rfl _ _ _ rfl rfl _ _ rfl 1 H _ _ rfl (.int _ _) rfl (by kernel_rfl) (of_decide_eq_true (by kernel_rfl)) (by kernel_rfl) rfl ?_) | (refine wpList_mstore rfl _ _ _ rfl rfl _ _ rfl 0 H _ _ rfl (.bool _) rfl (by kernel_rfl) (of_decide_eq_true (by kernel_rfl)) (by kernel_rfl) rfl ?_) | (refine wpList_mstore rfl _ _ _ rfl rfl _ _ rfl 1 H _ _ rfl (.bool _) rfl (by kernel_rfl) (of_decide_eq_true (by kernel_rfl)) (by kernel_rfl) rfl ?_) | (refine wpList_mstore rfl _ _ _ rfl rfl _ _ rfl 0 H _ _ rfl (.pointer _) rfl (by kernel_rfl) (of_decide_eq_true (by kernel_rfl)) (by kernel_rfl) rfl ?_) | (refine wpList_mstore rfl _ _ _ rfl rfl _ _ rfl 1 H _ _ rfl (.pointer _) rfl (by kernel_rfl) (of_decide_eq_true (by kernel_rfl)) (by kernel_rfl) rfl ?_) | (refine wpList_mstore rfl _ _ _ rfl rfl _ _ rfl 0 H _ _ rfl (.string _) rfl (by kernel_rfl) (of_decide_eq_true (by kernel_rfl)) (by kernel_rfl) rfl ?_) | (refine wpList_mstore rfl _ _ _ rfl rfl _ _ rfl 1 H _ _ rfl (.string _) rfl (by kernel_rfl) (of_decide_eq_true (by kernel_rfl)) (by kernel_rfl) rfl ?_) | (refine wpList_mstore rfl _ _ _ rfl rfl _ _ rfl 0 H _ _ rfl (.slice _ _ _) rfl (by kernel_rfl) (of_decide_eq_true (by kernel_rfl)) (by kernel_rfl) rfl ?_) | (refine wpList_mstore rfl _ _ _ rfl rfl _ _ rfl 1 H _ _ rfl (.slice _ _ _) rfl (by kernel_rfl) (of_decide_eq_true (by kernel_rfl)) (by kernel_rfl) rfl ?_)); clear H; intro w1 H; simp only [List.set_cons_zero, List.set_cons_succ] at H)
    | (refine wpList_mnew rfl _ rfl H _ HZ.out ?_; clear H; intro _ w1 _ H))
  refine ret_mem2 rfl _ rfl 0 H _ rfl (by kernel_rfl) (by kernel_rfl) rfl _ rfl ?_
  have hb := bad_no (l := t.data.toList) (by rw [hk]; intro e; cases e)
  exact ⟨p, q, _, _, ra, sa, by rw [hb]; rfl, R1.out.below H.toBelow, R2.out.below H.toBelow, H.toBelow, fun _ => ⟨by rw [any1, hk]; simp, by rw [any2, hk]; simp, by rw [rams1]; unfold ramOf; rw [hk]; simp, by rw [saves1]; unfold saveOf; rw [hk]; simp⟩⟩
set_option maxHeartbeats 4000000 in
theorem rline_p1 (p q : Bool) (sv tv : Value) (ra sa : List (Int × Int)) (t : ByteArray) (w : World) (h1 : Rg w sv ra) (h2 : Rg w tv sa) (hs : t.size ≤ 5000) (n1 : ra.length ≤ 50000) (n2 : sa.length ≤ 50000) (hk : cls t.data.toList = .port1) (z0 : 0 < t.size) (e0 : t.toList.isEmpty = false) (e1 : (((t[0]'z0).toNat : Int) == 35) = false) (e2 : (t.toList == [112, 111, 114, 116, 32, 49]) = true) : Calls Tryz.prog 12 #[polV p q sv tv, .string t] w (LineP p q ra sa t.data.toList w) := by
  have R1 := Lib.hid h1
  have R2 := Lib.hid h2
  obtain ⟨x1, c1, rfl, _⟩ := h1
  obtain ⟨x2, c2, rfl, _⟩ := h2
  have HZ := Lib.hid alloc_pol
  have HY := Lib.hid alloc_range
  have H := Mem.start w
  unfold polV
  go_enter Tryz.func12, Tryz.ntmps12
  go_wp2_with (first
    | go_skip | (refine wpList_mboxA rfl _ _ rfl H _ rfl ?_; clear H; intro _ w1 _ H) | (refine gate_load _ _ rfl ?_; first | (refine wpList_mloadA rfl _ _ rfl _ rfl 0 H _ rfl (by decide +kernel) (by kernel_rfl) ?_) | (refine wpList_mloadA rfl _ _ rfl _ rfl 1 H _ rfl (by decide +kernel) (by kernel_rfl) ?_) | (refine wpList_mload1 rfl _ _ rfl _ _ rfl 0 H _ (.int _ _) rfl rfl (by decide +kernel) ?_) | (refine wpList_mload1 rfl _ _ rfl _ _ rfl 1 H _ (.int _ _) rfl rfl (by decide +kernel) ?_) | (refine wpList_mload1 rfl _ _ rfl _ _ rfl 0 H _ (.bool _) rfl rfl (by decide +kernel) ?_) | (refine wpList_mload1 rfl _ _ rfl _ _ rfl 1 H _ (.bool _) rfl rfl (by decide +kernel) ?_) | (refine wpList_mload1 rfl _ _ rfl _ _ rfl 0 H _ (.pointer _) rfl rfl (by decide +kernel) ?_) | (refine wpList_mload1 rfl _ _ rfl _ _ rfl 1 H _ (.pointer _) rfl rfl (by decide +kernel) ?_) | (refine wpList_mload1 rfl _ _ rfl _ _ rfl 0 H _ (.string _) rfl rfl (by decide +kernel) ?_) | (refine wpList_mload1 rfl _ _ rfl _ _ rfl 1 H _ (.string _) rfl rfl (by decide +kernel) ?_) | (refine wpList_mload1 rfl _ _ rfl _ _ rfl 0 H _ (.slice _ _ _) rfl rfl (by decide +kernel) ?_) | (refine wpList_mload1 rfl _ _ rfl _ _ rfl 1 H _ (.slice _ _ _) rfl rfl (by decide +kernel) ?_)) | (refine gate_store _ _ _ rfl ?_; (first | (refine wpList_mstoreA rfl _ _ _ rfl rfl _ rfl 0 H _ _ rfl rfl (by kernel_rfl) (by kernel_rfl) (by kernel_rfl) ?_) | (refine wpList_mstoreA rfl _ _ _ rfl rfl _ rfl 1 H _ _ rfl rfl (by kernel_rfl) (by kernel_rfl) (by kernel_rfl) ?_) | (refine wpList_mstore rfl _ _ _ rfl rfl _ _ rfl 0 H _ _ rfl (.int _ _) rfl (by kernel_rfl) (of_decide_eq_true (by kernel_rfl)) (by kernel_rfl) rfl ?_) | (refine wpList_mstore rfl _ _ _ rfl rfl _ _ rfl 1 H _ _ rfl (.int _ _) rfl (by kernel_rfl) (of_decide_eq_true (by kernel_rfl)) (by kernel_rfl) rfl ?_) | (refine wpList_mstore rfl _ _ _ rfl rfl _ _ rfl 0 H _ _ rfl (.bool _) rfl (by kernel_rfl) (of_decide_eq_true (by kernel_rfl)) (by kernel_rfl) rfl ?_) | (refine wpList_mstore rfl _ _ _ rfl rfl _ _ rfl 1 H _ _ rfl (.bool _) rfl (by kernel_rfl) (of_decide_eq_true (by kernel_rfl)) (by kernel_rfl) rfl ?_) | (refine wpList_mstore rfl _ _ _ rfl rfl _ _ rfl 0 H _ _ rfl (.pointer _) rfl (by kernel_rfl) (of_decide_eq_true (by kernel_rfl)) (by kernel_rfl) rfl ?_) | (refine wpList_mstore rfl _ _ _ rfl rfl _ _ rfl 1 H _ _ rfl (.pointer _) rfl (by kernel_rfl) (of_decide_eq_true (by kernel_rfl)) (by kernel_rfl) rfl ?_) | (refine wpList_mstore rfl _ _ _ rfl rfl _ _ rfl 0 H _ _ rfl (.string _) rfl (by kernel_rfl) (of_decide_eq_true (by kernel_rfl)) (by kernel_rfl) rfl ?_) | (refine wpList_mstore rfl _ _ _ rfl rfl _ _ rfl 1 H _ _ rfl (.string _) rfl (by kernel_rfl) (of_decide_eq_true (by kernel_rfl)) (by kernel_rfl) rfl ?_) | (refine wpList_mstore rfl _ _ _ rfl rfl _ _ rfl 0 H _ _ rfl (.slice _ _ _) rfl (by kernel_rfl) (of_decide_eq_true (by kernel_rfl)) (by kernel_rfl) rfl ?_) | (refine wpList_mstore rfl _ _ _ rfl rfl _ _ rfl 1 H _ _ rfl (.slice _ _ _) rfl (by kernel_rfl) (of_decide_eq_true (by kernel_rfl)) (by kernel_rfl) rfl ?_)); clear H; intro w1 H; simp only [List.set_cons_zero, List.set_cons_succ] at H)
    | (refine wpList_mnew rfl _ rfl H _ HZ.out ?_; clear H; intro _ w1 _ H))
  refine ret_mem2 rfl _ rfl 0 H _ rfl (by kernel_rfl) (by kernel_rfl) rfl _ rfl ?_
  have hb := bad_no (l := t.data.toList) (by rw [hk]; intro e; cases e)
  exact ⟨true, q, _, _, ra, sa, by rw [hb]; rfl, R1.out.below H.toBelow, R2.out.below H.toBelow, H.toBelow, fun _ => ⟨by rw [any1, hk]; simp, by rw [any2, hk]; simp, by rw [rams1]; unfold ramOf; rw [hk]; simp, by rw [saves1]; unfold saveOf; rw [hk]; simp⟩⟩
set_option maxHeartbeats 4000000 in
theorem rline_p2 (p q : Bool) (sv tv : Value) (ra sa : List (Int × Int)) (t : ByteArray) (w : World) (h1 : Rg w sv ra) (h2 : Rg w tv sa) (hs : t.size ≤ 5000) (n1 : ra.length ≤ 50000) (n2 : sa.length ≤ 50000) (hk : cls t.data.toList = .port2) (z0 : 0 < t.size) (e0 : t.toList.isEmpty = false) (e1 : (((t[0]'z0).toNat : Int) == 35) = false) (e2 : (t.toList == [112, 111, 114, 116, 32, 49]) = false) (e3 : (t.toList == [112, 111, 114, 116, 32, 50]) = true) : Calls Tryz.prog 12 #[polV p q sv tv, .string t] w (LineP p q ra sa t.data.toList w) := by
  have R1 := Lib.hid h1
  have R2 := Lib.hid h2
  obtain ⟨x1, c1, rfl, _⟩ := h1
  obtain ⟨x2, c2, rfl, _⟩ := h2
  have HZ := Lib.hid alloc_pol
  have HY := Lib.hid alloc_range
  have H := Mem.start w
  unfold polV
  go_enter Tryz.func12, Tryz.ntmps12
  go_wp2_with (first
    | go_skip | (refine wpList_mboxA rfl _ _ rfl H _ rfl ?_; clear H; intro _ w1 _ H) | (refine gate_load _ _ rfl ?_; first | (refine wpList_mloadA rfl _ _ rfl _ rfl 0 H _ rfl (by decide +kernel) (by kernel_rfl) ?_) | (refine wpList_mloadA rfl _ _ rfl _ rfl 1 H _ rfl (by decide +kernel) (by kernel_rfl) ?_) | (refine wpList_mload1 rfl _ _ rfl _ _ rfl 0 H _ (.int _ _) rfl rfl (by decide +kernel) ?_) | (refine wpList_mload1 rfl _ _ rfl _ _ rfl 1 H _ (.int _ _) rfl rfl (by decide +kernel) ?_) | (refine wpList_mload1 rfl _ _ rfl _ _ rfl 0 H _ (.bool _) rfl rfl (by decide +kernel) ?_) | (refine wpList_mload1 rfl _ _ rfl _ _ rfl 1 H _ (.bool _) rfl rfl (by decide +kernel) ?_) | (refine wpList_mload1 rfl _ _ rfl _ _ rfl 0 H _ (.pointer _) rfl rfl (by decide +kernel) ?_) | (refine wpList_mload1 rfl _ _ rfl _ _ rfl 1 H _ (.pointer _) rfl rfl (by decide +kernel) ?_) | (refine wpList_mload1 rfl _ _ rfl _ _ rfl 0 H _ (.string _) rfl rfl (by decide +kernel) ?_) | (refine wpList_mload1 rfl _ _ rfl _ _ rfl 1 H _ (.string _) rfl rfl (by decide +kernel) ?_) | (refine wpList_mload1 rfl _ _ rfl _ _ rfl 0 H _ (.slice _ _ _) rfl rfl (by decide +kernel) ?_) | (refine wpList_mload1 rfl _ _ rfl _ _ rfl 1 H _ (.slice _ _ _) rfl rfl (by decide +kernel) ?_)) | (refine gate_store _ _ _ rfl ?_; (first | (refine wpList_mstoreA rfl _ _ _ rfl rfl _ rfl 0 H _ _ rfl rfl (by kernel_rfl) (by kernel_rfl) (by kernel_rfl) ?_) | (refine wpList_mstoreA rfl _ _ _ rfl rfl _ rfl 1 H _ _ rfl rfl (by kernel_rfl) (by kernel_rfl) (by kernel_rfl) ?_) | (refine wpList_mstore rfl _ _ _ rfl rfl _ _ rfl 0 H _ _ rfl (.int _ _) rfl (by kernel_rfl) (of_decide_eq_true (by kernel_rfl)) (by kernel_rfl) rfl ?_) | (refine wpList_mstore rfl _ _ _ rfl rfl _ _ rfl 1 H _ _ rfl (.int _ _) rfl (by kernel_rfl) (of_decide_eq_true (by kernel_rfl)) (by kernel_rfl) rfl ?_) | (refine wpList_mstore rfl _ _ _ rfl rfl _ _ rfl 0 H _ _ rfl (.bool _) rfl (by kernel_rfl) (of_decide_eq_true (by kernel_rfl)) (by kernel_rfl) rfl ?_) | (refine wpList_mstore rfl _ _ _ rfl rfl _ _ rfl 1 H _ _ rfl (.bool _) rfl (by kernel_rfl) (of_decide_eq_true (by kernel_rfl)) (by kernel_rfl) rfl ?_) | (refine wpList_mstore rfl _ _ _ rfl rfl _ _ rfl 0 H _ _ rfl (.pointer _) rfl (by kernel_rfl) (of_decide_eq_true (by kernel_rfl)) (by kernel_rfl) rfl ?_) | (refine wpList_mstore rfl _ _ _ rfl rfl _ _ rfl 1 H _ _ rfl (.pointer _) rfl (by kernel_rfl) (of_decide_eq_true (by kernel_rfl)) (by kernel_rfl) rfl ?_) | (refine wpList_mstore rfl _ _ _ rfl rfl _ _ rfl 0 H _ _ rfl (.string _) rfl (by kernel_rfl) (of_decide_eq_true (by kernel_rfl)) (by kernel_rfl) rfl ?_) | (refine wpList_mstore rfl _ _ _ rfl rfl _ _ rfl 1 H _ _ rfl (.string _) rfl (by kernel_rfl) (of_decide_eq_true (by kernel_rfl)) (by kernel_rfl) rfl ?_) | (refine wpList_mstore rfl _ _ _ rfl rfl _ _ rfl 0 H _ _ rfl (.slice _ _ _) rfl (by kernel_rfl) (of_decide_eq_true (by kernel_rfl)) (by kernel_rfl) rfl ?_) | (refine wpList_mstore rfl _ _ _ rfl rfl _ _ rfl 1 H _ _ rfl (.slice _ _ _) rfl (by kernel_rfl) (of_decide_eq_true (by kernel_rfl)) (by kernel_rfl) rfl ?_)); clear H; intro w1 H; simp only [List.set_cons_zero, List.set_cons_succ] at H)
    | (refine wpList_mnew rfl _ rfl H _ HZ.out ?_; clear H; intro _ w1 _ H))
  refine ret_mem2 rfl _ rfl 0 H _ rfl (by kernel_rfl) (by kernel_rfl) rfl _ rfl ?_
  have hb := bad_no (l := t.data.toList) (by rw [hk]; intro e; cases e)
  exact ⟨p, true, _, _, ra, sa, by rw [hb]; rfl, R1.out.below H.toBelow, R2.out.below H.toBelow, H.toBelow, fun _ => ⟨by rw [any1, hk]; simp, by rw [any2, hk]; simp, by rw [rams1]; unfold ramOf; rw [hk]; simp, by rw [saves1]; unfold saveOf; rw [hk]; simp⟩⟩
set_option maxHeartbeats 4000000 in
theorem rline_no (p q : Bool) (sv tv : Value) (ra sa : List (Int × Int)) (t : ByteArray) (w : World) (h1 : Rg w sv ra) (h2 : Rg w tv sa) (hs : t.size ≤ 5000) (n1 : ra.length ≤ 50000) (n2 : sa.length ≤ 50000) (hk : cls t.data.toList = .bad) (z0 : 0 < t.size) (e0 : t.toList.isEmpty = false) (e1 : (((t[0]'z0).toNat : Int) == 35) = false) (e2 : (t.toList == [112, 111, 114, 116, 32, 49]) = false) (e3 : (t.toList == [112, 111, 114, 116, 32, 50]) = false) (k1 : Lib.hasPrefix t.data.toList (⟨#[114, 97, 109, 32]⟩ : ByteArray).data.toList = false) (k2 : Lib.hasPrefix t.data.toList (⟨#[115, 97, 118, 101, 32]⟩ : ByteArray).data.toList = false)  : Calls Tryz.prog 12 #[polV p q sv tv, .string t] w (LineP p q ra sa t.data.toList w) := by
  have R1 := Lib.hid h1
  have R2 := Lib.hid h2
  obtain ⟨x1, c1, rfl, _⟩ := h1
  obtain ⟨x2, c2, rfl, _⟩ := h2
  have HZ := Lib.hid alloc_pol
  have HY := Lib.hid alloc_range
  have H := Mem.start w
  unfold polV
  have B1 := Lib.hid (fun wr => (by have := rbegins_ct t ⟨#[114, 97, 109, 32]⟩ wr hs (by decide); rwa [k1] at this : Calls Tryz.prog 29 #[.string t, .string ⟨#[114, 97, 109, 32]⟩] wr fun e w' => e = .returned (.bool false) ∧ Below wr.heap.size wr w'))
  have B2 := Lib.hid (fun wr => (by have := rbegins_ct t ⟨#[115, 97, 118, 101, 32]⟩ wr hs (by decide); rwa [k2] at this : Calls Tryz.prog 29 #[.string t, .string ⟨#[115, 97, 118, 101, 32]⟩] wr fun e w' => e = .returned (.bool false) ∧ Below wr.heap.size wr w'))
  go_enter Tryz.func12, Tryz.ntmps12
  go_wp2_with (first
    | (go_at_call 29; first
        | (with_reducible refine (B1.out _).mono ?_; rintro e w2 ⟨rfl, hB⟩; replace H := H.next hB; clear hB)
        | (with_reducible refine (B2.out _).mono ?_; rintro e w2 ⟨rfl, hB⟩; replace H := H.next hB; clear hB))
    | go_skip | (refine wpList_mboxA rfl _ _ rfl H _ rfl ?_; clear H; intro _ w1 _ H) | (refine gate_load _ _ rfl ?_; first | (refine wpList_mloadA rfl _ _ rfl _ rfl 0 H _ rfl (by decide +kernel) (by kernel_rfl) ?_) | (refine wpList_mloadA rfl _ _ rfl _ rfl 1 H _ rfl (by decide +kernel) (by kernel_rfl) ?_) | (refine wpList_mload1 rfl _ _ rfl _ _ rfl 0 H _ (.int _ _) rfl rfl (by decide +kernel) ?_) | (refine wpList_mload1 rfl _ _ rfl _ _ rfl 1 H _ (.int _ _) rfl rfl (by decide +kernel) ?_) | (refine wpList_mload1 rfl _ _ rfl _ _ rfl 0 H _ (.bool _) rfl rfl (by decide +kernel) ?_) | (refine wpList_mload1 rfl _ _ rfl _ _ rfl 1 H _ (.bool _) rfl rfl (by decide +kernel) ?_) | (refine wpList_mload1 rfl _ _ rfl _ _ rfl 0 H _ (.pointer _) rfl rfl (by decide +kernel) ?_) | (refine wpList_mload1 rfl _ _ rfl _ _ rfl 1 H _ (.pointer _) rfl rfl (by decide +kernel) ?_) | (refine wpList_mload1 rfl _ _ rfl _ _ rfl 0 H _ (.string _) rfl rfl (by decide +kernel) ?_) | (refine wpList_mload1 rfl _ _ rfl _ _ rfl 1 H _ (.string _) rfl rfl (by decide +kernel) ?_) | (refine wpList_mload1 rfl _ _ rfl _ _ rfl 0 H _ (.slice _ _ _) rfl rfl (by decide +kernel) ?_) | (refine wpList_mload1 rfl _ _ rfl _ _ rfl 1 H _ (.slice _ _ _) rfl rfl (by decide +kernel) ?_)) | (refine gate_store _ _ _ rfl ?_; (first | (refine wpList_mstoreA rfl _ _ _ rfl rfl _ rfl 0 H _ _ rfl rfl (by kernel_rfl) (by kernel_rfl) (by kernel_rfl) ?_) | (refine wpList_mstoreA rfl _ _ _ rfl rfl _ rfl 1 H _ _ rfl rfl (by kernel_rfl) (by kernel_rfl) (by kernel_rfl) ?_) | (refine wpList_mstore rfl _ _ _ rfl rfl _ _ rfl 0 H _ _ rfl (.int _ _) rfl (by kernel_rfl) (of_decide_eq_true (by kernel_rfl)) (by kernel_rfl) rfl ?_) | (refine wpList_mstore rfl _ _ _ rfl rfl _ _ rfl 1 H _ _ rfl (.int _ _) rfl (by kernel_rfl) (of_decide_eq_true (by kernel_rfl)) (by kernel_rfl) rfl ?_) | (refine wpList_mstore rfl _ _ _ rfl rfl _ _ rfl 0 H _ _ rfl (.bool _) rfl (by kernel_rfl) (of_decide_eq_true (by kernel_rfl)) (by kernel_rfl) rfl ?_) | (refine wpList_mstore rfl _ _ _ rfl rfl _ _ rfl 1 H _ _ rfl (.bool _) rfl (by kernel_rfl) (of_decide_eq_true (by kernel_rfl)) (by kernel_rfl) rfl ?_) | (refine wpList_mstore rfl _ _ _ rfl rfl _ _ rfl 0 H _ _ rfl (.pointer _) rfl (by kernel_rfl) (of_decide_eq_true (by kernel_rfl)) (by kernel_rfl) rfl ?_) | (refine wpList_mstore rfl _ _ _ rfl rfl _ _ rfl 1 H _ _ rfl (.pointer _) rfl (by kernel_rfl) (of_decide_eq_true (by kernel_rfl)) (by kernel_rfl) rfl ?_) | (refine wpList_mstore rfl _ _ _ rfl rfl _ _ rfl 0 H _ _ rfl (.string _) rfl (by kernel_rfl) (of_decide_eq_true (by kernel_rfl)) (by kernel_rfl) rfl ?_) | (refine wpList_mstore rfl _ _ _ rfl rfl _ _ rfl 1 H _ _ rfl (.string _) rfl (by kernel_rfl) (of_decide_eq_true (by kernel_rfl)) (by kernel_rfl) rfl ?_) | (refine wpList_mstore rfl _ _ _ rfl rfl _ _ rfl 0 H _ _ rfl (.slice _ _ _) rfl (by kernel_rfl) (of_decide_eq_true (by kernel_rfl)) (by kernel_rfl) rfl ?_) | (refine wpList_mstore rfl _ _ _ rfl rfl _ _ rfl 1 H _ _ rfl (.slice _ _ _) rfl (by kernel_rfl) (of_decide_eq_true (by kernel_rfl)) (by kernel_rfl) rfl ?_)); clear H; intro w1 H; simp only [List.set_cons_zero, List.set_cons_succ] at H)
    | (refine wpList_mnew rfl _ rfl H _ HZ.out ?_; clear H; intro _ w1 _ H))
  refine ret_mem2 rfl _ rfl 0 H _ rfl (by kernel_rfl) (by kernel_rfl) rfl _ rfl ?_
  have hb : isBad t.data.toList = true := by unfold isBad; rw [hk]; rfl
  exact ⟨p, q, _, _, ra, sa, by rw [hb]; rfl, R1.out.below H.toBelow, R2.out.below H.toBelow, H.toBelow, fun e => by rw [hb] at e; cases e⟩
theorem drop_ex (t : ByteArray) (k : Nat) : (t.extract k t.size).data.toList = t.data.toList.drop k := by
  rw [ex_list, List.take_of_length_le (by rw [Array.length_toList]; exact Nat.le_refl _)]
theorem cls_ram' {l : List UInt8} (k1 : Lib.hasPrefix l ramW = true) (hc : cls l = match readL ramW 2048 l with
    | some r => .ram r
    | none => match readL saveW 8192 l with
      | some r => .save r
      | none => .bad) : cls l = match spanL 2048 (l.drop 4) with | some r => .ram r | none => .bad := by
  have h1 : readL ramW 2048 l = spanL 2048 (l.drop 4) := by
    unfold readL Lib.trimPrefix
    rw [if_pos k1, if_pos k1]; rfl
  have h2 : readL saveW 8192 l = none := by
    unfold readL
    rw [if_neg]
    intro h
    unfold Lib.hasPrefix at k1 h
    obtain ⟨a, ha⟩ := List.isPrefixOf_iff_prefix.1 k1
    obtain ⟨b, hb⟩ := List.isPrefixOf_iff_prefix.1 h
    rw [← ha] at hb
    simp [ramW, saveW] at hb
  rw [hc, h1, h2]
  try (cases spanL 2048 (l.drop 4) <;> rfl)
theorem cls_save' {l : List UInt8} (k1 : Lib.hasPrefix l ramW = false) (k2 : Lib.hasPrefix l saveW = true) (hc : cls l = match readL ramW 2048 l with
    | some r => .ram r
    | none => match readL saveW 8192 l with
      | some r => .save r
      | none => .bad) : cls l = match spanL 8192 (l.drop 5) with | some r => .save r | none => .bad := by
  have h1 : readL ramW 2048 l = none := by
    unfold readL
    rw [if_neg (by rw [k1]; decide)]
  have h2 : readL saveW 8192 l = spanL 8192 (l.drop 5) := by
    unfold readL Lib.trimPrefix
    rw [if_pos k2, if_pos k2]; rfl
  rw [hc, h1, h2]
theorem cls_none' {l : List UInt8} (k1 : Lib.hasPrefix l ramW = false) (k2 : Lib.hasPrefix l saveW = false) (hc : cls l = match readL ramW 2048 l with
    | some r => .ram r
    | none => match readL saveW 8192 l with
      | some r => .save r
      | none => .bad) : cls l = .bad := by
  have h1 : readL ramW 2048 l = none := by
    unfold readL
    rw [if_neg (by rw [k1]; decide)]
  have h2 : readL saveW 8192 l = none := by
    unfold readL
    rw [if_neg (by rw [k2]; decide)]
  rw [hc, h1, h2]
set_option maxHeartbeats 4000000 in
theorem rline_rs (p q : Bool) (sv tv : Value) (ra sa : List (Int × Int)) (t : ByteArray) (w : World) (h1 : Rg w sv ra) (h2 : Rg w tv sa) (hs : t.size ≤ 5000) (n1 : ra.length ≤ 50000) (n2 : sa.length ≤ 50000) (r0 : Int × Int) (hO : spanL 2048 (t.data.toList.drop 4) = some r0) (hk : cls t.data.toList = .ram r0) (z0 : 0 < t.size) (e0 : t.toList.isEmpty = false) (e1 : (((t[0]'z0).toNat : Int) == 35) = false) (e2 : (t.toList == [112, 111, 114, 116, 32, 49]) = false) (e3 : (t.toList == [112, 111, 114, 116, 32, 50]) = false) (k1 : Lib.hasPrefix t.data.toList (⟨#[114, 97, 109, 32]⟩ : ByteArray).data.toList = true)  : Calls Tryz.prog 12 #[polV p q sv tv, .string t] w (LineP p q ra sa t.data.toList w) := by
  have R1 := Lib.hid h1
  have R2 := Lib.hid h2
  obtain ⟨x1, c1, rfl, _⟩ := h1
  obtain ⟨x2, c2, rfl, _⟩ := h2
  have HZ := Lib.hid alloc_pol
  have HY := Lib.hid alloc_range
  have H := Mem.start w
  have B1 := Lib.hid (fun wr => (by have := rbegins_ct t ⟨#[114, 97, 109, 32]⟩ wr hs (by decide); rwa [k1] at this : Calls Tryz.prog 29 #[.string t, .string ⟨#[114, 97, 109, 32]⟩] wr fun e w' => e = .returned (.bool true) ∧ Below wr.heap.size wr w'))
  have QS := Lib.hid (fun wr => (by have := rspan_ct (t.extract 4 t.size) 2048 wr (by rw [ByteArray.size_extract]; omega) (by decide) (by decide); rwa [drop_ex, hO] at this : Calls Tryz.prog 30 #[.string (t.extract 4 t.size), .int .i64 2048] wr (SpanP (some r0) wr)))
  obtain ⟨i0, hi, _, _, _⟩ := info_parts info_range
  unfold polV
  have zk : 4 ≤ t.size := by
    have hlen : t.data.toList.length = t.size := by rw [Array.length_toList]; rfl
    unfold Lib.hasPrefix at k1
    have := (List.isPrefixOf_iff_prefix.1 k1).length_le
    rw [hlen] at this
    exact this
  go_enter Tryz.func12, Tryz.ntmps12
  go_wp2_with (first
    | (refine wpList_mboxA rfl _ _ rfl H #[.bool p, .bool q, .slice x1 ra.length c1, .slice x2 sa.length c2] rfl ?_; clear H; intro RP w1 _ H)
    | (go_at_call 29; first
        | (with_reducible refine (B1.out _).mono ?_; rintro e w2 ⟨rfl, hB⟩; replace H := H.next hB; clear hB))
    | (go_at_call 30; (with_reducible refine (QS.out _).mono ?_); rintro e w2 ⟨r, rfl, hr, hB⟩; replace H := H.next hB; clear hB; have hrr := hr _ rfl; subst hrr; clear hr)
    | go_skip | (refine wpList_mboxA rfl _ _ rfl H _ rfl ?_; clear H; intro _ w1 _ H) | (refine gate_load _ _ rfl ?_; first | (refine wpList_mloadA rfl _ _ rfl _ rfl 0 H _ rfl (by decide +kernel) (by kernel_rfl) ?_) | (refine wpList_mloadA rfl _ _ rfl _ rfl 1 H _ rfl (by decide +kernel) (by kernel_rfl) ?_) | (refine wpList_mloadA rfl _ _ rfl _ rfl 2 H _ rfl (by decide +kernel) (by kernel_rfl) ?_) | (refine wpList_mload1 rfl _ _ rfl _ _ rfl 0 H _ (.int _ _) rfl rfl (by decide +kernel) ?_) | (refine wpList_mload1 rfl _ _ rfl _ _ rfl 1 H _ (.int _ _) rfl rfl (by decide +kernel) ?_) | (refine wpList_mload1 rfl _ _ rfl _ _ rfl 2 H _ (.int _ _) rfl rfl (by decide +kernel) ?_) | (refine wpList_mload1 rfl _ _ rfl _ _ rfl 0 H _ (.bool _) rfl rfl (by decide +kernel) ?_) | (refine wpList_mload1 rfl _ _ rfl _ _ rfl 1 H _ (.bool _) rfl rfl (by decide +kernel) ?_) | (refine wpList_mload1 rfl _ _ rfl _ _ rfl 2 H _ (.bool _) rfl rfl (by decide +kernel) ?_) | (refine wpList_mload1 rfl _ _ rfl _ _ rfl 0 H _ (.pointer _) rfl rfl (by decide +kernel) ?_) | (refine wpList_mload1 rfl _ _ rfl _ _ rfl 1 H _ (.pointer _) rfl rfl (by decide +kernel) ?_) | (refine wpList_mload1 rfl _ _ rfl _ _ rfl 2 H _ (.pointer _) rfl rfl (by decide +kernel) ?_) | (refine wpList_mload1 rfl _ _ rfl _ _ rfl 0 H _ (.string _) rfl rfl (by decide +kernel) ?_) | (refine wpList_mload1 rfl _ _ rfl _ _ rfl 1 H _ (.string _) rfl rfl (by decide +kernel) ?_) | (refine wpList_mload1 rfl _ _ rfl _ _ rfl 2 H _ (.string _) rfl rfl (by decide +kernel) ?_) | (refine wpList_mload1 rfl _ _ rfl _ _ rfl 0 H _ (.slice _ _ _) rfl rfl (by decide +kernel) ?_) | (refine wpList_mload1 rfl _ _ rfl _ _ rfl 1 H _ (.slice _ _ _) rfl rfl (by decide +kernel) ?_) | (refine wpList_mload1 rfl _ _ rfl _ _ rfl 2 H _ (.slice _ _ _) rfl rfl (by decide +kernel) ?_)) | (refine gate_store _ _ _ rfl ?_; (first | (refine wpList_mstoreA rfl _ _ _ rfl rfl _ rfl 0 H _ _ rfl rfl (by kernel_rfl) (by kernel_rfl) (by kernel_rfl) ?_) | (refine wpList_mstoreA rfl _ _ _ rfl rfl _ rfl 1 H _ _ rfl rfl (by kernel_rfl) (by kernel_rfl) (by kernel_rfl) ?_) | (refine wpList_mstoreA rfl _ _ _ rfl rfl _ rfl 2 H _ _ rfl rfl (by kernel_rfl) (by kernel_rfl) (by kernel_rfl) ?_) | (refine wpList_mstore rfl _ _ _ rfl rfl _ _ rfl 0 H _ _ rfl (.int _ _) rfl (by kernel_rfl) (of_decide_eq_true (by kernel_rfl)) (by kernel_rfl) rfl ?_) | (refine wpList_mstore rfl _ _ _ rfl rfl _ _ rfl 1 H _ _ rfl (.int _ _) rfl (by kernel_rfl) (of_decide_eq_true (by kernel_rfl)) (by kernel_rfl) rfl ?_) | (refine wpList_mstore rfl _ _ _ rfl rfl _ _ rfl 2 H _ _ rfl (.int _ _) rfl (by kernel_rfl) (of_decide_eq_true (by kernel_rfl)) (by kernel_rfl) rfl ?_) | (refine wpList_mstore rfl _ _ _ rfl rfl _ _ rfl 0 H _ _ rfl (.bool _) rfl (by kernel_rfl) (of_decide_eq_true (by kernel_rfl)) (by kernel_rfl) rfl ?_) | (refine wpList_mstore rfl _ _ _ rfl rfl _ _ rfl 1 H _ _ rfl (.bool _) rfl (by kernel_rfl) (of_decide_eq_true (by kernel_rfl)) (by kernel_rfl) rfl ?_) | (refine wpList_mstore rfl _ _ _ rfl rfl _ _ rfl 2 H _ _ rfl (.bool _) rfl (by kernel_rfl) (of_decide_eq_true (by kernel_rfl)) (by kernel_rfl) rfl ?_) | (refine wpList_mstore rfl _ _ _ rfl rfl _ _ rfl 0 H _ _ rfl (.pointer _) rfl (by kernel_rfl) (of_decide_eq_true (by kernel_rfl)) (by kernel_rfl) rfl ?_) | (refine wpList_mstore rfl _ _ _ rfl rfl _ _ rfl 1 H _ _ rfl (.pointer _) rfl (by kernel_rfl) (of_decide_eq_true (by kernel_rfl)) (by kernel_rfl) rfl ?_) | (refine wpList_mstore rfl _ _ _ rfl rfl _ _ rfl 2 H _ _ rfl (.pointer _) rfl (by kernel_rfl) (of_decide_eq_true (by kernel_rfl)) (by kernel_rfl) rfl ?_) | (refine wpList_mstore rfl _ _ _ rfl rfl _ _ rfl 0 H _ _ rfl (.string _) rfl (by kernel_rfl) (of_decide_eq_true (by kernel_rfl)) (by kernel_rfl) rfl ?_) | (refine wpList_mstore rfl _ _ _ rfl rfl _ _ rfl 1 H _ _ rfl (.string _) rfl (by kernel_rfl) (of_decide_eq_true (by kernel_rfl)) (by kernel_rfl) rfl ?_) | (refine wpList_mstore rfl _ _ _ rfl rfl _ _ rfl 2 H _ _ rfl (.string _) rfl (by kernel_rfl) (of_decide_eq_true (by kernel_rfl)) (by kernel_rfl) rfl ?_) | (refine wpList_mstore rfl _ _ _ rfl rfl _ _ rfl 0 H _ _ rfl (.slice _ _ _) rfl (by kernel_rfl) (of_decide_eq_true (by kernel_rfl)) (by kernel_rfl) rfl ?_) | (refine wpList_mstore rfl _ _ _ rfl rfl _ _ rfl 1 H _ _ rfl (.slice _ _ _) rfl (by kernel_rfl) (of_decide_eq_true (by kernel_rfl)) (by kernel_rfl) rfl ?_) | (refine wpList_mstore rfl _ _ _ rfl rfl _ _ rfl 2 H _ _ rfl (.slice _ _ _) rfl (by kernel_rfl) (of_decide_eq_true (by kernel_rfl)) (by kernel_rfl) rfl ?_)); clear H; intro w1 H; simp only [List.set_cons_zero, List.set_cons_succ] at H)
    | (refine wpList_mnew rfl _ rfl H _ HZ.out ?_; clear H; intro R4 w1 _ H)
    | (refine wpList_mnew rfl _ rfl H _ HY.out ?_; clear H; intro RV w1 _ H))
  (try simp only [Act.put, List.setIfInBounds_toArray, List.set_cons_succ, List.set_cons_zero])
  replace H : Mem w.heap.size [] w w1 [(RV, #[.int .i64 r.1, .int .i64 r.2]), (R4, polZ), (RP, #[.bool p, .bool q, .slice x1 ra.length c1, .slice x2 sa.length c2])] := H
  have R1 := Lib.hid (R1.out.below H.toBelow)
  have R2 := Lib.hid (R2.out.below H.toBelow)
  refine wp_region_settledG ⟨.bool false, .bool false, .bool false, .bool false⟩ (by kernel_rfl) (by kernel_rfl) (fun b : LB => [(some 36, b.r0), (some 37, .pointer (some ⟨RP, 2, none⟩)), (some 38, .slice x1 ra.length c1), (some 39, b.r1), (some 40, .agg #[.int .i64 r.1, .int .i64 r.2]), (some 41, b.r5), (some 42, b.r6), (some 43, .pointer (some ⟨RP, 2, none⟩)), (none, undef)]) (LW w.heap.size w w1 (fun v => [(RV, #[.int .i64 r.1, .int .i64 r.2]), (R4, polZ), (RP, #[.bool p, .bool q, v, .slice x2 sa.length c2])]) ra r (.slice x2 sa.length c2) sa) 65 (by rfl) (fun _ => by rfl) (fun _ => by rfl) (fun _ => by rfl) (LW.start R2.out _) ⟨?p0, ?p1, ?p2, ?p3, ?p4, ?p5, ?p6, ?p7, ?p8, trivial⟩ ?_
  case p0 =>
    intro D i a' w' hk he hl hW
    have n8 : D 8 = false := Bool.eq_false_iff.2 fun x => by have := hW.oall x; simp [hk] at this
    exact wp_bsl _ _ rfl Tryz.underlying23 i0 hi ⟨{ i with r0 := _ }, fun j => by simp only [lookS, hk, Bool.false_eq_true, if_false, Nat.zero_add, Nat.reduceAdd], ⟨_, rfl, rfl⟩, hW.op0 n8 ((Below.refl _ _).alloc (Nat.le_refl _) _) ⟨w'.heap.size, rfl, (hW.core n8).2, heap_alloc_new w' _⟩⟩
  case p1 =>
    intro D i a' w' hk he hl hW
    have f2 : a'.tmps.getD 2 undef = .pointer (some ⟨RP, 0, none⟩) := (hl 2).trans ((lookS_absent _ 0 (by simp)).trans rfl)
    exact wp_val (.pointer (some ⟨RP, 2, none⟩)) (by simp only [execOp, Act.eval]; rw [f2]; kernel_rfl) ⟨i, fun _ => rfl, ⟨_, rfl, rfl⟩, hW.keep (by decide)⟩
  case p7 =>
    intro D i a' w' hk he hl hW
    have f2 : a'.tmps.getD 2 undef = .pointer (some ⟨RP, 0, none⟩) := (hl 2).trans ((lookS_absent _ 0 (by simp)).trans rfl)
    exact wp_val (.pointer (some ⟨RP, 2, none⟩)) (by simp only [execOp, Act.eval]; rw [f2]; kernel_rfl) ⟨i, fun _ => rfl, ⟨_, rfl, rfl⟩, hW.keep (by decide)⟩
  case p2 =>
    intro D i a' w' hk he hl hW
    have n8 : D 8 = false := Bool.eq_false_iff.2 fun x => by have := hW.oall x; simp [hk] at this
    have e1 := (hl 37).trans (lookS_at rfl (he ⟨1, .data⟩ (by simp) rfl) rfl)
    exact wp_sload1 _ _ rfl _ _ e1 2 (H.next (hW.core n8).1) _ (.slice x1 ra.length c1) rfl rfl (by decide +kernel) ⟨i, fun _ => rfl, ⟨_, rfl, rfl⟩, hW.keep (by decide)⟩
  case p3 =>
    intro D i a' w' hk he hl hW
    have n8 : D 8 = false := Bool.eq_false_iff.2 fun x => by have := hW.oall x; simp [hk] at this
    have e0 := (hl 36).trans (lookS_at rfl (he ⟨0, .data⟩ (by simp) rfl) rfl)
    have e2 := (hl 38).trans (lookS_at rfl (he ⟨2, .data⟩ (by simp) rfl) rfl)
    have hz := hW.f0 (he ⟨0, .data⟩ (by simp) rfl) hk
    obtain ⟨v', w2, hr, hb, hc⟩ := app_zero 23 _ hz (R1.out.below (hW.core n8).1) (by omega) (hW.core n8).2
    exact wp_app _ _ _ _ rfl _ _ e0 e2 v' w2 hr ⟨{ i with r1 := v' }, fun j => by simp only [lookS, hk, Bool.false_eq_true, if_false, Nat.zero_add, Nat.reduceAdd], ⟨_, rfl, rfl⟩, hW.op3 n8 hb (hc.imp id (fun h => ⟨h.1, h.2.1⟩))⟩
  case p4 =>
    intro D i a' w' hk he hl hW
    have n8 : D 8 = false := Bool.eq_false_iff.2 fun x => by have := hW.oall x; simp [hk] at this
    have f6 : a'.tmps.getD 6 undef = .pointer (some ⟨RV, 0, none⟩) := (hl 6).trans ((lookS_absent _ 0 (by simp)).trans rfl)
    exact wp_sload _ _ rfl _ _ f6 0 (H.next (hW.core n8).1) _ #[.int .i64 r.1, .int .i64 r.2] rfl (by decide +kernel) (by kernel_rfl) (fun j v hj => by rw [Nat.zero_add]; exact hj) ⟨i, fun _ => rfl, ⟨_, rfl, rfl⟩, hW.keep (by decide)⟩
  case p5 =>
    intro D i a' w' hk he hl hW
    have n8 : D 8 = false := Bool.eq_false_iff.2 fun x => by have := hW.oall x; simp [hk] at this
    have e4 := (hl 40).trans (lookS_at rfl (he ⟨4, .data⟩ (by simp) rfl) rfl)
    exact wp_bs1 _ rfl r.1 r.2 e4 ⟨{ i with r5 := _ }, fun j => by simp only [lookS, hk, Bool.false_eq_true, if_false, Nat.zero_add, Nat.reduceAdd], ⟨_, rfl, rfl⟩, hW.op5 n8 ((Below.refl _ _).alloc (Nat.le_refl _) _) (rg1 rfl r.1 r.2 _)⟩
  case p6 =>
    intro D i a' w' hk he hl hW
    have n8 : D 8 = false := Bool.eq_false_iff.2 fun x => by have := hW.oall x; simp [hk] at this
    have e3 := (hl 39).trans (lookS_at rfl (he ⟨3, .data⟩ (by simp) rfl) rfl)
    have e5 := (hl 41).trans (lookS_at rfl (he ⟨5, .data⟩ (by simp) rfl) rfl)
    have h5 := hW.f5 (he ⟨5, .data⟩ (by simp) rfl) hk
    rcases hW.f3 (he ⟨3, .data⟩ (by simp) rfl) hk with ⟨h0, hz⟩ | ⟨hne, hrow⟩
    · obtain ⟨v', w2, hr, hb, hc⟩ := app_zero 23 _ hz h5 (by simp) (hW.core n8).2
      have hv : Rg w2 v' (ra ++ [r]) := by
        rw [h0, List.nil_append]
        rcases hc with ⟨e, z⟩ | ⟨_, z, _⟩
        · cases e
        · exact z.rg
      exact wp_app _ _ _ _ rfl _ _ e3 e5 v' w2 hr ⟨{ i with r6 := v' }, fun j => by simp only [lookS, hk, Bool.false_eq_true, if_false, Nat.zero_add, Nat.reduceAdd], ⟨_, rfl, rfl⟩, hW.op6 R2.out (he ⟨3, .data⟩ (by simp) rfl) hk (.inl hb) hv⟩
    · obtain ⟨v', w2, hr, hv, hg⟩ := app_row 23 _ hrow h5 n1 (by simp) (hW.core n8).2
      exact wp_app _ _ _ _ rfl _ _ e3 e5 v' w2 hr ⟨{ i with r6 := v' }, fun j => by simp only [lookS, hk, Bool.false_eq_true, if_false, Nat.zero_add, Nat.reduceAdd], ⟨_, rfl, rfl⟩, hW.op6 R2.out (he ⟨3, .data⟩ (by simp) rfl) hk (.inr ⟨hne, hrow, hg⟩) hv.rg⟩
  case p8 =>
    intro D i a' w' hk he hl hW
    have e7 := (hl 43).trans (lookS_at rfl (he ⟨7, .data⟩ (by simp) rfl) rfl)
    have e6 := (hl 42).trans (lookS_at rfl (he ⟨6, .data⟩ (by simp) rfl) rfl)
    have h6 := he ⟨6, .data⟩ (by simp) rfl
    obtain ⟨y6, z6, hv6, _⟩ := hW.f6 h6
    have HH := H.next (hW.core hk).1
    obtain ⟨T, hT⟩ := HH.get (i := 2) rfl
    exact wp_sstore1 _ _ _ rfl rfl RP 2 e7 0 (Mem.begin hT) _ #[.bool p, .bool q, i.r6, .slice x2 sa.length c2] rfl i.r6 e6 (by rw [hv6]; kernel_rfl) (by rw [hv6]; exact of_decide_eq_true (by kernel_rfl)) (by rw [hv6]; kernel_rfl) (by rw [hv6]; rfl) fun w1 hM => ⟨i, fun _ => rfl, ⟨undef, rfl, rfl⟩, hW.op8 ⟨he ⟨0, .phase⟩ (by simp) rfl, he ⟨1, .phase⟩ (by simp) rfl, he ⟨2, .phase⟩ (by simp) rfl, he ⟨3, .phase⟩ (by simp) rfl, he ⟨4, .phase⟩ (by simp) rfl, he ⟨5, .phase⟩ (by simp) rfl, h6⟩ h6 hk HH (i := 2) rfl (noInts4 _ _ _ _ _ _ _ _) hM rfl⟩
  intro D b w' hD hW
  have H1 := hW.done (hD 8 (by decide))
  have g6 := hW.f6 (hD 6 (by decide))
  have go := hW.fo
  clear H hD hW R1 R2
  obtain ⟨b0, b1, b5, b6⟩ := b
  simp only at H1 g6
  have G6 := Lib.hid g6
  have GO := Lib.hid go
  obtain ⟨y6, z6, hv6, _⟩ := g6
  generalize hN6 : (ra ++ [r]).length = N6 at hv6
  subst hv6
  clear hN6
  replace H1 := H1.sub (List.Sublist.cons _ (List.Sublist.refl _))
  have HN := Lib.hid (show ∀ x ∈ [(R4, polZ), (RP, #[.bool p, .bool q, .slice y6 N6 z6, .slice x2 sa.length c2])], NoInts x.2 from by
    intro x hx
    simp only [List.mem_cons, List.not_mem_nil, or_false] at hx
    rcases hx with rfl | rfl
    · exact noInts4 _ _ _ _ _ _ _ _
    · exact noInts4 _ _ _ _ _ _ _ _)
  have H0 := Lib.hid H1
  have H := H1.restart
  clear H1
  simp only [putAll, List.foldl_cons, List.foldl_nil, Act.put, List.setIfInBounds_toArray, List.set_cons_succ, List.set_cons_zero]
  go_wp2_with (first | go_skip | (refine wpList_mboxA rfl _ _ rfl H _ rfl ?_; clear H; intro _ w1 _ H) | (refine gate_load _ _ rfl ?_; first | (refine wpList_mloadA rfl _ _ rfl _ rfl 0 H _ rfl (by decide +kernel) (by kernel_rfl) ?_) | (refine wpList_mloadA rfl _ _ rfl _ rfl 1 H _ rfl (by decide +kernel) (by kernel_rfl) ?_) | (refine wpList_mload1 rfl _ _ rfl _ _ rfl 0 H _ (.int _ _) rfl rfl (by decide +kernel) ?_) | (refine wpList_mload1 rfl _ _ rfl _ _ rfl 1 H _ (.int _ _) rfl rfl (by decide +kernel) ?_) | (refine wpList_mload1 rfl _ _ rfl _ _ rfl 0 H _ (.bool _) rfl rfl (by decide +kernel) ?_) | (refine wpList_mload1 rfl _ _ rfl _ _ rfl 1 H _ (.bool _) rfl rfl (by decide +kernel) ?_) | (refine wpList_mload1 rfl _ _ rfl _ _ rfl 0 H _ (.pointer _) rfl rfl (by decide +kernel) ?_) | (refine wpList_mload1 rfl _ _ rfl _ _ rfl 1 H _ (.pointer _) rfl rfl (by decide +kernel) ?_) | (refine wpList_mload1 rfl _ _ rfl _ _ rfl 0 H _ (.string _) rfl rfl (by decide +kernel) ?_) | (refine wpList_mload1 rfl _ _ rfl _ _ rfl 1 H _ (.string _) rfl rfl (by decide +kernel) ?_) | (refine wpList_mload1 rfl _ _ rfl _ _ rfl 0 H _ (.slice _ _ _) rfl rfl (by decide +kernel) ?_) | (refine wpList_mload1 rfl _ _ rfl _ _ rfl 1 H _ (.slice _ _ _) rfl rfl (by decide +kernel) ?_)) | (refine gate_store _ _ _ rfl ?_; (first | (refine wpList_mstoreA rfl _ _ _ rfl rfl _ rfl 0 H _ _ rfl rfl (by kernel_rfl) (by kernel_rfl) (by kernel_rfl) ?_) | (refine wpList_mstoreA rfl _ _ _ rfl rfl _ rfl 1 H _ _ rfl rfl (by kernel_rfl) (by kernel_rfl) (by kernel_rfl) ?_) | (refine wpList_mstore rfl _ _ _ rfl rfl _ _ rfl 0 H _ _ rfl (.int _ _) rfl (by kernel_rfl) (of_decide_eq_true (by kernel_rfl)) (by kernel_rfl) rfl ?_) | (refine wpList_mstore rfl _ _ _ rfl rfl _ _ rfl 1 H _ _ rfl (.int _ _) rfl (by kernel_rfl) (of_decide_eq_true (by kernel_rfl)) (by kernel_rfl) rfl ?_) | (refine wpList_mstore rfl _ _ _ rfl rfl _ _ rfl 0 H _ _ rfl (.bool _) rfl (by kernel_rfl) (of_decide_eq_true (by kernel_rfl)) (by kernel_rfl) rfl ?_) | (refine wpList_mstore rfl _ _ _ rfl rfl _ _ rfl 1 H _ _ rfl (.bool _) rfl (by kernel_rfl) (of_decide_eq_true (by kernel_rfl)) (by kernel_rfl) rfl ?_) | (refine wpList_mstore rfl _ _ _ rfl rfl _ _ rfl 0 H _ _ rfl (.pointer _) rfl (by kernel_rfl) (of_decide_eq_true (by kernel_rfl)) (by kernel_rfl) rfl ?_) | (refine wpList_mstore rfl _ _ _ rfl rfl _ _ rfl 1 H _ _ rfl (.pointer _) rfl (by kernel_rfl) (of_decide_eq_true (by kernel_rfl)) (by kernel_rfl) rfl ?_) | (refine wpList_mstore rfl _ _ _ rfl rfl _ _ rfl 0 H _ _ rfl (.string _) rfl (by kernel_rfl) (of_decide_eq_true (by kernel_rfl)) (by kernel_rfl) rfl ?_) | (refine wpList_mstore rfl _ _ _ rfl rfl _ _ rfl 1 H _ _ rfl (.string _) rfl (by kernel_rfl) (of_decide_eq_true (by kernel_rfl)) (by kernel_rfl) rfl ?_) | (refine wpList_mstore rfl _ _ _ rfl rfl _ _ rfl 0 H _ _ rfl (.slice _ _ _) rfl (by kernel_rfl) (of_decide_eq_true (by kernel_rfl)) (by kernel_rfl) rfl ?_) | (refine wpList_mstore rfl _ _ _ rfl rfl _ _ rfl 1 H _ _ rfl (.slice _ _ _) rfl (by kernel_rfl) (of_decide_eq_true (by kernel_rfl)) (by kernel_rfl) rfl ?_)); clear H; intro w1 H; simp only [List.set_cons_zero, List.set_cons_succ] at H))
  refine ret_mem2 rfl _ rfl 0 H _ rfl (by kernel_rfl) (by kernel_rfl) rfl _ rfl ?_
  have hb := bad_no (l := t.data.toList) (by rw [hk]; intro e; cases e)
  exact ⟨p, q, _, _, ra ++ [r], sa, by rw [hb]; rfl, rg_mem G6.out H0.out HN.out H, rg_mem GO.out H0.out HN.out H, H0.out.below2 H, fun _ => ⟨by rw [any1, hk]; simp, by rw [any2, hk]; simp, by rw [rams1]; unfold ramOf; rw [hk]; simp, by rw [saves1]; unfold saveOf; rw [hk]; simp⟩⟩
set_option maxHeartbeats 4000000 in
theorem rline_rn (p q : Bool) (sv tv : Value) (ra sa : List (Int × Int)) (t : ByteArray) (w : World) (h1 : Rg w sv ra) (h2 : Rg w tv sa) (hs : t.size ≤ 5000) (n1 : ra.length ≤ 50000) (n2 : sa.length ≤ 50000) (hO : spanL 2048 (t.data.toList.drop 4) = none) (hk : cls t.data.toList = .bad) (z0 : 0 < t.size) (e0 : t.toList.isEmpty = false) (e1 : (((t[0]'z0).toNat : Int) == 35) = false) (e2 : (t.toList == [112, 111, 114, 116, 32, 49]) = false) (e3 : (t.toList == [112, 111, 114, 116, 32, 50]) = false) (k1 : Lib.hasPrefix t.data.toList (⟨#[114, 97, 109, 32]⟩ : ByteArray).data.toList = true)  : Calls Tryz.prog 12 #[polV p q sv tv, .string t] w (LineP p q ra sa t.data.toList w) := by
  have R1 := Lib.hid h1
  have R2 := Lib.hid h2
  obtain ⟨x1, c1, rfl, _⟩ := h1
  obtain ⟨x2, c2, rfl, _⟩ := h2
  have HZ := Lib.hid alloc_pol
  have HY := Lib.hid alloc_range
  have H := Mem.start w
  have B1 := Lib.hid (fun wr => (by have := rbegins_ct t ⟨#[114, 97, 109, 32]⟩ wr hs (by decide); rwa [k1] at this : Calls Tryz.prog 29 #[.string t, .string ⟨#[114, 97, 109, 32]⟩] wr fun e w' => e = .returned (.bool true) ∧ Below wr.heap.size wr w'))
  have QS := Lib.hid (fun wr => (by have := rspan_ct (t.extract 4 t.size) 2048 wr (by rw [ByteArray.size_extract]; omega) (by decide) (by decide); rwa [drop_ex, hO] at this : Calls Tryz.prog 30 #[.string (t.extract 4 t.size), .int .i64 2048] wr (SpanP none wr)))
  obtain ⟨i0, hi, _, _, _⟩ := info_parts info_range
  unfold polV
  have zk : 4 ≤ t.size := by
    have hlen : t.data.toList.length = t.size := by rw [Array.length_toList]; rfl
    unfold Lib.hasPrefix at k1
    have := (List.isPrefixOf_iff_prefix.1 k1).length_le
    rw [hlen] at this
    exact this
  go_enter Tryz.func12, Tryz.ntmps12
  go_wp2_with (first
    | (refine wpList_mboxA rfl _ _ rfl H #[.bool p, .bool q, .slice x1 ra.length c1, .slice x2 sa.length c2] rfl ?_; clear H; intro RP w1 _ H)
    | (go_at_call 29; first
        | (with_reducible refine (B1.out _).mono ?_; rintro e w2 ⟨rfl, hB⟩; replace H := H.next hB; clear hB))
    | (go_at_call 30; (with_reducible refine (QS.out _).mono ?_); rintro e w2 ⟨r, rfl, hr, hB⟩; replace H := H.next hB; clear hB; clear hr)
    | go_skip | (refine wpList_mboxA rfl _ _ rfl H _ rfl ?_; clear H; intro _ w1 _ H) | (refine gate_load _ _ rfl ?_; first | (refine wpList_mloadA rfl _ _ rfl _ rfl 0 H _ rfl (by decide +kernel) (by kernel_rfl) ?_) | (refine wpList_mloadA rfl _ _ rfl _ rfl 1 H _ rfl (by decide +kernel) (by kernel_rfl) ?_) | (refine wpList_mloadA rfl _ _ rfl _ rfl 2 H _ rfl (by decide +kernel) (by kernel_rfl) ?_) | (refine wpList_mload1 rfl _ _ rfl _ _ rfl 0 H _ (.int _ _) rfl rfl (by decide +kernel) ?_) | (refine wpList_mload1 rfl _ _ rfl _ _ rfl 1 H _ (.int _ _) rfl rfl (by decide +kernel) ?_) | (refine wpList_mload1 rfl _ _ rfl _ _ rfl 2 H _ (.int _ _) rfl rfl (by decide +kernel) ?_) | (refine wpList_mload1 rfl _ _ rfl _ _ rfl 0 H _ (.bool _) rfl rfl (by decide +kernel) ?_) | (refine wpList_mload1 rfl _ _ rfl _ _ rfl 1 H _ (.bool _) rfl rfl (by decide +kernel) ?_) | (refine wpList_mload1 rfl _ _ rfl _ _ rfl 2 H _ (.bool _) rfl rfl (by decide +kernel) ?_) | (refine wpList_mload1 rfl _ _ rfl _ _ rfl 0 H _ (.pointer _) rfl rfl (by decide +kernel) ?_) | (refine wpList_mload1 rfl _ _ rfl _ _ rfl 1 H _ (.pointer _) rfl rfl (by decide +kernel) ?_) | (refine wpList_mload1 rfl _ _ rfl _ _ rfl 2 H _ (.pointer _) rfl rfl (by decide +kernel) ?_) | (refine wpList_mload1 rfl _ _ rfl _ _ rfl 0 H _ (.string _) rfl rfl (by decide +kernel) ?_) | (refine wpList_mload1 rfl _ _ rfl _ _ rfl 1 H _ (.string _) rfl rfl (by decide +kernel) ?_) | (refine wpList_mload1 rfl _ _ rfl _ _ rfl 2 H _ (.string _) rfl rfl (by decide +kernel) ?_) | (refine wpList_mload1 rfl _ _ rfl _ _ rfl 0 H _ (.slice _ _ _) rfl rfl (by decide +kernel) ?_) | (refine wpList_mload1 rfl _ _ rfl _ _ rfl 1 H _ (.slice _ _ _) rfl rfl (by decide +kernel) ?_) | (refine wpList_mload1 rfl _ _ rfl _ _ rfl 2 H _ (.slice _ _ _) rfl rfl (by decide +kernel) ?_)) | (refine gate_store _ _ _ rfl ?_; (first | (refine wpList_mstoreA rfl _ _ _ rfl rfl _ rfl 0 H _ _ rfl rfl (by kernel_rfl) (by kernel_rfl) (by kernel_rfl) ?_) | (refine wpList_mstoreA rfl _ _ _ rfl rfl _ rfl 1 H _ _ rfl rfl (by kernel_rfl) (by kernel_rfl) (by kernel_rfl) ?_) | (refine wpList_mstoreA rfl _ _ _ rfl rfl _ rfl 2 H _ _ rfl rfl (by kernel_rfl) (by kernel_rfl) (by kernel_rfl) ?_) | (refine wpList_mstore rfl _ _ _ rfl rfl _ _ rfl 0 H _ _ rfl (.int _ _) rfl (by kernel_rfl) (of_decide_eq_true (by kernel_rfl)) (by kernel_rfl) rfl ?_) | (refine wpList_mstore rfl _ _ _ rfl rfl _ _ rfl 1 H _ _ rfl (.int _ _) rfl (by kernel_rfl) (of_decide_eq_true (by kernel_rfl)) (by kernel_rfl) rfl ?_) | (refine wpList_mstore rfl _ _ _ rfl rfl _ _ rfl 2 H _ _ rfl (.int _ _) rfl (by kernel_rfl) (of_decide_eq_true (by kernel_rfl)) (by kernel_rfl) rfl ?_) | (refine wpList_mstore rfl _ _ _ rfl rfl _ _ rfl 0 H _ _ rfl (.bool _) rfl (by kernel_rfl) (of_decide_eq_true (by kernel_rfl)) (by kernel_rfl) rfl ?_) | (refine wpList_mstore rfl _ _ _ rfl rfl _ _ rfl 1 H _ _ rfl (.bool _) rfl (by kernel_rfl) (of_decide_eq_true (by kernel_rfl)) (by kernel_rfl) rfl ?_) | (refine wpList_mstore rfl _ _ _ rfl rfl _ _ rfl 2 H _ _ rfl (.bool _) rfl (by kernel_rfl) (of_decide_eq_true (by kernel_rfl)) (by kernel_rfl) rfl ?_) | (refine wpList_mstore rfl _ _ _ rfl rfl _ _ rfl 0 H _ _ rfl (.pointer _) rfl (by kernel_rfl) (of_decide_eq_true (by kernel_rfl)) (by kernel_rfl) rfl ?_) | (refine wpList_mstore rfl _ _ _ rfl rfl _ _ rfl 1 H _ _ rfl (.pointer _) rfl (by kernel_rfl) (of_decide_eq_true (by kernel_rfl)) (by kernel_rfl) rfl ?_) | (refine wpList_mstore rfl _ _ _ rfl rfl _ _ rfl 2 H _ _ rfl (.pointer _) rfl (by kernel_rfl) (of_decide_eq_true (by kernel_rfl)) (by kernel_rfl) rfl ?_) | (refine wpList_mstore rfl _ _ _ rfl rfl _ _ rfl 0 H _ _ rfl (.string _) rfl (by kernel_rfl) (of_decide_eq_true (by kernel_rfl)) (by kernel_rfl) rfl ?_) | (refine wpList_mstore rfl _ _ _ rfl rfl _ _ rfl 1 H _ _ rfl (.string _) rfl (by kernel_rfl) (of_decide_eq_true (by kernel_rfl)) (by kernel_rfl) rfl ?_) | (refine wpList_mstore rfl _ _ _ rfl rfl _ _ rfl 2 H _ _ rfl (.string _) rfl (by kernel_rfl) (of_decide_eq_true (by kernel_rfl)) (by kernel_rfl) rfl ?_) | (refine wpList_mstore rfl _ _ _ rfl rfl _ _ rfl 0 H _ _ rfl (.slice _ _ _) rfl (by kernel_rfl) (of_decide_eq_true (by kernel_rfl)) (by kernel_rfl) rfl ?_) | (refine wpList_mstore rfl _ _ _ rfl rfl _ _ rfl 1 H _ _ rfl (.slice _ _ _) rfl (by kernel_rfl) (of_decide_eq_true (by kernel_rfl)) (by kernel_rfl) rfl ?_) | (refine wpList_mstore rfl _ _ _ rfl rfl _ _ rfl 2 H _ _ rfl (.slice _ _ _) rfl (by kernel_rfl) (of_decide_eq_true (by kernel_rfl)) (by kernel_rfl) rfl ?_)); clear H; intro w1 H; simp only [List.set_cons_zero, List.set_cons_succ] at H)
    | (refine wpList_mnew rfl _ rfl H _ HZ.out ?_; clear H; intro R4 w1 _ H)
    | (refine wpList_mnew rfl _ rfl H _ HY.out ?_; clear H; intro RV w1 _ H))
  (try simp only [Act.put, List.setIfInBounds_toArray, List.set_cons_succ, List.set_cons_zero])
  replace H : Mem w.heap.size [] w w1 [(RV, #[.int .i64 r.1, .int .i64 r.2]), (R4, polZ), (RP, #[.bool p, .bool q, .slice x1 ra.length c1, .slice x2 sa.length c2])] := H
  have R1 := Lib.hid (R1.out.below H.toBelow)
  have R2 := Lib.hid (R2.out.below H.toBelow)
  refine wp_region_settledG ⟨.bool false, .bool false, .bool false, .bool false⟩ (by kernel_rfl) (by kernel_rfl) (fun b : LB => [(some 36, b.r0), (some 37, .pointer (some ⟨RP, 2, none⟩)), (some 38, .slice x1 ra.length c1), (some 39, b.r1), (some 40, .agg #[.int .i64 r.1, .int .i64 r.2]), (some 41, b.r5), (some 42, b.r6), (some 43, .pointer (some ⟨RP, 2, none⟩)), (none, undef)]) (LW w.heap.size w w1 (fun v => [(RV, #[.int .i64 r.1, .int .i64 r.2]), (R4, polZ), (RP, #[.bool p, .bool q, v, .slice x2 sa.length c2])]) ra r (.slice x2 sa.length c2) sa) 65 (by rfl) (fun _ => by rfl) (fun _ => by rfl) (fun _ => by rfl) (LW.start R2.out _) ⟨?p0, ?p1, ?p2, ?p3, ?p4, ?p5, ?p6, ?p7, ?p8, trivial⟩ ?_
  case p0 =>
    intro D i a' w' hk he hl hW
    have n8 : D 8 = false := Bool.eq_false_iff.2 fun x => by have := hW.oall x; simp [hk] at this
    exact wp_bsl _ _ rfl Tryz.underlying23 i0 hi ⟨{ i with r0 := _ }, fun j => by simp only [lookS, hk, Bool.false_eq_true, if_false, Nat.zero_add, Nat.reduceAdd], ⟨_, rfl, rfl⟩, hW.op0 n8 ((Below.refl _ _).alloc (Nat.le_refl _) _) ⟨w'.heap.size, rfl, (hW.core n8).2, heap_alloc_new w' _⟩⟩
  case p1 =>
    intro D i a' w' hk he hl hW
    have f2 : a'.tmps.getD 2 undef = .pointer (some ⟨RP, 0, none⟩) := (hl 2).trans ((lookS_absent _ 0 (by simp)).trans rfl)
    exact wp_val (.pointer (some ⟨RP, 2, none⟩)) (by simp only [execOp, Act.eval]; rw [f2]; kernel_rfl) ⟨i, fun _ => rfl, ⟨_, rfl, rfl⟩, hW.keep (by decide)⟩
  case p7 =>
    intro D i a' w' hk he hl hW
    have f2 : a'.tmps.getD 2 undef = .pointer (some ⟨RP, 0, none⟩) := (hl 2).trans ((lookS_absent _ 0 (by simp)).trans rfl)
    exact wp_val (.pointer (some ⟨RP, 2, none⟩)) (by simp only [execOp, Act.eval]; rw [f2]; kernel_rfl) ⟨i, fun _ => rfl, ⟨_, rfl, rfl⟩, hW.keep (by decide)⟩
  case p2 =>
    intro D i a' w' hk he hl hW
    have n8 : D 8 = false := Bool.eq_false_iff.2 fun x => by have := hW.oall x; simp [hk] at this
    have e1 := (hl 37).trans (lookS_at rfl (he ⟨1, .data⟩ (by simp) rfl) rfl)
    exact wp_sload1 _ _ rfl _ _ e1 2 (H.next (hW.core n8).1) _ (.slice x1 ra.length c1) rfl rfl (by decide +kernel) ⟨i, fun _ => rfl, ⟨_, rfl, rfl⟩, hW.keep (by decide)⟩
  case p3 =>
    intro D i a' w' hk he hl hW
    have n8 : D 8 = false := Bool.eq_false_iff.2 fun x => by have := hW.oall x; simp [hk] at this
    have e0 := (hl 36).trans (lookS_at rfl (he ⟨0, .data⟩ (by simp) rfl) rfl)
    have e2 := (hl 38).trans (lookS_at rfl (he ⟨2, .data⟩ (by simp) rfl) rfl)
    have hz := hW.f0 (he ⟨0, .data⟩ (by simp) rfl) hk
    obtain ⟨v', w2, hr, hb, hc⟩ := app_zero 23 _ hz (R1.out.below (hW.core n8).1) (by omega) (hW.core n8).2
    exact wp_app _ _ _ _ rfl _ _ e0 e2 v' w2 hr ⟨{ i with r1 := v' }, fun j => by simp only [lookS, hk, Bool.false_eq_true, if_false, Nat.zero_add, Nat.reduceAdd], ⟨_, rfl, rfl⟩, hW.op3 n8 hb (hc.imp id (fun h => ⟨h.1, h.2.1⟩))⟩
  case p4 =>
    intro D i a' w' hk he hl hW
    have n8 : D 8 = false := Bool.eq_false_iff.2 fun x => by have := hW.oall x; simp [hk] at this
    have f6 : a'.tmps.getD 6 undef = .pointer (some ⟨RV, 0, none⟩) := (hl 6).trans ((lookS_absent _ 0 (by simp)).trans rfl)
    exact wp_sload _ _ rfl _ _ f6 0 (H.next (hW.core n8).1) _ #[.int .i64 r.1, .int .i64 r.2] rfl (by decide +kernel) (by kernel_rfl) (fun j v hj => by rw [Nat.zero_add]; exact hj) ⟨i, fun _ => rfl, ⟨_, rfl, rfl⟩, hW.keep (by decide)⟩
  case p5 =>
    intro D i a' w' hk he hl hW
    have n8 : D 8 = false := Bool.eq_false_iff.2 fun x => by have := hW.oall x; simp [hk] at this
    have e4 := (hl 40).trans (lookS_at rfl (he ⟨4, .data⟩ (by simp) rfl) rfl)
    exact wp_bs1 _ rfl r.1 r.2 e4 ⟨{ i with r5 := _ }, fun j => by simp only [lookS, hk, Bool.false_eq_true, if_false, Nat.zero_add, Nat.reduceAdd], ⟨_, rfl, rfl⟩, hW.op5 n8 ((Below.refl _ _).alloc (Nat.le_refl _) _) (rg1 rfl r.1 r.2 _)⟩
  case p6 =>
    intro D i a' w' hk he hl hW
    have n8 : D 8 = false := Bool.eq_false_iff.2 fun x => by have := hW.oall x; simp [hk] at this
    have e3 := (hl 39).trans (lookS_at rfl (he ⟨3, .data⟩ (by simp) rfl) rfl)
    have e5 := (hl 41).trans (lookS_at rfl (he ⟨5, .data⟩ (by simp) rfl) rfl)
    have h5 := hW.f5 (he ⟨5, .data⟩ (by simp) rfl) hk
    rcases hW.f3 (he ⟨3, .data⟩ (by simp) rfl) hk with ⟨h0, hz⟩ | ⟨hne, hrow⟩
    · obtain ⟨v', w2, hr, hb, hc⟩ := app_zero 23 _ hz h5 (by simp) (hW.core n8).2
      have hv : Rg w2 v' (ra ++ [r]) := by
        rw [h0, List.nil_append]
        rcases hc with ⟨e, z⟩ | ⟨_, z, _⟩
        · cases e
        · exact z.rg
      exact wp_app _ _ _ _ rfl _ _ e3 e5 v' w2 hr ⟨{ i with r6 := v' }, fun j => by simp only [lookS, hk, Bool.false_eq_true, if_false, Nat.zero_add, Nat.reduceAdd], ⟨_, rfl, rfl⟩, hW.op6 R2.out (he ⟨3, .data⟩ (by simp) rfl) hk (.inl hb) hv⟩
    · obtain ⟨v', w2, hr, hv, hg⟩ := app_row 23 _ hrow h5 n1 (by simp) (hW.core n8).2
      exact wp_app _ _ _ _ rfl _ _ e3 e5 v' w2 hr ⟨{ i with r6 := v' }, fun j => by simp only [lookS, hk, Bool.false_eq_true, if_false, Nat.zero_add, Nat.reduceAdd], ⟨_, rfl, rfl⟩, hW.op6 R2.out (he ⟨3, .data⟩ (by simp) rfl) hk (.inr ⟨hne, hrow, hg⟩) hv.rg⟩
  case p8 =>
    intro D i a' w' hk he hl hW
    have e7 := (hl 43).trans (lookS_at rfl (he ⟨7, .data⟩ (by simp) rfl) rfl)
    have e6 := (hl 42).trans (lookS_at rfl (he ⟨6, .data⟩ (by simp) rfl) rfl)
    have h6 := he ⟨6, .data⟩ (by simp) rfl
    obtain ⟨y6, z6, hv6, _⟩ := hW.f6 h6
    have HH := H.next (hW.core hk).1
    obtain ⟨T, hT⟩ := HH.get (i := 2) rfl
    exact wp_sstore1 _ _ _ rfl rfl RP 2 e7 0 (Mem.begin hT) _ #[.bool p, .bool q, i.r6, .slice x2 sa.length c2] rfl i.r6 e6 (by rw [hv6]; kernel_rfl) (by rw [hv6]; exact of_decide_eq_true (by kernel_rfl)) (by rw [hv6]; kernel_rfl) (by rw [hv6]; rfl) fun w1 hM => ⟨i, fun _ => rfl, ⟨undef, rfl, rfl⟩, hW.op8 ⟨he ⟨0, .phase⟩ (by simp) rfl, he ⟨1, .phase⟩ (by simp) rfl, he ⟨2, .phase⟩ (by simp) rfl, he ⟨3, .phase⟩ (by simp) rfl, he ⟨4, .phase⟩ (by simp) rfl, he ⟨5, .phase⟩ (by simp) rfl, h6⟩ h6 hk HH (i := 2) rfl (noInts4 _ _ _ _ _ _ _ _) hM rfl⟩
  intro D b w' hD hW
  have H1 := hW.done (hD 8 (by decide))
  have g6 := hW.f6 (hD 6 (by decide))
  have go := hW.fo
  clear H hD hW R1 R2
  obtain ⟨b0, b1, b5, b6⟩ := b
  simp only at H1 g6
  have G6 := Lib.hid g6
  have GO := Lib.hid go
  obtain ⟨y6, z6, hv6, _⟩ := g6
  generalize hN6 : (ra ++ [r]).length = N6 at hv6
  subst hv6
  clear hN6
  replace H1 := H1.sub (List.Sublist.cons _ (List.Sublist.refl _))
  have HN := Lib.hid (show ∀ x ∈ [(R4, polZ), (RP, #[.bool p, .bool q, .slice y6 N6 z6, .slice x2 sa.length c2])], NoInts x.2 from by
    intro x hx
    simp only [List.mem_cons, List.not_mem_nil, or_false] at hx
    rcases hx with rfl | rfl
    · exact noInts4 _ _ _ _ _ _ _ _
    · exact noInts4 _ _ _ _ _ _ _ _)
  have H0 := Lib.hid H1
  have H := H1.restart
  clear H1
  simp only [putAll, List.foldl_cons, List.foldl_nil, Act.put, List.setIfInBounds_toArray, List.set_cons_succ, List.set_cons_zero]
  go_wp2_with (first | go_skip | (refine wpList_mboxA rfl _ _ rfl H _ rfl ?_; clear H; intro _ w1 _ H) | (refine gate_load _ _ rfl ?_; first | (refine wpList_mloadA rfl _ _ rfl _ rfl 0 H _ rfl (by decide +kernel) (by kernel_rfl) ?_) | (refine wpList_mloadA rfl _ _ rfl _ rfl 1 H _ rfl (by decide +kernel) (by kernel_rfl) ?_) | (refine wpList_mload1 rfl _ _ rfl _ _ rfl 0 H _ (.int _ _) rfl rfl (by decide +kernel) ?_) | (refine wpList_mload1 rfl _ _ rfl _ _ rfl 1 H _ (.int _ _) rfl rfl (by decide +kernel) ?_) | (refine wpList_mload1 rfl _ _ rfl _ _ rfl 0 H _ (.bool _) rfl rfl (by decide +kernel) ?_) | (refine wpList_mload1 rfl _ _ rfl _ _ rfl 1 H _ (.bool _) rfl rfl (by decide +kernel) ?_) | (refine wpList_mload1 rfl _ _ rfl _ _ rfl 0 H _ (.pointer _) rfl rfl (by decide +kernel) ?_) | (refine wpList_mload1 rfl _ _ rfl _ _ rfl 1 H _ (.pointer _) rfl rfl (by decide +kernel) ?_) | (refine wpList_mload1 rfl _ _ rfl _ _ rfl 0 H _ (.string _) rfl rfl (by decide +kernel) ?_) | (refine wpList_mload1 rfl _ _ rfl _ _ rfl 1 H _ (.string _) rfl rfl (by decide +kernel) ?_) | (refine wpList_mload1 rfl _ _ rfl _ _ rfl 0 H _ (.slice _ _ _) rfl rfl (by decide +kernel) ?_) | (refine wpList_mload1 rfl _ _ rfl _ _ rfl 1 H _ (.slice _ _ _) rfl rfl (by decide +kernel) ?_)) | (refine gate_store _ _ _ rfl ?_; (first | (refine wpList_mstoreA rfl _ _ _ rfl rfl _ rfl 0 H _ _ rfl rfl (by kernel_rfl) (by kernel_rfl) (by kernel_rfl) ?_) | (refine wpList_mstoreA rfl _ _ _ rfl rfl _ rfl 1 H _ _ rfl rfl (by kernel_rfl) (by kernel_rfl) (by kernel_rfl) ?_) | (refine wpList_mstore rfl _ _ _ rfl rfl _ _ rfl 0 H _ _ rfl (.int _ _) rfl (by kernel_rfl) (of_decide_eq_true (by kernel_rfl)) (by kernel_rfl) rfl ?_) | (refine wpList_mstore rfl _ _ _ rfl rfl _ _ rfl 1 H _ _ rfl (.int _ _) rfl (by kernel_rfl) (of_decide_eq_true (by kernel_rfl)) (by kernel_rfl) rfl ?_) | (refine wpList_mstore rfl _ _ _ rfl rfl _ _ rfl 0 H _ _ rfl (.bool _) rfl (by kernel_rfl) (of_decide_eq_true (by kernel_rfl)) (by kernel_rfl) rfl ?_) | (refine wpList_mstore rfl _ _ _ rfl rfl _ _ rfl 1 H _ _ rfl (.bool _) rfl (by kernel_rfl) (of_decide_eq_true (by kernel_rfl)) (by kernel_rfl) rfl ?_) | (refine wpList_mstore rfl _ _ _ rfl rfl _ _ rfl 0 H _ _ rfl (.pointer _) rfl (by kernel_rfl) (of_decide_eq_true (by kernel_rfl)) (by kernel_rfl) rfl ?_) | (refine wpList_mstore rfl _ _ _ rfl rfl _ _ rfl 1 H _ _ rfl (.pointer _) rfl (by kernel_rfl) (of_decide_eq_true (by kernel_rfl)) (by kernel_rfl) rfl ?_) | (refine wpList_mstore rfl _ _ _ rfl rfl _ _ rfl 0 H _ _ rfl (.string _) rfl (by kernel_rfl) (of_decide_eq_true (by kernel_rfl)) (by kernel_rfl) rfl ?_) | (refine wpList_mstore rfl _ _ _ rfl rfl _ _ rfl 1 H _ _ rfl (.string _) rfl (by kernel_rfl) (of_decide_eq_true (by kernel_rfl)) (by kernel_rfl) rfl ?_) | (refine wpList_mstore rfl _ _ _ rfl rfl _ _ rfl 0 H _ _ rfl (.slice _ _ _) rfl (by kernel_rfl) (of_decide_eq_true (by kernel_rfl)) (by kernel_rfl) rfl ?_) | (refine wpList_mstore rfl _ _ _ rfl rfl _ _ rfl 1 H _ _ rfl (.slice _ _ _) rfl (by kernel_rfl) (of_decide_eq_true (by kernel_rfl)) (by kernel_rfl) rfl ?_)); clear H; intro w1 H; simp only [List.set_cons_zero, List.set_cons_succ] at H))
  refine ret_mem2 rfl _ rfl 0 H _ rfl (by kernel_rfl) (by kernel_rfl) rfl _ rfl ?_
  have hb : isBad t.data.toList = true := by unfold isBad; rw [hk]; rfl
  exact ⟨p, q, _, _, ra ++ [r], sa, by rw [hb]; rfl, rg_mem G6.out H0.out HN.out H, rg_mem GO.out H0.out HN.out H, H0.out.below2 H, fun e => by rw [hb] at e; cases e⟩
set_option maxHeartbeats 4000000 in
theorem rline_ss (p q : Bool) (sv tv : Value) (ra sa : List (Int × Int)) (t : ByteArray) (w : World) (h1 : Rg w sv ra) (h2 : Rg w tv sa) (hs : t.size ≤ 5000) (n1 : ra.length ≤ 50000) (n2 : sa.length ≤ 50000) (r0 : Int × Int) (hO : spanL 8192 (t.data.toList.drop 5) = some r0) (hk : cls t.data.toList = .save r0) (z0 : 0 < t.size) (e0 : t.toList.isEmpty = false) (e1 : (((t[0]'z0).toNat : Int) == 35) = false) (e2 : (t.toList == [112, 111, 114, 116, 32, 49]) = false) (e3 : (t.toList == [112, 111, 114, 116, 32, 50]) = false) (k1 : Lib.hasPrefix t.data.toList (⟨#[114, 97, 109, 32]⟩ : ByteArray).data.toList = false) (k2 : Lib.hasPrefix t.data.toList (⟨#[115, 97, 118, 101, 32]⟩ : ByteArray).data.toList = true)  : Calls Tryz.prog 12 #[polV p q sv tv, .string t] w (LineP p q ra sa t.data.toList w) := by
  have R1 := Lib.hid h1
  have R2 := Lib.hid h2
  obtain ⟨x1, c1, rfl, _⟩ := h1
  obtain ⟨x2, c2, rfl, _⟩ := h2
  have HZ := Lib.hid alloc_pol
  have HY := Lib.hid alloc_range
  have H := Mem.start w
  have B1 := Lib.hid (fun wr => (by have := rbegins_ct t ⟨#[114, 97, 109, 32]⟩ wr hs (by decide); rwa [k1] at this : Calls Tryz.prog 29 #[.string t, .string ⟨#[114, 97, 109, 32]⟩] wr fun e w' => e = .returned (.bool false) ∧ Below wr.heap.size wr w'))
  have B2 := Lib.hid (fun wr => (by have := rbegins_ct t ⟨#[115, 97, 118, 101, 32]⟩ wr hs (by decide); rwa [k2] at this : Calls Tryz.prog 29 #[.string t, .string ⟨#[115, 97, 118, 101, 32]⟩] wr fun e w' => e = .returned (.bool true) ∧ Below wr.heap.size wr w'))
  have QS := Lib.hid (fun wr => (by have := rspan_ct (t.extract 5 t.size) 8192 wr (by rw [ByteArray.size_extract]; omega) (by decide) (by decide); rwa [drop_ex, hO] at this : Calls Tryz.prog 30 #[.string (t.extract 5 t.size), .int .i64 8192] wr (SpanP (some r0) wr)))
  obtain ⟨i0, hi, _, _, _⟩ := info_parts info_range
  unfold polV
  have zk : 5 ≤ t.size := by
    have hlen : t.data.toList.length = t.size := by rw [Array.length_toList]; rfl
    unfold Lib.hasPrefix at k2
    have := (List.isPrefixOf_iff_prefix.1 k2).length_le
    rw [hlen] at this
    exact this
  go_enter Tryz.func12, Tryz.ntmps12
  go_wp2_with (first
    | (refine wpList_mboxA rfl _ _ rfl H #[.bool p, .bool q, .slice x1 ra.length c1, .slice x2 sa.length c2] rfl ?_; clear H; intro RP w1 _ H)
    | (go_at_call 29; first
        | (with_reducible refine (B1.out _).mono ?_; rintro e w2 ⟨rfl, hB⟩; replace H := H.next hB; clear hB)
        | (with_reducible refine (B2.out _).mono ?_; rintro e w2 ⟨rfl, hB⟩; replace H := H.next hB; clear hB))
    | (go_at_call 30; (with_reducible refine (QS.out _).mono ?_); rintro e w2 ⟨r, rfl, hr, hB⟩; replace H := H.next hB; clear hB; have hrr := hr _ rfl; subst hrr; clear hr)
    | go_skip | (refine wpList_mboxA rfl _ _ rfl H _ rfl ?_; clear H; intro _ w1 _ H) | (refine gate_load _ _ rfl ?_; first | (refine wpList_mloadA rfl _ _ rfl _ rfl 0 H _ rfl (by decide +kernel) (by kernel_rfl) ?_) | (refine wpList_mloadA rfl _ _ rfl _ rfl 1 H _ rfl (by decide +kernel) (by kernel_rfl) ?_) | (refine wpList_mloadA rfl _ _ rfl _ rfl 2 H _ rfl (by decide +kernel) (by kernel_rfl) ?_) | (refine wpList_mload1 rfl _ _ rfl _ _ rfl 0 H _ (.int _ _) rfl rfl (by decide +kernel) ?_) | (refine wpList_mload1 rfl _ _ rfl _ _ rfl 1 H _ (.int _ _) rfl rfl (by decide +kernel) ?_) | (refine wpList_mload1 rfl _ _ rfl _ _ rfl 2 H _ (.int _ _) rfl rfl (by decide +kernel) ?_) | (refine wpList_mload1 rfl _ _ rfl _ _ rfl 0 H _ (.bool _) rfl rfl (by decide +kernel) ?_) | (refine wpList_mload1 rfl _ _ rfl _ _ rfl 1 H _ (.bool _) rfl rfl (by decide +kernel) ?_) | (refine wpList_mload1 rfl _ _ rfl _ _ rfl 2 H _ (.bool _) rfl rfl (by decide +kernel) ?_) | (refine wpList_mload1 rfl _ _ rfl _ _ rfl 0 H _ (.pointer _) rfl rfl (by decide +kernel) ?_) | (refine wpList_mload1 rfl _ _ rfl _ _ rfl 1 H _ (.pointer _) rfl rfl (by decide +kernel) ?_) | (refine wpList_mload1 rfl _ _ rfl _ _ rfl 2 H _ (.pointer _) rfl rfl (by decide +kernel) ?_) | (refine wpList_mload1 rfl _ _ rfl _ _ rfl 0 H _ (.string _) rfl rfl (by decide +kernel) ?_) | (refine wpList_mload1 rfl _ _ rfl _ _ rfl 1 H _ (.string _) rfl rfl (by decide +kernel) ?_) | (refine wpList_mload1 rfl _ _ rfl _ _ rfl 2 H _ (.string _) rfl rfl (by decide +kernel) ?_) | (refine wpList_mload1 rfl _ _ rfl _ _ rfl 0 H _ (.slice _ _ _) rfl rfl (by decide +kernel) ?_) | (refine wpList_mload1 rfl _ _ rfl _ _ rfl 1 H _ (.slice _ _ _) rfl rfl (by decide +kernel) ?_) | (refine wpList_mload1 rfl _ _ rfl _ _ rfl 2 H _ (.slice _ _ _) rfl rfl (by decide +kernel) ?_)) | (refine gate_store _ _ _ rfl ?_; (first | (refine wpList_mstoreA rfl _ _ _ rfl rfl _ rfl 0 H _ _ rfl rfl (by kernel_rfl) (by kernel_rfl) (by kernel_rfl) ?_) | (refine wpList_mstoreA rfl _ _ _ rfl rfl _ rfl 1 H _ _ rfl rfl (by kernel_rfl) (by kernel_rfl) (by kernel_rfl) ?_) | (refine wpList_mstoreA rfl _ _ _ rfl rfl _ rfl 2 H _ _ rfl rfl (by kernel_rfl) (by kernel_rfl) (by kernel_rfl) ?_) | (refine wpList_mstore rfl _ _ _ rfl rfl _ _ rfl 0 H _ _ rfl (.int _ _) rfl (by kernel_rfl) (of_decide_eq_true (by kernel_rfl)) (by kernel_rfl) rfl ?_) | (refine wpList_mstore rfl _ _ _ rfl rfl _ _ rfl 1 H _ _ rfl (.int _ _) rfl (by kernel_rfl) (of_decide_eq_true (by kernel_rfl)) (by kernel_rfl) rfl ?_) | (refine wpList_mstore rfl _ _ _ rfl rfl _ _ rfl 2 H _ _ rfl (.int _ _) rfl (by kernel_rfl) (of_decide_eq_true (by kernel_rfl)) (by kernel_rfl) rfl ?_) | (refine wpList_mstore rfl _ _ _ rfl rfl _ _ rfl 0 H _ _ rfl (.bool _) rfl (by kernel_rfl) (of_decide_eq_true (by kernel_rfl)) (by kernel_rfl) rfl ?_) | (refine wpList_mstore rfl _ _ _ rfl rfl _ _ rfl 1 H _ _ rfl (.bool _) rfl (by kernel_rfl) (of_decide_eq_true (by kernel_rfl)) (by kernel_rfl) rfl ?_) | (refine wpList_mstore rfl _ _ _ rfl rfl _ _ rfl 2 H _ _ rfl (.bool _) rfl (by kernel_rfl) (of_decide_eq_true (by kernel_rfl)) (by kernel_rfl) rfl ?_) | (refine wpList_mstore rfl _ _ _ rfl rfl _ _ rfl 0 H _ _ rfl (.pointer _) rfl (by kernel_rfl) (of_decide_eq_true (by kernel_rfl)) (by kernel_rfl) rfl ?_) | (refine wpList_mstore rfl _ _ _ rfl rfl _ _ rfl 1 H _ _ rfl (.pointer _) rfl (by kernel_rfl) (of_decide_eq_true (by kernel_rfl)) (by kernel_rfl) rfl ?_) | (refine wpList_mstore rfl _ _ _ rfl rfl _ _ rfl 2 H _ _ rfl (.pointer _) rfl (by kernel_rfl) (of_decide_eq_true (by kernel_rfl)) (by kernel_rfl) rfl ?_) | (refine wpList_mstore rfl _ _ _ rfl rfl _ _ rfl 0 H _ _ rfl (.string _) rfl (by kernel_rfl) (of_decide_eq_true (by kernel_rfl)) (by kernel_rfl) rfl ?_) | (refine wpList_mstore rfl _ _ _ rfl rfl _ _ rfl 1 H _ _ rfl (.string _) rfl (by kernel_rfl) (of_decide_eq_true (by kernel_rfl)) (by kernel_rfl) rfl ?_) | (refine wpList_mstore rfl _ _ _ rfl rfl _ _ rfl 2 H _ _ rfl (.string _) rfl (by kernel_rfl) (of_decide_eq_true (by kernel_rfl)) (by kernel_rfl) rfl ?_) | (refine wpList_mstore rfl _ _ _ rfl rfl _ _ rfl 0 H _ _ rfl (.slice _ _ _) rfl (by kernel_rfl) (of_decide_eq_true (by kernel_rfl)) (by kernel_rfl) rfl ?_) | (refine wpList_mstore rfl _ _ _ rfl rfl _ _ rfl 1 H _ _ rfl (.slice _ _ _) rfl (by kernel_rfl) (of_decide_eq_true (by kernel_rfl)) (by kernel_rfl) rfl ?_) | (refine wpList_mstore rfl _ _ _ rfl rfl _ _ rfl 2 H _ _ rfl (.slice _ _ _) rfl (by kernel_rfl) (of_decide_eq_true (by kernel_rfl)) (by kernel_rfl) rfl ?_)); clear H; intro w1 H; simp only [List.set_cons_zero, List.set_cons_succ] at H)
    | (refine wpList_mnew rfl _ rfl H _ HZ.out ?_; clear H; intro R4 w1 _ H)
    | (refine wpList_mnew rfl _ rfl H _ HY.out ?_; clear H; intro RV w1 _ H))
  (try simp only [Act.put, List.setIfInBounds_toArray, List.set_cons_succ, List.set_cons_zero])
  replace H : Mem w.heap.size [] w w1 [(RV, #[.int .i64 r.1, .int .i64 r.2]), (R4, polZ), (RP, #[.bool p, .bool q, .slice x1 ra.length c1, .slice x2 sa.length c2])] := H
  have R1 := Lib.hid (R1.out.below H.toBelow)
  have R2 := Lib.hid (R2.out.below H.toBelow)
  refine wp_region_settledG ⟨.bool false, .bool false, .bool false, .bool false⟩ (by kernel_rfl) (by kernel_rfl) (fun b : LB => [(some 54, b.r0), (some 55, .pointer (some ⟨RP, 3, none⟩)), (some 56, .slice x2 sa.length c2), (some 57, b.r1), (some 58, .agg #[.int .i64 r.1, .int .i64 r.2]), (some 59, b.r5), (some 60, b.r6), (some 61, .pointer (some ⟨RP, 3, none⟩)), (none, undef)]) (LW w.heap.size w w1 (fun v => [(RV, #[.int .i64 r.1, .int .i64 r.2]), (R4, polZ), (RP, #[.bool p, .bool q, .slice x1 ra.length c1, v])]) sa r (.slice x1 ra.length c1) ra) 65 (by rfl) (fun _ => by rfl) (fun _ => by rfl) (fun _ => by rfl) (LW.start R1.out _) ⟨?p0, ?p1, ?p2, ?p3, ?p4, ?p5, ?p6, ?p7, ?p8, trivial⟩ ?_
  case p0 =>
    intro D i a' w' hk he hl hW
    have n8 : D 8 = false := Bool.eq_false_iff.2 fun x => by have := hW.oall x; simp [hk] at this
    exact wp_bsl _ _ rfl Tryz.underlying23 i0 hi ⟨{ i with r0 := _ }, fun j => by simp only [lookS, hk, Bool.false_eq_true, if_false, Nat.zero_add, Nat.reduceAdd], ⟨_, rfl, rfl⟩, hW.op0 n8 ((Below.refl _ _).alloc (Nat.le_refl _) _) ⟨w'.heap.size, rfl, (hW.core n8).2, heap_alloc_new w' _⟩⟩
  case p1 =>
    intro D i a' w' hk he hl hW
    have f2 : a'.tmps.getD 2 undef = .pointer (some ⟨RP, 0, none⟩) := (hl 2).trans ((lookS_absent _ 0 (by simp)).trans rfl)
    exact wp_val (.pointer (some ⟨RP, 3, none⟩)) (by simp only [execOp, Act.eval]; rw [f2]; kernel_rfl) ⟨i, fun _ => rfl, ⟨_, rfl, rfl⟩, hW.keep (by decide)⟩
  case p7 =>
    intro D i a' w' hk he hl hW
    have f2 : a'.tmps.getD 2 undef = .pointer (some ⟨RP, 0, none⟩) := (hl 2).trans ((lookS_absent _ 0 (by simp)).trans rfl)
    exact wp_val (.pointer (some ⟨RP, 3, none⟩)) (by simp only [execOp, Act.eval]; rw [f2]; kernel_rfl) ⟨i, fun _ => rfl, ⟨_, rfl, rfl⟩, hW.keep (by decide)⟩
  case p2 =>
    intro D i a' w' hk he hl hW
    have n8 : D 8 = false := Bool.eq_false_iff.2 fun x => by have := hW.oall x; simp [hk] at this
    have e1 := (hl 55).trans (lookS_at rfl (he ⟨1, .data⟩ (by simp) rfl) rfl)
    exact wp_sload1 _ _ rfl _ _ e1 2 (H.next (hW.core n8).1) _ (.slice x2 sa.length c2) rfl rfl (by decide +kernel) ⟨i, fun _ => rfl, ⟨_, rfl, rfl⟩, hW.keep (by decide)⟩
  case p3 =>
    intro D i a' w' hk he hl hW
    have n8 : D 8 = false := Bool.eq_false_iff.2 fun x => by have := hW.oall x; simp [hk] at this
    have e0 := (hl 54).trans (lookS_at rfl (he ⟨0, .data⟩ (by simp) rfl) rfl)
    have e2 := (hl 56).trans (lookS_at rfl (he ⟨2, .data⟩ (by simp) rfl) rfl)
    have hz := hW.f0 (he ⟨0, .data⟩ (by simp) rfl) hk
    obtain ⟨v', w2, hr, hb, hc⟩ := app_zero 23 _ hz (R2.out.below (hW.core n8).1) (by omega) (hW.core n8).2
    exact wp_app _ _ _ _ rfl _ _ e0 e2 v' w2 hr ⟨{ i with r1 := v' }, fun j => by simp only [lookS, hk, Bool.false_eq_true, if_false, Nat.zero_add, Nat.reduceAdd], ⟨_, rfl, rfl⟩, hW.op3 n8 hb (hc.imp id (fun h => ⟨h.1, h.2.1⟩))⟩
  case p4 =>
    intro D i a' w' hk he hl hW
    have n8 : D 8 = false := Bool.eq_false_iff.2 fun x => by have := hW.oall x; simp [hk] at this
    have f8 : a'.tmps.getD 8 undef = .pointer (some ⟨RV, 0, none⟩) := (hl 8).trans ((lookS_absent _ 0 (by simp)).trans rfl)
    exact wp_sload _ _ rfl _ _ f8 0 (H.next (hW.core n8).1) _ #[.int .i64 r.1, .int .i64 r.2] rfl (by decide +kernel) (by kernel_rfl) (fun j v hj => by rw [Nat.zero_add]; exact hj) ⟨i, fun _ => rfl, ⟨_, rfl, rfl⟩, hW.keep (by decide)⟩
  case p5 =>
    intro D i a' w' hk he hl hW
    have n8 : D 8 = false := Bool.eq_false_iff.2 fun x => by have := hW.oall x; simp [hk] at this
    have e4 := (hl 58).trans (lookS_at rfl (he ⟨4, .data⟩ (by simp) rfl) rfl)
    exact wp_bs1 _ rfl r.1 r.2 e4 ⟨{ i with r5 := _ }, fun j => by simp only [lookS, hk, Bool.false_eq_true, if_false, Nat.zero_add, Nat.reduceAdd], ⟨_, rfl, rfl⟩, hW.op5 n8 ((Below.refl _ _).alloc (Nat.le_refl _) _) (rg1 rfl r.1 r.2 _)⟩
  case p6 =>
    intro D i a' w' hk he hl hW
    have n8 : D 8 = false := Bool.eq_false_iff.2 fun x => by have := hW.oall x; simp [hk] at this
    have e3 := (hl 57).trans (lookS_at rfl (he ⟨3, .data⟩ (by simp) rfl) rfl)
    have e5 := (hl 59).trans (lookS_at rfl (he ⟨5, .data⟩ (by simp) rfl) rfl)
    have h5 := hW.f5 (he ⟨5, .data⟩ (by simp) rfl) hk
    rcases hW.f3 (he ⟨3, .data⟩ (by simp) rfl) hk with ⟨h0, hz⟩ | ⟨hne, hrow⟩
    · obtain ⟨v', w2, hr, hb, hc⟩ := app_zero 23 _ hz h5 (by simp) (hW.core n8).2
      have hv : Rg w2 v' (sa ++ [r]) := by
        rw [h0, List.nil_append]
        rcases hc with ⟨e, z⟩ | ⟨_, z, _⟩
        · cases e
        · exact z.rg
      exact wp_app _ _ _ _ rfl _ _ e3 e5 v' w2 hr ⟨{ i with r6 := v' }, fun j => by simp only [lookS, hk, Bool.false_eq_true, if_false, Nat.zero_add, Nat.reduceAdd], ⟨_, rfl, rfl⟩, hW.op6 R1.out (he ⟨3, .data⟩ (by simp) rfl) hk (.inl hb) hv⟩
    · obtain ⟨v', w2, hr, hv, hg⟩ := app_row 23 _ hrow h5 n2 (by simp) (hW.core n8).2
      exact wp_app _ _ _ _ rfl _ _ e3 e5 v' w2 hr ⟨{ i with r6 := v' }, fun j => by simp only [lookS, hk, Bool.false_eq_true, if_false, Nat.zero_add, Nat.reduceAdd], ⟨_, rfl, rfl⟩, hW.op6 R1.out (he ⟨3, .data⟩ (by simp) rfl) hk (.inr ⟨hne, hrow, hg⟩) hv.rg⟩
  case p8 =>
    intro D i a' w' hk he hl hW
    have e7 := (hl 61).trans (lookS_at rfl (he ⟨7, .data⟩ (by simp) rfl) rfl)
    have e6 := (hl 60).trans (lookS_at rfl (he ⟨6, .data⟩ (by simp) rfl) rfl)
    have h6 := he ⟨6, .data⟩ (by simp) rfl
    obtain ⟨y6, z6, hv6, _⟩ := hW.f6 h6
    have HH := H.next (hW.core hk).1
    obtain ⟨T, hT⟩ := HH.get (i := 2) rfl
    exact wp_sstore1 _ _ _ rfl rfl RP 3 e7 0 (Mem.begin hT) _ #[.bool p, .bool q, .slice x1 ra.length c1, i.r6] rfl i.r6 e6 (by rw [hv6]; kernel_rfl) (by rw [hv6]; exact of_decide_eq_true (by kernel_rfl)) (by rw [hv6]; kernel_rfl) (by rw [hv6]; rfl) fun w1 hM => ⟨i, fun _ => rfl, ⟨undef, rfl, rfl⟩, hW.op8 ⟨he ⟨0, .phase⟩ (by simp) rfl, he ⟨1, .phase⟩ (by simp) rfl, he ⟨2, .phase⟩ (by simp) rfl, he ⟨3, .phase⟩ (by simp) rfl, he ⟨4, .phase⟩ (by simp) rfl, he ⟨5, .phase⟩ (by simp) rfl, h6⟩ h6 hk HH (i := 2) rfl (noInts4 _ _ _ _ _ _ _ _) hM rfl⟩
  intro D b w' hD hW
  have H1 := hW.done (hD 8 (by decide))
  have g6 := hW.f6 (hD 6 (by decide))
  have go := hW.fo
  clear H hD hW R1 R2
  obtain ⟨b0, b1, b5, b6⟩ := b
  simp only at H1 g6
  have G6 := Lib.hid g6
  have GO := Lib.hid go
  obtain ⟨y6, z6, hv6, _⟩ := g6
  generalize hN6 : (sa ++ [r]).length = N6 at hv6
  subst hv6
  clear hN6
  replace H1 := H1.sub (List.Sublist.cons _ (List.Sublist.refl _))
  have HN := Lib.hid (show ∀ x ∈ [(R4, polZ), (RP, #[.bool p, .bool q, .slice x1 ra.length c1, .slice y6 N6 z6])], NoInts x.2 from by
    intro x hx
    simp only [List.mem_cons, List.not_mem_nil, or_false] at hx
    rcases hx with rfl | rfl
    · exact noInts4 _ _ _ _ _ _ _ _
    · exact noInts4 _ _ _ _ _ _ _ _)
  have H0 := Lib.hid H1
  have H := H1.restart
  clear H1
  simp only [putAll, List.foldl_cons, List.foldl_nil, Act.put, List.setIfInBounds_toArray, List.set_cons_succ, List.set_cons_zero]
  go_wp2_with (first | go_skip | (refine wpList_mboxA rfl _ _ rfl H _ rfl ?_; clear H; intro _ w1 _ H) | (refine gate_load _ _ rfl ?_; first | (refine wpList_mloadA rfl _ _ rfl _ rfl 0 H _ rfl (by decide +kernel) (by kernel_rfl) ?_) | (refine wpList_mloadA rfl _ _ rfl _ rfl 1 H _ rfl (by decide +kernel) (by kernel_rfl) ?_) | (refine wpList_mload1 rfl _ _ rfl _ _ rfl 0 H _ (.int _ _) rfl rfl (by decide +kernel) ?_) | (refine wpList_mload1 rfl _ _ rfl _ _ rfl 1 H _ (.int _ _) rfl rfl (by decide +kernel) ?_) | (refine wpList_mload1 rfl _ _ rfl _ _ rfl 0 H _ (.bool _) rfl rfl (by decide +kernel) ?_) | (refine wpList_mload1 rfl _ _ rfl _ _ rfl 1 H _ (.bool _) rfl rfl (by decide +kernel) ?_) | (refine wpList_mload1 rfl _ _ rfl _ _ rfl 0 H _ (.pointer _) rfl rfl (by decide +kernel) ?_) | (refine wpList_mload1 rfl _ _ rfl _ _ rfl 1 H _ (.pointer _) rfl rfl (by decide +kernel) ?_) | (refine wpList_mload1 rfl _ _ rfl _ _ rfl 0 H _ (.string _) rfl rfl (by decide +kernel) ?_) | (refine wpList_mload1 rfl _ _ rfl _ _ rfl 1 H _ (.string _) rfl rfl (by decide +kernel) ?_) | (refine wpList_mload1 rfl _ _ rfl _ _ rfl 0 H _ (.slice _ _ _) rfl rfl (by decide +kernel) ?_) | (refine wpList_mload1 rfl _ _ rfl _ _ rfl 1 H _ (.slice _ _ _) rfl rfl (by decide +kernel) ?_)) | (refine gate_store _ _ _ rfl ?_; (first | (refine wpList_mstoreA rfl _ _ _ rfl rfl _ rfl 0 H _ _ rfl rfl (by kernel_rfl) (by kernel_rfl) (by kernel_rfl) ?_) | (refine wpList_mstoreA rfl _ _ _ rfl rfl _ rfl 1 H _ _ rfl rfl (by kernel_rfl) (by kernel_rfl) (by kernel_rfl) ?_) | (refine wpList_mstore rfl _ _ _ rfl rfl _ _ rfl 0 H _ _ rfl (.int _ _) rfl (by kernel_rfl) (of_decide_eq_true (by kernel_rfl)) (by kernel_rfl) rfl ?_) | (refine wpList_mstore rfl _ _ _ rfl rfl _ _ rfl 1 H _ _ rfl (.int _ _) rfl (by kernel_rfl) (of_decide_eq_true (by kernel_rfl)) (by kernel_rfl) rfl ?_) | (refine wpList_mstore rfl _ _ _ rfl rfl _ _ rfl 0 H _ _ rfl (.bool _) rfl (by kernel_rfl) (of_decide_eq_true (by kernel_rfl)) (by kernel_rfl) rfl ?_) | (refine wpList_mstore rfl _ _ _ rfl rfl _ _ rfl 1 H _ _ rfl (.bool _) rfl (by kernel_rfl) (of_decide_eq_true (by kernel_rfl)) (by kernel_rfl) rfl ?_) | (refine wpList_mstore rfl _ _ _ rfl rfl _ _ rfl 0 H _ _ rfl (.pointer _) rfl (by kernel_rfl) (of_decide_eq_true (by kernel_rfl)) (by kernel_rfl) rfl ?_) | (refine wpList_mstore rfl _ _ _ rfl rfl _ _ rfl 1 H _ _ rfl (.pointer _) rfl (by kernel_rfl) (of_decide_eq_true (by kernel_rfl)) (by kernel_rfl) rfl ?_) | (refine wpList_mstore rfl _ _ _ rfl rfl _ _ rfl 0 H _ _ rfl (.string _) rfl (by kernel_rfl) (of_decide_eq_true (by kernel_rfl)) (by kernel_rfl) rfl ?_) | (refine wpList_mstore rfl _ _ _ rfl rfl _ _ rfl 1 H _ _ rfl (.string _) rfl (by kernel_rfl) (of_decide_eq_true (by kernel_rfl)) (by kernel_rfl) rfl ?_) | (refine wpList_mstore rfl _ _ _ rfl rfl _ _ rfl 0 H _ _ rfl (.slice _ _ _) rfl (by kernel_rfl) (of_decide_eq_true (by kernel_rfl)) (by kernel_rfl) rfl ?_) | (refine wpList_mstore rfl _ _ _ rfl rfl _ _ rfl 1 H _ _ rfl (.slice _ _ _) rfl (by kernel_rfl) (of_decide_eq_true (by kernel_rfl)) (by kernel_rfl) rfl ?_)); clear H; intro w1 H; simp only [List.set_cons_zero, List.set_cons_succ] at H))
  refine ret_mem2 rfl _ rfl 0 H _ rfl (by kernel_rfl) (by kernel_rfl) rfl _ rfl ?_
  have hb := bad_no (l := t.data.toList) (by rw [hk]; intro e; cases e)
  exact ⟨p, q, _, _, ra, sa ++ [r], by rw [hb]; rfl, rg_mem GO.out H0.out HN.out H, rg_mem G6.out H0.out HN.out H, H0.out.below2 H, fun _ => ⟨by rw [any1, hk]; simp, by rw [any2, hk]; simp, by rw [rams1]; unfold ramOf; rw [hk]; simp, by rw [saves1]; unfold saveOf; rw [hk]; simp⟩⟩
set_option maxHeartbeats 4000000 in
theorem rline_sn (p q : Bool) (sv tv : Value) (ra sa : List (Int × Int)) (t : ByteArray) (w : World) (h1 : Rg w sv ra) (h2 : Rg w tv sa) (hs : t.size ≤ 5000) (n1 : ra.length ≤ 50000) (n2 : sa.length ≤ 50000) (hO : spanL 8192 (t.data.toList.drop 5) = none) (hk : cls t.data.toList = .bad) (z0 : 0 < t.size) (e0 : t.toList.isEmpty = false) (e1 : (((t[0]'z0).toNat : Int) == 35) = false) (e2 : (t.toList == [112, 111, 114, 116, 32, 49]) = false) (e3 : (t.toList == [112, 111, 114, 116, 32, 50]) = false) (k1 : Lib.hasPrefix t.data.toList (⟨#[114, 97, 109, 32]⟩ : ByteArray).data.toList = false) (k2 : Lib.hasPrefix t.data.toList (⟨#[115, 97, 118, 101, 32]⟩ : ByteArray).data.toList = true)  : Calls Tryz.prog 12 #[polV p q sv tv, .string t] w (LineP p q ra sa t.data.toList w) := by
  have R1 := Lib.hid h1
  have R2 := Lib.hid h2
  obtain ⟨x1, c1, rfl, _⟩ := h1
  obtain ⟨x2, c2, rfl, _⟩ := h2
  have HZ := Lib.hid alloc_pol
  have HY := Lib.hid alloc_range
  have H := Mem.start w
  have B1 := Lib.hid (fun wr => (by have := rbegins_ct t ⟨#[114, 97, 109, 32]⟩ wr hs (by decide); rwa [k1] at this : Calls Tryz.prog 29 #[.string t, .string ⟨#[114, 97, 109, 32]⟩] wr fun e w' => e = .returned (.bool false) ∧ Below wr.heap.size wr w'))
  have B2 := Lib.hid (fun wr => (by have := rbegins_ct t ⟨#[115, 97, 118, 101, 32]⟩ wr hs (by decide); rwa [k2] at this : Calls Tryz.prog 29 #[.string t, .string ⟨#[115, 97, 118, 101, 32]⟩] wr fun e w' => e = .returned (.bool true) ∧ Below wr.heap.size wr w'))
  have QS := Lib.hid (fun wr => (by have := rspan_ct (t.extract 5 t.size) 8192 wr (by rw [ByteArray.size_extract]; omega) (by decide) (by decide); rwa [drop_ex, hO] at this : Calls Tryz.prog 30 #[.string (t.extract 5 t.size), .int .i64 8192] wr (SpanP none wr)))
  obtain ⟨i0, hi, _, _, _⟩ := info_parts info_range
  unfold polV
  have zk : 5 ≤ t.size := by
    have hlen : t.data.toList.length = t.size := by rw [Array.length_toList]; rfl
    unfold Lib.hasPrefix at k2
    have := (List.isPrefixOf_iff_prefix.1 k2).length_le
    rw [hlen] at this
    exact this
  go_enter Tryz.func12, Tryz.ntmps12
  go_wp2_with (first
    | (refine wpList_mboxA rfl _ _ rfl H #[.bool p, .bool q, .slice x1 ra.length c1, .slice x2 sa.length c2] rfl ?_; clear H; intro RP w1 _ H)
    | (go_at_call 29; first
        | (with_reducible refine (B1.out _).mono ?_; rintro e w2 ⟨rfl, hB⟩; replace H := H.next hB; clear hB)
        | (with_reducible refine (B2.out _).mono ?_; rintro e w2 ⟨rfl, hB⟩; replace H := H.next hB; clear hB))
    | (go_at_call 30; (with_reducible refine (QS.out _).mono ?_); rintro e w2 ⟨r, rfl, hr, hB⟩; replace H := H.next hB; clear hB; clear hr)
    | go_skip | (refine wpList_mboxA rfl _ _ rfl H _ rfl ?_; clear H; intro _ w1 _ H) | (refine gate_load _ _ rfl ?_; first | (refine wpList_mloadA rfl _ _ rfl _ rfl 0 H _ rfl (by decide +kernel) (by kernel_rfl) ?_) | (refine wpList_mloadA rfl _ _ rfl _ rfl 1 H _ rfl (by decide +kernel) (by kernel_rfl) ?_) | (refine wpList_mloadA rfl _ _ rfl _ rfl 2 H _ rfl (by decide +kernel) (by kernel_rfl) ?_) | (refine wpList_mload1 rfl _ _ rfl _ _ rfl 0 H _ (.int _ _) rfl rfl (by decide +kernel) ?_) | (refine wpList_mload1 rfl _ _ rfl _ _ rfl 1 H _ (.int _ _) rfl rfl (by decide +kernel) ?_) | (refine wpList_mload1 rfl _ _ rfl _ _ rfl 2 H _ (.int _ _) rfl rfl (by decide +kernel) ?_) | (refine wpList_mload1 rfl _ _ rfl _ _ rfl 0 H _ (.bool _) rfl rfl (by decide +kernel) ?_) | (refine wpList_mload1 rfl _ _ rfl _ _ rfl 1 H _ (.bool _) rfl rfl (by decide +kernel) ?_) | (refine wpList_mload1 rfl _ _ rfl _ _ rfl 2 H _ (.bool _) rfl rfl (by decide +kernel) ?_) | (refine wpList_mload1 rfl _ _ rfl _ _ rfl 0 H _ (.pointer _) rfl rfl (by decide +kernel) ?_) | (refine wpList_mload1 rfl _ _ rfl _ _ rfl 1 H _ (.pointer _) rfl rfl (by decide +kernel) ?_) | (refine wpList_mload1 rfl _ _ rfl _ _ rfl 2 H _ (.pointer _) rfl rfl (by decide +kernel) ?_) | (refine wpList_mload1 rfl _ _ rfl _ _ rfl 0 H _ (.string _) rfl rfl (by decide +kernel) ?_) | (refine wpList_mload1 rfl _ _ rfl _ _ rfl 1 H _ (.string _) rfl rfl (by decide +kernel) ?_) | (refine wpList_mload1 rfl _ _ rfl _ _ rfl 2 H _ (.string _) rfl rfl (by decide +kernel) ?_) | (refine wpList_mload1 rfl _ _ rfl _ _ rfl 0 H _ (.slice _ _ _) rfl rfl (by decide +kernel) ?_) | (refine wpList_mload1 rfl _ _ rfl _ _ rfl 1 H _ (.slice _ _ _) rfl rfl (by decide +kernel) ?_) | (refine wpList_mload1 rfl _ _ rfl _ _ rfl 2 H _ (.slice _ _ _) rfl rfl (by decide +kernel) ?_)) | (refine gate_store _ _ _ rfl ?_; (first | (refine wpList_mstoreA rfl _ _ _ rfl rfl _ rfl 0 H _ _ rfl rfl (by kernel_rfl) (by kernel_rfl) (by kernel_rfl) ?_) | (refine wpList_mstoreA rfl _ _ _ rfl rfl _ rfl 1 H _ _ rfl rfl (by kernel_rfl) (by kernel_rfl) (by kernel_rfl) ?_) | (refine wpList_mstoreA rfl _ _ _ rfl rfl _ rfl 2 H _ _ rfl rfl (by kernel_rfl) (by kernel_rfl) (by kernel_rfl) ?_) | (refine wpList_mstore rfl _ _ _ rfl rfl _ _ rfl 0 H _ _ rfl (.int _ _) rfl (by kernel_rfl) (of_decide_eq_true (by kernel_rfl)) (by kernel_rfl) rfl ?_) | (refine wpList_mstore rfl _ _ _ rfl rfl _ _ rfl 1 H _ _ rfl (.int _ _) rfl (by kernel_rfl) (of_decide_eq_true (by kernel_rfl)) (by kernel_rfl) rfl ?_) | (refine wpList_mstore rfl _ _ _ rfl rfl _ _ rfl 2 H _ _ rfl (.int _ _) rfl (by kernel_rfl) (of_decide_eq_true (by kernel_rfl)) (by kernel_rfl) rfl ?_) | (refine wpList_mstore rfl _ _ _ rfl rfl _ _ rfl 0 H _ _ rfl (.bool _) rfl (by kernel_rfl) (of_decide_eq_true (by kernel_rfl)) (by kernel_rfl) rfl ?_) | (refine wpList_mstore rfl _ _ _ rfl rfl _ _ rfl 1 H _ _ rfl (.bool _) rfl (by kernel_rfl) (of_decide_eq_true (by kernel_rfl)) (by kernel_rfl) rfl ?_) | (refine wpList_mstore rfl _ _ _ rfl rfl _ _ rfl 2 H _ _ rfl (.bool _) rfl (by kernel_rfl) (of_decide_eq_true (by kernel_rfl)) (by kernel_rfl) rfl ?_) | (refine wpList_mstore rfl _ _ _ rfl rfl _ _ rfl 0 H _ _ rfl (.pointer _) rfl (by kernel_rfl) (of_decide_eq_true (by kernel_rfl)) (by kernel_rfl) rfl ?_) | (refine wpList_mstore rfl _ _ _ rfl rfl _ _ rfl 1 H _ _ rfl (.pointer _) rfl (by kernel_rfl) (of_decide_eq_true (by kernel_rfl)) (by kernel_rfl) rfl ?_) | (refine wpList_mstore rfl _ _ _ rfl rfl _ _ rfl 2 H _ _ rfl (.pointer _) rfl (by kernel_rfl) (of_decide_eq_true (by kernel_rfl)) (by kernel_rfl) rfl ?_) | (refine wpList_mstore rfl _ _ _ rfl rfl _ _ rfl 0 H _ _ rfl (.string _) rfl (by kernel_rfl) (of_decide_eq_true (by kernel_rfl)) (by kernel_rfl) rfl ?_) | (refine wpList_mstore rfl _ _ _ rfl rfl _ _ rfl 1 H _ _ rfl (.string _) rfl (by kernel_rfl) (of_decide_eq_true (by kernel_rfl)) (by kernel_rfl) rfl ?_) | (refine wpList_mstore rfl _ _ _ rfl rfl _ _ rfl 2 H _ _ rfl (.string _) rfl (by kernel_rfl) (of_decide_eq_true (by kernel_rfl)) (by kernel_rfl) rfl ?_) | (refine wpList_mstore rfl _ _ _ rfl rfl _ _ rfl 0 H _ _ rfl (.slice _ _ _) rfl (by kernel_rfl) (of_decide_eq_true (by kernel_rfl)) (by kernel_rfl) rfl ?_) | (refine wpList_mstore rfl _ _ _ rfl rfl _ _ rfl 1 H _ _ rfl (.slice _ _ _) rfl (by kernel_rfl) (of_decide_eq_true (by kernel_rfl)) (by kernel_rfl) rfl ?_) | (refine wpList_mstore rfl _ _ _ rfl rfl _ _ rfl 2 H _ _ rfl (.slice _ _ _) rfl (by kernel_rfl) (of_decide_eq_true (by kernel_rfl)) (by kernel_rfl) rfl ?_)); clear H; intro w1 H; simp only [List.set_cons_zero, List.set_cons_succ] at H)
    | (refine wpList_mnew rfl _ rfl H _ HZ.out ?_; clear H; intro R4 w1 _ H)
    | (refine wpList_mnew rfl _ rfl H _ HY.out ?_; clear H; intro RV w1 _ H))
  (try simp only [Act.put, List.setIfInBounds_toArray, List.set_cons_succ, List.set_cons_zero])
  replace H : Mem w.heap.size [] w w1 [(RV, #[.int .i64 r.1, .int .i64 r.2]), (R4, polZ), (RP, #[.bool p, .bool q, .slice x1 ra.length c1, .slice x2 sa.length c2])] := H
  have R1 := Lib.hid (R1.out.below H.toBelow)
  have R2 := Lib.hid (R2.out.below H.toBelow)
  refine wp_region_settledG ⟨.bool false, .bool false, .bool false, .bool false⟩ (by kernel_rfl) (by kernel_rfl) (fun b : LB => [(some 54, b.r0), (some 55, .pointer (some ⟨RP, 3, none⟩)), (some 56, .slice x2 sa.length c2), (some 57, b.r1), (some 58, .agg #[.int .i64 r.1, .int .i64 r.2]), (some 59, b.r5), (some 60, b.r6), (some 61, .pointer (some ⟨RP, 3, none⟩)), (none, undef)]) (LW w.heap.size w w1 (fun v => [(RV, #[.int .i64 r.1, .int .i64 r.2]), (R4, polZ), (RP, #[.bool p, .bool q, .slice x1 ra.length c1, v])]) sa r (.slice x1 ra.length c1) ra) 65 (by rfl) (fun _ => by rfl) (fun _ => by rfl) (fun _ => by rfl) (LW.start R1.out _) ⟨?p0, ?p1, ?p2, ?p3, ?p4, ?p5, ?p6, ?p7, ?p8, trivial⟩ ?_
  case p0 =>
    intro D i a' w' hk he hl hW
    have n8 : D 8 = false := Bool.eq_false_iff.2 fun x => by have := hW.oall x; simp [hk] at this
    exact wp_bsl _ _ rfl Tryz.underlying23 i0 hi ⟨{ i with r0 := _ }, fun j => by simp only [lookS, hk, Bool.false_eq_true, if_false, Nat.zero_add, Nat.reduceAdd], ⟨_, rfl, rfl⟩, hW.op0 n8 ((Below.refl _ _).alloc (Nat.le_refl _) _) ⟨w'.heap.size, rfl, (hW.core n8).2, heap_alloc_new w' _⟩⟩
  case p1 =>
    intro D i a' w' hk he hl hW
    have f2 : a'.tmps.getD 2 undef = .pointer (some ⟨RP, 0, none⟩) := (hl 2).trans ((lookS_absent _ 0 (by simp)).trans rfl)
    exact wp_val (.pointer (some ⟨RP, 3, none⟩)) (by simp only [execOp, Act.eval]; rw [f2]; kernel_rfl) ⟨i, fun _ => rfl, ⟨_, rfl, rfl⟩, hW.keep (by decide)⟩
  case p7 =>
    intro D i a' w' hk he hl hW
    have f2 : a'.tmps.getD 2 undef = .pointer (some ⟨RP, 0, none⟩) := (hl 2).trans ((lookS_absent _ 0 (by simp)).trans rfl)
    exact wp_val (.pointer (some ⟨RP, 3, none⟩)) (by simp only [execOp, Act.eval]; rw [f2]; kernel_rfl) ⟨i, fun _ => rfl, ⟨_, rfl, rfl⟩, hW.keep (by decide)⟩
  case p2 =>
    intro D i a' w' hk he hl hW
    have n8 : D 8 = false := Bool.eq_false_iff.2 fun x => by have := hW.oall x; simp [hk] at this
    have e1 := (hl 55).trans (lookS_at rfl (he ⟨1, .data⟩ (by simp) rfl) rfl)
    exact wp_sload1 _ _ rfl _ _ e1 2 (H.next (hW.core n8).1) _ (.slice x2 sa.length c2) rfl rfl (by decide +kernel) ⟨i, fun _ => rfl, ⟨_, rfl, rfl⟩, hW.keep (by decide)⟩
  case p3 =>
    intro D i a' w' hk he hl hW
    have n8 : D 8 = false := Bool.eq_false_iff.2 fun x => by have := hW.oall x; simp [hk] at this
    have e0 := (hl 54).trans (lookS_at rfl (he ⟨0, .data⟩ (by simp) rfl) rfl)
    have e2 := (hl 56).trans (lookS_at rfl (he ⟨2, .data⟩ (by simp) rfl) rfl)
    have hz := hW.f0 (he ⟨0, .data⟩ (by simp) rfl) hk
    obtain ⟨v', w2, hr, hb, hc⟩ := app_zero 23 _ hz (R2.out.below (hW.core n8).1) (by omega) (hW.core n8).2
    exact wp_app _ _ _ _ rfl _ _ e0 e2 v' w2 hr ⟨{ i with r1 := v' }, fun j => by simp only [lookS, hk, Bool.false_eq_true, if_false, Nat.zero_add, Nat.reduceAdd], ⟨_, rfl, rfl⟩, hW.op3 n8 hb (hc.imp id (fun h => ⟨h.1, h.2.1⟩))⟩
  case p4 =>
    intro D i a' w' hk he hl hW
    have n8 : D 8 = false := Bool.eq_false_iff.2 fun x => by have := hW.oall x; simp [hk] at this
    have f8 : a'.tmps.getD 8 undef = .pointer (some ⟨RV, 0, none⟩) := (hl 8).trans ((lookS_absent _ 0 (by simp)).trans rfl)
    exact wp_sload _ _ rfl _ _ f8 0 (H.next (hW.core n8).1) _ #[.int .i64 r.1, .int .i64 r.2] rfl (by decide +kernel) (by kernel_rfl) (fun j v hj => by rw [Nat.zero_add]; exact hj) ⟨i, fun _ => rfl, ⟨_, rfl, rfl⟩, hW.keep (by decide)⟩
  case p5 =>
    intro D i a' w' hk he hl hW
    have n8 : D 8 = false := Bool.eq_false_iff.2 fun x => by have := hW.oall x; simp [hk] at this
    have e4 := (hl 58).trans (lookS_at rfl (he ⟨4, .data⟩ (by simp) rfl) rfl)
    exact wp_bs1 _ rfl r.1 r.2 e4 ⟨{ i with r5 := _ }, fun j => by simp only [lookS, hk, Bool.false_eq_true, if_false, Nat.zero_add, Nat.reduceAdd], ⟨_, rfl, rfl⟩, hW.op5 n8 ((Below.refl _ _).alloc (Nat.le_refl _) _) (rg1 rfl r.1 r.2 _)⟩
  case p6 =>
    intro D i a' w' hk he hl hW
    have n8 : D 8 = false := Bool.eq_false_iff.2 fun x => by have := hW.oall x; simp [hk] at this
    have e3 := (hl 57).trans (lookS_at rfl (he ⟨3, .data⟩ (by simp) rfl) rfl)
    have e5 := (hl 59).trans (lookS_at rfl (he ⟨5, .data⟩ (by simp) rfl) rfl)
    have h5 := hW.f5 (he ⟨5, .data⟩ (by simp) rfl) hk
    rcases hW.f3 (he ⟨3, .data⟩ (by simp) rfl) hk with ⟨h0, hz⟩ | ⟨hne, hrow⟩
    · obtain ⟨v', w2, hr, hb, hc⟩ := app_zero 23 _ hz h5 (by simp) (hW.core n8).2
      have hv : Rg w2 v' (sa ++ [r]) := by
        rw [h0, List.nil_append]
        rcases hc with ⟨e, z⟩ | ⟨_, z, _⟩
        · cases e
        · exact z.rg
      exact wp_app _ _ _ _ rfl _ _ e3 e5 v' w2 hr ⟨{ i with r6 := v' }, fun j => by simp only [lookS, hk, Bool.false_eq_true, if_false, Nat.zero_add, Nat.reduceAdd], ⟨_, rfl, rfl⟩, hW.op6 R1.out (he ⟨3, .data⟩ (by simp) rfl) hk (.inl hb) hv⟩
    · obtain ⟨v', w2, hr, hv, hg⟩ := app_row 23 _ hrow h5 n2 (by simp) (hW.core n8).2
      exact wp_app _ _ _ _ rfl _ _ e3 e5 v' w2 hr ⟨{ i with r6 := v' }, fun j => by simp only [lookS, hk, Bool.false_eq_true, if_false, Nat.zero_add, Nat.reduceAdd], ⟨_, rfl, rfl⟩, hW.op6 R1.out (he ⟨3, .data⟩ (by simp) rfl) hk (.inr ⟨hne, hrow, hg⟩) hv.rg⟩
  case p8 =>
    intro D i a' w' hk he hl hW
    have e7 := (hl 61).trans (lookS_at rfl (he ⟨7, .data⟩ (by simp) rfl) rfl)
    have e6 := (hl 60).trans (lookS_at rfl (he ⟨6, .data⟩ (by simp) rfl) rfl)
    have h6 := he ⟨6, .data⟩ (by simp) rfl
    obtain ⟨y6, z6, hv6, _⟩ := hW.f6 h6
    have HH := H.next (hW.core hk).1
    obtain ⟨T, hT⟩ := HH.get (i := 2) rfl
    exact wp_sstore1 _ _ _ rfl rfl RP 3 e7 0 (Mem.begin hT) _ #[.bool p, .bool q, .slice x1 ra.length c1, i.r6] rfl i.r6 e6 (by rw [hv6]; kernel_rfl) (by rw [hv6]; exact of_decide_eq_true (by kernel_rfl)) (by rw [hv6]; kernel_rfl) (by rw [hv6]; rfl) fun w1 hM => ⟨i, fun _ => rfl, ⟨undef, rfl, rfl⟩, hW.op8 ⟨he ⟨0, .phase⟩ (by simp) rfl, he ⟨1, .phase⟩ (by simp) rfl, he ⟨2, .phase⟩ (by simp) rfl, he ⟨3, .phase⟩ (by simp) rfl, he ⟨4, .phase⟩ (by simp) rfl, he ⟨5, .phase⟩ (by simp) rfl, h6⟩ h6 hk HH (i := 2) rfl (noInts4 _ _ _ _ _ _ _ _) hM rfl⟩
  intro D b w' hD hW
  have H1 := hW.done (hD 8 (by decide))
  have g6 := hW.f6 (hD 6 (by decide))
  have go := hW.fo
  clear H hD hW R1 R2
  obtain ⟨b0, b1, b5, b6⟩ := b
  simp only at H1 g6
  have G6 := Lib.hid g6
  have GO := Lib.hid go
  obtain ⟨y6, z6, hv6, _⟩ := g6
  generalize hN6 : (sa ++ [r]).length = N6 at hv6
  subst hv6
  clear hN6
  replace H1 := H1.sub (List.Sublist.cons _ (List.Sublist.refl _))
  have HN := Lib.hid (show ∀ x ∈ [(R4, polZ), (RP, #[.bool p, .bool q, .slice x1 ra.length c1, .slice y6 N6 z6])], NoInts x.2 from by
    intro x hx
    simp only [List.mem_cons, List.not_mem_nil, or_false] at hx
    rcases hx with rfl | rfl
    · exact noInts4 _ _ _ _ _ _ _ _
    · exact noInts4 _ _ _ _ _ _ _ _)
  have H0 := Lib.hid H1
  have H := H1.restart
  clear H1
  simp only [putAll, List.foldl_cons, List.foldl_nil, Act.put, List.setIfInBounds_toArray, List.set_cons_succ, List.set_cons_zero]
  go_wp2_with (first | go_skip | (refine wpList_mboxA rfl _ _ rfl H _ rfl ?_; clear H; intro _ w1 _ H) | (refine gate_load _ _ rfl ?_; first | (refine wpList_mloadA rfl _ _ rfl _ rfl 0 H _ rfl (by decide +kernel) (by kernel_rfl) ?_) | (refine wpList_mloadA rfl _ _ rfl _ rfl 1 H _ rfl (by decide +kernel) (by kernel_rfl) ?_) | (refine wpList_mload1 rfl _ _ rfl _ _ rfl 0 H _ (.int _ _) rfl rfl (by decide +kernel) ?_) | (refine wpList_mload1 rfl _ _ rfl _ _ rfl 1 H _ (.int _ _) rfl rfl (by decide +kernel) ?_) | (refine wpList_mload1 rfl _ _ rfl _ _ rfl 0 H _ (.bool _) rfl rfl (by decide +kernel) ?_) | (refine wpList_mload1 rfl _ _ rfl _ _ rfl 1 H _ (.bool _) rfl rfl (by decide +kernel) ?_) | (refine wpList_mload1 rfl _ _ rfl _ _ rfl 0 H _ (.pointer _) rfl rfl (by decide +kernel) ?_) | (refine wpList_mload1 rfl _ _ rfl _ _ rfl 1 H _ (.pointer _) rfl rfl (by decide +kernel) ?_) | (refine wpList_mload1 rfl _ _ rfl _ _ rfl 0 H _ (.string _) rfl rfl (by decide +kernel) ?_) | (refine wpList_mload1 rfl _ _ rfl _ _ rfl 1 H _ (.string _) rfl rfl (by decide +kernel) ?_) | (refine wpList_mload1 rfl _ _ rfl _ _ rfl 0 H _ (.slice _ _ _) rfl rfl (by decide +kernel) ?_) | (refine wpList_mload1 rfl _ _ rfl _ _ rfl 1 H _ (.slice _ _ _) rfl rfl (by decide +kernel) ?_)) | (refine gate_store _ _ _ rfl ?_; (first | (refine wpList_mstoreA rfl _ _ _ rfl rfl _ rfl 0 H _ _ rfl rfl (by kernel_rfl) (by kernel_rfl) (by kernel_rfl) ?_) | (refine wpList_mstoreA rfl _ _ _ rfl rfl _ rfl 1 H _ _ rfl rfl (by kernel_rfl) (by kernel_rfl) (by kernel_rfl) ?_) | (refine wpList_mstore rfl _ _ _ rfl rfl _ _ rfl 0 H _ _ rfl (.int _ _) rfl (by kernel_rfl) (of_decide_eq_true (by kernel_rfl)) (by kernel_rfl) rfl ?_) | (refine wpList_mstore rfl _ _ _ rfl rfl _ _ rfl 1 H _ _ rfl (.int _ _) rfl (by kernel_rfl) (of_decide_eq_true (by kernel_rfl)) (by kernel_rfl) rfl ?_) | (refine wpList_mstore rfl _ _ _ rfl rfl _ _ rfl 0 H _ _ rfl (.bool _) rfl (by kernel_rfl) (of_decide_eq_true (by kernel_rfl)) (by kernel_rfl) rfl ?_) | (refine wpList_mstore rfl _ _ _ rfl rfl _ _ rfl 1 H _ _ rfl (.bool _) rfl (by kernel_rfl) (of_decide_eq_true (by kernel_rfl)) (by kernel_rfl) rfl ?_) | (refine wpList_mstore rfl _ _ _ rfl rfl _ _ rfl 0 H _ _ rfl (.pointer _) rfl (by kernel_rfl) (of_decide_eq_true (by kernel_rfl)) (by kernel_rfl) rfl ?_) | (refine wpList_mstore rfl _ _ _ rfl rfl _ _ rfl 1 H _ _ rfl (.pointer _) rfl (by kernel_rfl) (of_decide_eq_true (by kernel_rfl)) (by kernel_rfl) rfl ?_) | (refine wpList_mstore rfl _ _ _ rfl rfl _ _ rfl 0 H _ _ rfl (.string _) rfl (by kernel_rfl) (of_decide_eq_true (by kernel_rfl)) (by kernel_rfl) rfl ?_) | (refine wpList_mstore rfl _ _ _ rfl rfl _ _ rfl 1 H _ _ rfl (.string _) rfl (by kernel_rfl) (of_decide_eq_true (by kernel_rfl)) (by kernel_rfl) rfl ?_) | (refine wpList_mstore rfl _ _ _ rfl rfl _ _ rfl 0 H _ _ rfl (.slice _ _ _) rfl (by kernel_rfl) (of_decide_eq_true (by kernel_rfl)) (by kernel_rfl) rfl ?_) | (refine wpList_mstore rfl _ _ _ rfl rfl _ _ rfl 1 H _ _ rfl (.slice _ _ _) rfl (by kernel_rfl) (of_decide_eq_true (by kernel_rfl)) (by kernel_rfl) rfl ?_)); clear H; intro w1 H; simp only [List.set_cons_zero, List.set_cons_succ] at H))
  refine ret_mem2 rfl _ rfl 0 H _ rfl (by kernel_rfl) (by kernel_rfl) rfl _ rfl ?_
  have hb : isBad t.data.toList = true := by unfold isBad; rw [hk]; rfl
  exact ⟨p, q, _, _, ra, sa ++ [r], by rw [hb]; rfl, rg_mem GO.out H0.out HN.out H, rg_mem G6.out H0.out HN.out H, H0.out.below2 H, fun e => by rw [hb] at e; cases e⟩
theorem rline_ct (p q : Bool) (sv tv : Value) (ra sa : List (Int × Int)) (t : ByteArray) (w : World) (h1 : Rg w sv ra) (h2 : Rg w tv sa) (hs : t.size ≤ 5000) (n1 : ra.length ≤ 50000) (n2 : sa.length ≤ 50000) : Calls Tryz.prog 12 #[polV p q sv tv, .string t] w (LineP p q ra sa t.data.toList w) := by
  rcases line_cases t with ⟨e0, hk⟩ | ⟨z0, e0, ⟨e1, hk⟩ | ⟨e1, ⟨e2, hk⟩ | ⟨e2, ⟨e3, hk⟩ | ⟨e3, hc⟩⟩⟩⟩
  · exact rline_s0 p q sv tv ra sa t w h1 h2 hs n1 n2 hk e0
  · exact rline_s1 p q sv tv ra sa t w h1 h2 hs n1 n2 hk z0 e0 e1
  · exact rline_p1 p q sv tv ra sa t w h1 h2 hs n1 n2 hk z0 e0 e1 e2
  · exact rline_p2 p q sv tv ra sa t w h1 h2 hs n1 n2 hk z0 e0 e1 e2 e3
  cases k1 : Lib.hasPrefix t.data.toList ramW
  · cases k2 : Lib.hasPrefix t.data.toList saveW
    · exact rline_no p q sv tv ra sa t w h1 h2 hs n1 n2 (cls_none' k1 k2 hc) z0 e0 e1 e2 e3 k1 k2
    · have hk := cls_save' k1 k2 hc
      cases hO : spanL 8192 (t.data.toList.drop 5) with
      | none => rw [hO] at hk; exact rline_sn p q sv tv ra sa t w h1 h2 hs n1 n2 hO hk z0 e0 e1 e2 e3 k1 k2
      | some r => rw [hO] at hk; exact rline_ss p q sv tv ra sa t w h1 h2 hs n1 n2 r hO hk z0 e0 e1 e2 e3 k1 k2
  · have hk := cls_ram' k1 hc
    cases hO : spanL 2048 (t.data.toList.drop 4) with
    | none => rw [hO] at hk; exact rline_rn p q sv tv ra sa t w h1 h2 hs n1 n2 hO hk z0 e0 e1 e2 e3 k1
    | some r => rw [hO] at hk; exact rline_rs p q sv tv ra sa t w h1 h2 hs n1 n2 r hO hk z0 e0 e1 e2 e3 k1
end Go.Proofs.YtfceifmhlmiiiaaGreatDoor
