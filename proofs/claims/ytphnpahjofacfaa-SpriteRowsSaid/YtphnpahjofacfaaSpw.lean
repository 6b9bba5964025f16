/-
  What the laws of layer 15 share: rows of bytes that are written, Few, none, ints, awake. Over this seat's translation; no condition. (Written by gen_sp.py.)
-/
import Derived.Test.YtphnpahjofacfaaSpe
import Derived.Test.YtphnpahjofacfaaSpg
import Derived.Test.YtphnpahjofacfaaSpi
import Derived.Test.YtphnpahjofacfaaSpo
namespace Go.Proofs.Ytphnpahjofacfaa
open Go.RowKit Go.Sort
set_option linter.unusedSimpArgs false
set_option linter.unusedVariables false
set_option maxRecDepth 20000

theorem Rd.takeS {w : World} {b off cap : Nat} {l : List (Int × Bool)} (n : Nat) (hn : n ≤ l.length) (hcap : l.length ≤ cap) (hm : cap ≤ maxLen) (hb : b < w.heap.size)
    (hc : ∀ k, k < l.length → w.cell? ⟨b, off + k * 2, none⟩ = some (.int .u8 (nth l k).1) ∧ w.cell? ⟨b, off + k * 2 + 1, none⟩ = some (.bool (nth l k).2)) : Rd w (.slice (some ⟨b, off, none⟩) n cap) (l.take n) := by
  refine ⟨some ⟨b, off, none⟩, cap, by rw [List.length_take, Nat.min_eq_left hn], by rw [List.length_take]; omega, hm, .inr ⟨b, off, rfl, hb, fun k hk => ?_⟩⟩
  rw [List.length_take] at hk
  have e : nth (l.take n) k = nth l k := by
    unfold nth
    rw [List.getD_eq_getElem?_getD, List.getD_eq_getElem?_getD, List.getElem?_take, if_pos (by omega)]
  rw [e]
  exact hc k (by omega)
/-- A slice of 256 bytes, as where it lies. -/
theorem Rd.ls {w : World} {v : Value} {l : List (Int × Bool)} (h : Rd w v l) (hl : l.length = 256) : ∃ b off cap, v = .slice (some ⟨b, off, none⟩) 256 cap ∧ Ls w b off l ∧ 256 ≤ cap ∧ cap ≤ maxLen := by
  obtain ⟨a, cap, rfl, hc, hm, h⟩ := h
  rcases h with rfl | ⟨b, off, rfl, hb, hq⟩
  · simp at hl
  · exact ⟨b, off, cap, by rw [hl], ⟨hb, hq⟩, by omega, hm⟩
theorem Rd.sh {w : World} {v : Value} {l : List (Int × Bool)} (h : Rd w v l) : ∃ a cap, v = .slice a l.length cap := by
  obtain ⟨a, cap, rfl, _⟩ := h
  exact ⟨a, cap, rfl⟩
theorem bytS_take {l : List (Int × Bool)} (h : bytS l) (n : Nat) : bytS (l.take n) := by
  intro k hk
  rw [List.length_take] at hk
  have e : nth (l.take n) k = nth l k := by
    unfold nth
    rw [List.getD_eq_getElem?_getD, List.getD_eq_getElem?_getD, List.getElem?_take, if_pos (by omega)]
  rw [e]
  exact h k (by omega)
theorem nth_at {l : List (Int × Bool)} {k : Nat} (h : k < l.length) : l[k]? = some (nth l k) := by
  unfold nth
  rw [List.getD_eq_getElem?_getD, List.getElem?_eq_getElem h]
  rfl
theorem nthS_set {l : List (Int × Bool)} {k j : Nat} {x : Int × Bool} (h : j < l.length) : nth (l.set k x) j = if k = j then x else nth l j := by
  unfold nth
  rw [List.getD_eq_getElem?_getD, List.getD_eq_getElem?_getD, List.getElem?_set]
  split
  · rename_i e
    subst e
    simp [h]
  · rfl
theorem rowS_get {cs : Array Value} {cap : Nat} {l : List (Int × Bool)} (h : RowG bcs 2 cs cap l) (k : Nat) (hk : k < l.length) : cs[k * 2]? = some (.int .u8 (nth l k).1) ∧ cs[k * 2 + 1]? = some (.bool (nth l k).2) := by
  have e := nth_at hk
  exact ⟨h.at_ _ _ (by have := flatG_get bcs_len l k _ e 0 (by decide); rw [show k * 2 = k * 2 + 0 by omega, this]; rfl), h.at_ _ _ (by have := flatG_get bcs_len l k _ e 1 (by decide); rw [this]; rfl)⟩
theorem splice_one (cs : Array Value) (p : Nat) (v : Value) (hp : p < cs.size) : (splice cs.toList p [v]).toArray = cs.setIfInBounds p v := by
  apply Array.ext'
  simp only [Array.toList_setIfInBounds, splice, List.length_cons, List.length_nil]
  rw [List.set_eq_take_append_cons_drop, if_pos (by simpa using hp)]
  simp
theorem rowS_set {cs : Array Value} {cap : Nat} {l : List (Int × Bool)} (h : RowG bcs 2 cs cap l) (k : Nat) (v : Int) (hk : k < l.length) : RowG bcs 2 (splice cs.toList (k * 2) [.int .u8 v]).toArray cap (l.set k (v, (nth l k).2)) := by
  have hsz := h.size
  have hle := h.le
  have hp : k * 2 < cs.size := by omega
  rw [splice_one cs _ _ hp]
  refine ⟨by simpa using hsz, by rw [List.length_set]; exact hle, h.max, fun j u hu => ?_⟩
  have hj : j < (l.set k (v, (nth l k).2)).length * 2 := by
    have := (List.getElem?_eq_some_iff.1 hu).1
    rwa [flatG_len bcs_len] at this
  rw [List.length_set] at hj
  have hq : j / 2 < l.length := by omega
  have hg := flatG_get bcs_len (l.set k (v, (nth l k).2)) (j / 2) _ (nth_at (by rw [List.length_set]; exact hq)) (j % 2) (by omega)
  rw [show j / 2 * 2 + j % 2 = j by omega, hu, nthS_set hq] at hg
  obtain ⟨c0, c1⟩ := rowS_get h (j / 2) hq
  rw [Array.getElem?_setIfInBounds]
  by_cases e : k = j / 2
  · subst e
    rw [if_pos rfl] at hg
    rcases Nat.mod_two_eq_zero_or_one j with m | m
    · rw [m] at hg
      rw [if_pos (by omega), if_pos hp, hg]
      rfl
    · rw [m] at hg
      rw [if_neg (by omega), hg, show j = j / 2 * 2 + 1 by omega, show (j / 2 * 2 + 1) / 2 = j / 2 by omega, c1]
      rfl
  · rw [if_neg e] at hg
    rw [if_neg (by omega)]
    rcases Nat.mod_two_eq_zero_or_one j with m | m
    · rw [m] at hg
      rw [hg, show j = j / 2 * 2 by omega, show j / 2 * 2 / 2 = j / 2 by omega, c0]
      rfl
    · rw [m] at hg
      rw [hg, show j = j / 2 * 2 + 1 by omega, show (j / 2 * 2 + 1) / 2 = j / 2 by omega, c1]
      rfl
theorem ls_rowG {n : Nat} {X : List Nat} {w0 w : World} {L : List (Nat × Array Value)} {i g cap : Nat} {cs : Array Value} {l : List (Int × Bool)} (H : Mem n X w0 w L) (hi : L[i]? = some (g, cs)) (h : RowG bcs 2 cs cap l) : Ls w g 0 l where
  lt := H.lt (List.mem_of_getElem? hi)
  at_ := fun k hk => by
    obtain ⟨c0, c1⟩ := rowS_get h k hk
    exact ⟨H.cell hi (by rw [Nat.zero_add]; exact c0), H.cell hi (by rw [Nat.zero_add]; exact c1)⟩
/-- A row of zeros is made. -/
theorem wpList_smk {P : Program} {ops : Array Oper} {rest : List Oper} {o : Oper} {a : Act} {w : World} {Q : Exit → Act → World → Prop} {n : Nat} {X : List Nat} {w0 : World} {l : List (Nat × Array Value)} (hgd : Region.wanted o (yielded ops a.tmps) = true) (t : TypeId) (x y : Operand) (ho : o.op = .makeSlice t x y) (H : Mem n X w0 w l) (v u : Value) (hx : a.eval x = v) (hy : a.eval y = u) {cs : Array Value} {T : TypeId} {N : Nat}
    (hr : ∀ w : World, (Instr.makeSlice t v u).run P w = .ok (.slice (some ⟨w.heap.size, 0, none⟩) N N) (w.alloc (.cells cs T)))
    (h : ∀ R w1, w.heap.size ≤ R → Mem n X w0 w1 ((R, cs) :: l) → wpList P ops Q rest (a.put o.dst (.slice (some ⟨R, 0, none⟩) N N)) w1) : wpList P ops Q (o :: rest) a w :=
  wpList_want' hgd fun _ hK => by
    unfold Oper.wp execOp
    simp only [ho, hx, hy, Sem.run_bind, hr, Result.andThen_ok, Sem.run_pure]
    exact hK _ _ (h _ _ (Nat.le_refl _) (H.new _ _))
def zS256 : Array Value := madeCells (Value.agg #[.int .u8 0, .bool false]).cells 512
theorem make_s256 (w : World) : (Instr.makeSlice 22 (.int .i64 256) (.int .i64 256)).run Try.prog w = .ok (.slice (some ⟨w.heap.size, 0, none⟩) 256 256) (w.alloc (.cells zS256 24)) := by kernel_rfl
theorem rowS_zero : RowG bcs 2 zS256 256 (List.replicate 256 (0, false)) := by
  refine ⟨by decide +kernel, by simp, by simp [maxLen], fun j u hu => ?_⟩
  have hl : zS256.toList = (List.replicate 256 ((0 : Int), false)).flatMap bcs := by kernel_rfl
  rw [← hl] at hu
  simpa using hu
/-- A list by a function. -/
def flS (n : Nat) (f : Nat → Int × Bool) : List (Int × Bool) := (List.range n).map f
theorem flS_len (n : Nat) (f : Nat → Int × Bool) : (flS n f).length = n := by simp [flS]
theorem flS_nth (n : Nat) (f : Nat → Int × Bool) (k : Nat) (h : k < n) : nth (flS n f) k = f k := by
  unfold nth flS
  rw [List.getD_eq_getElem?_getD]
  simp [h]
theorem flS_congr (n : Nat) (f g : Nat → Int × Bool) (h : ∀ j, j < n → f j = g j) : flS n f = flS n g := by
  unfold flS
  exact List.map_congr_left fun j hj => h j (List.mem_range.1 hj)
theorem flS_set (n : Nat) (f : Nat → Int × Bool) (k : Nat) (x : Int × Bool) : (flS n f).set k x = flS n (fun j => if j = k then x else f j) := by
  apply List.ext_getElem
  · simp [flS]
  · intro i h1 h2
    simp only [flS, List.length_map, List.length_range] at h2
    rw [List.getElem_set]
    simp only [flS, List.getElem_map, List.getElem_range]
    by_cases e : k = i
    · rw [if_pos e, if_pos e.symm]
    · rw [if_neg e, if_neg (Ne.symm e)]
theorem flS_zero : List.replicate 256 ((0 : Int), false) = flS 256 (fun _ => (0, false)) := by decide +kernel
/-- One octet of a row is written. -/
theorem wpList_rst {P : Program} {ops : Array Oper} {rest : List Oper} {o : Oper} {a : Act} {w : World} {Q : Exit → Act → World → Prop} {n : Nat} {X : List Nat} {w0 : World} {l : List (Nat × Array Value)} (hgd : Region.wanted o (yielded ops a.tmps) = true) (ty : TypeId) (x y : Operand) (ho : o.op = .store ty x y) (hdst : o.dst = none) (R k : Nat) (hx : a.eval x = .pointer (some ⟨R, k * 2, none⟩)) (i : Nat) (H : Mem n X w0 w l) {cs : Array Value} {cap : Nat} {L : List (Int × Bool)} (hi : l[i]? = some (R, cs)) (hG : RowG bcs 2 cs cap L) (hk : k < L.length) (v : Int) (hy : a.eval y = .int .u8 v)
    (hz : (P.info? ty).map (·.size) = some 1) (h : ∀ w1 cs', RowG bcs 2 cs' cap (L.set k (v, (nth L k).2)) → Mem n X w0 w1 (l.set i (R, cs')) → wpList P ops Q rest a w1) : wpList P ops Q (o :: rest) a w :=
  wpList_mstore hgd ty x y ho hdst R (k * 2) hx i H cs _ hi (.int .u8 v) hy hz (by have h1 := hG.size; have h2 := hG.le; show k * 2 + 1 ≤ cs.size; omega) (by kernel_rfl) rfl fun w1 H1 => h w1 _ (rowS_set hG k v hk) H1
/-- Reads as a list of numbers. -/
def RdI (w : World) (v : Value) (l : List Nat) : Prop :=
  ∃ a cap, v = .slice a l.length cap ∧ l.length ≤ cap ∧ (l = [] ∨ ∃ b, a = some ⟨b, 0, none⟩ ∧ b < w.heap.size ∧ ∀ (k x : Nat), l[k]? = some x → w.cell? ⟨b, k, none⟩ = some (.int .i64 (x : Int)))
theorem RdI.below {w w' : World} {v : Value} {l : List Nat} (h : RdI w v l) (hb : Below w.heap.size w w') : RdI w' v l := by
  obtain ⟨a, cap, rfl, hc, h⟩ := h
  refine ⟨a, cap, rfl, hc, ?_⟩
  rcases h with h | ⟨b, rfl, hlt, hq⟩
  · exact .inl h
  · exact .inr ⟨b, rfl, Nat.lt_of_lt_of_le hlt hb.size, fun k x hx => (hb.cell (p := ⟨b, k, none⟩) hlt).trans (hq k x hx)⟩
theorem rdI_row {n : Nat} {X : List Nat} {w0 w : World} {L blk : List (Nat × Array Value)} {v : Value} {l : List Nat} (H : Mem n X w0 w L) (hA : RowAt icl 1 v l blk) (hs : ∀ x ∈ blk, x ∈ L) : RdI w v l := by
  rcases hA with ⟨rfl, rfl, rfl⟩ | ⟨R, cs, cap, rfl, rfl, hG⟩
  · exact ⟨none, 0, rfl, Nat.le_refl _, .inl rfl⟩
  · obtain ⟨i, hi⟩ := List.mem_iff_getElem?.1 (hs _ (List.mem_singleton.2 rfl))
    refine ⟨_, cap, rfl, hG.le, .inr ⟨R, rfl, H.lt (List.mem_of_getElem? hi), fun k x hx => H.cell hi ?_⟩⟩
    have := flatG_get icl_len l k x hx 0 (by decide)
    refine hG.at_ _ _ ?_
    rw [show k = k * 1 + 0 by omega, this]
    rfl
attribute [local irreducible] wpList
set_option maxHeartbeats 2000000 in
theorem few15_ct (sv : Value) (l : List (Int × Bool)) (w : World) (hr : Rd w sv l) : Calls Try.prog 8 #[sv] w fun e w' => ∃ v, e = .returned v ∧ Rd w v (l.take 257) ∧ w = w' := by
  have Hr := Lib.hid hr
  obtain ⟨a, cap, rfl, hcap, hn, hr⟩ := hr
  by_cases h : 257 < l.length
  · rcases hr with rfl | ⟨b, off, rfl, hb, hc⟩
    · simp at h
    have Hfin := Lib.hid (Rd.takeS 257 (by omega) hcap hn hb hc)
    unfold maxLen at hn
    clear hc Hr hb
    go_enter Try.func8, Try.ntmps8
    go_wp2
    go_ret
    exact ⟨_, rfl, Hfin.out, rfl⟩
  · have E := Lib.hid (show l.take 257 = l from List.take_of_length_le (by omega))
    unfold maxLen at hn
    clear hr
    go_enter Try.func8, Try.ntmps8
    go_wp2
    go_ret
    exact ⟨_, rfl, by rw [E.out]; exact Hr.out, rfl⟩
set_option maxHeartbeats 2000000 in
theorem ints_ct (x y : Value) (l : List Nat) (hl : l.length < 100000) (w : World) (hx : RdI w x l) (hy : RdI w y l) : Calls Try.prog 14 #[x, y] w fun e w' => e = .returned (.bool true) ∧ Below w.heap.size w w' := by
  obtain ⟨a, ca, rfl, hca, ha⟩ := hx
  obtain ⟨c, cc, rfl, hcc, hc⟩ := hy
  go_enter Try.func14, Try.ntmps14
  go_wp2
  go_loopw [5] (fun i wr => ∃ k : Nat, k ≤ l.length ∧ i = .int .i64 k ∧ Mem w.heap.size [] w wr []) (fun i _ => l.length - (intOf i).toNat)
  case atStart => exact ⟨0, Nat.zero_le _, rfl, Mem.start w⟩
  case round =>
    obtain ⟨k, hk, rfl, H⟩ := hrel
    by_cases hlt : k < l.length
    · rcases ha with rfl | ⟨b, rfl, hb, hqa⟩
      · simp at hlt
      rcases hc with rfl | ⟨d, rfl, hd, hqc⟩
      · simp at hlt
      have c1 := (H.old hb (by simp) k).trans (hqa k _ (List.getElem?_eq_getElem hlt))
      have c2 := (H.old hd (by simp) k).trans (hqc k _ (List.getElem?_eq_getElem hlt))
      have r1 := cell_regrown c1
      have r2 := cell_regrown c2
      generalize l[k] = z at *
      go_wp2_with fail
      (try simp only [Act.put, List.setIfInBounds_toArray, List.set_cons_succ, List.set_cons_zero])
      (refine wp_region_quiet_below (by kernel_rfl) (by kernel_rfl) ?_); (repeat (first | go_big_quiet_step ((first | fail)))); (refine wpQuiet_nil ?_); intro _ hw'; obtain ⟨⟨dq, osq⟩, hw''⟩ := hw'; (subst hw''); replace H := H.next (below_regrown _ dq osq); generalize Go.Sort.grow (redrawn _ dq) osq = wq at *
      go_wp2
      go_roundw
      case rel => exact ⟨k + 1, by omega, by go_num, H⟩
      case measure => simp [intOf]; omega
    · obtain rfl : k = l.length := by omega
      go_wp2
      go_ret
      exact ⟨rfl, H.toBelow⟩
set_option maxHeartbeats 2000000 in
theorem none15_ct (w : World) : Calls Try.prog 32 #[] w fun e w' => ∃ R cs, e = .returned (.slice (some ⟨R, 0, none⟩) 256 256) ∧ RowG bcs 2 cs 256 (flS 256 fun _ => (239, false)) ∧ Mem w.heap.size [] w w' [(R, cs)] := by
  have HM := Lib.hid make_s256
  have H := Mem.start w
  go_enter Try.func32, Try.ntmps32
  go_wp2_with (first | (refine wpList_smk rfl _ _ _ rfl H _ _ rfl rfl HM.out ?_; clear H; intro R w1 _ H) | fail)
  have hg0 := rowS_zero
  rw [flS_zero] at hg0
  generalize zS256 = cs0 at *
  go_loopw [2] (fun i wr => ∃ (k : Nat) (cs : Array Value), k ≤ 256 ∧ i = .int .i64 k ∧ Hid (RowG bcs 2 cs 256 (flS 256 fun j => if j < k then (239, false) else (0, false))) ∧ Mem w.heap.size [] w wr [(R, cs)]) (fun i _ => 256 - (intOf i).toNat)
  case atStart => exact ⟨0, cs0, by omega, rfl, Lib.hid (by simpa using hg0), H⟩
  case round =>
    clear H hg0
    obtain ⟨k, cs, hk, rfl, HG, H⟩ := hrel
    by_cases hlt : k < 256
    · have hkl : k < (flS 256 fun j => if j < k then ((239 : Int), false) else (0, false)).length := by rw [flS_len]; exact hlt
      go_wp2_with (first | (refine gate_store _ _ _ rfl ?_; refine wpList_rst rfl 5 _ _ rfl rfl _ k (by simp only [Act.eval]; rfl) 0 H rfl HG.out hkl 239 rfl (by kernel_rfl) ?_; clear H HG; intro w1 cs2 hg H; simp only [List.set_cons_zero, List.set_cons_succ] at H; have HG := Lib.hid hg; clear hg) | fail)
      go_roundw
      case rel => exact ⟨k + 1, cs2, by omega, by go_num, Lib.hid (by
        have h := HG.out
        rw [flS_nth _ _ _ hlt, flS_set] at h
        rw [flS_congr 256 _ (fun j => if j < k + 1 then (239, false) else (0, false)) (fun j _ => by
          by_cases e : j = k
          · subst e
            simp
          · rw [if_neg e]
            by_cases h : j < k
            · rw [if_pos h, if_pos (by omega)]
            · rw [if_neg h, if_neg (by omega)])] at h
        exact h), H⟩
      case measure => simp [intOf]; omega
    · obtain rfl : k = 256 := by omega
      go_wp2
      go_ret
      refine ⟨R, cs, rfl, ?_, H⟩
      have h := HG.out
      rw [flS_congr 256 _ (fun _ => (239, false)) (fun j hj => by rw [if_pos hj])] at h
      exact h
end Go.Proofs.Ytphnpahjofacfaa
