/-
  slices.Values at ranges, slices.SortFunc by the closure that compares where ranges begin, and slices.SortedFunc: what comes back is a permutation, rising by where they begin. Over this seat's translation; of at most 100000 ranges.
-/
import Derived.Test.YtfceifmhlmiiiaaGreatDoorSeq
import Derived.Shelf.SlSortCmp.WholeK
import Derived.Shelf.SlSortCmp.NoneTotal
import Derived.Shelf.SlicesG.Cmp
import Derived.Test.YtfceifmhlmiiiaaGreatDoorSlb
namespace Go.Proofs.YtfceifmhlmiiiaaGreatDoor
open Go.RowKit Go.Shelf Go.Lib Go.Sort
attribute [local go_sem] Oper.semAt_some

theorem AbidesFrom.alloc' {B : Nat} {β : Type} {J : β → World → Prop} (h : AbidesFrom B J) {s : β} {W : World} (o : Obj) (hs : J s W) : J s (W.alloc o) := h s W _ none hs (World.grownBy_alloc W o none) (fun r e => by cases e)
set_option maxRecDepth 100000 in
set_option maxHeartbeats 2000000 in
/-- slices.Values's closure, for every loop body that keeps what lay in wA. -/
theorem values1_in (n : Nat) (hn : 1 ≤ n) (l Bs : Nat) (wA : World) (sv : Value) (zs : List (Int × Int)) (J Jx : List (Int × Int) → World → Prop)
    (hY : ∀ pre x W, J pre W → pre.length < zs.length → YieldAt Fence.wide (n - 1) Tryz.prog l (encR x) W fun e W' =>
      (e = .returned (.bool true) ∧ J (pre ++ [x]) W' ∧ Below wA.heap.size W W') ∨ (e = .returned (.bool false) ∧ Jx (pre ++ [x]) W'))
    (hJ : ∀ s W o, J s W → J s (W.alloc o)) (W : World) (hBs : W.cell? ⟨Bs, 0, none⟩ = some sv) (hr : Rg wA sv zs) (hbA : Below wA.heap.size wA W) (h0 : J [] W) :
    CallsIn Fence.wide n Tryz.prog 43 #[.func (.yield l) #[] #[], .pointer (some ⟨Bs, 0, none⟩)] W fun e W' => (∃ v, e = .returned v) ∧
      ((∃ ys, ys = zs ∧ J ys W') ∨ (∃ pre, True ∧ Jx pre W')) := by
  obtain ⟨sa, cap, rfl, hcap, hm, hc⟩ := hr
  unfold maxLen at hm
  refine callsIn_of_wp Tryz.func43 rfl trivial ?_ rfl
  simp only [Tryz.ntmps43, List.size_toArray, List.length_cons, List.length_nil, Nat.reduceAdd, Nat.reduceSub, Array.replicate_succ, Array.replicate_zero, List.push_toArray, List.append_toArray, List.nil_append, List.cons_append]
  have Hc := Lib.hid hc
  have HJ := Lib.hid hJ
  clear hc hJ
  gi_wp2
  gi_loopw [7] (fun i wr => ∃ k : Nat, k ≤ zs.length ∧ i = .int .i64 k ∧ J (zs.take k) wr ∧ Below wA.heap.size wA wr)
    (fun i _ => zs.length - (intOf i).toNat)
  case atStart => exact ⟨0, Nat.zero_le _, rfl, h0, hbA⟩
  case round =>
    obtain ⟨k, hk, rfl, hJs, hnx⟩ := hrel
    by_cases hlt : k < zs.length
    · rcases Hc.out with hz | ⟨b, off, rfl, hb, hc⟩
      · rw [hz] at hlt; simp at hlt
      obtain ⟨h1, h2⟩ := hc k hlt
      clear hc
      rw [← hnx.cell hb] at h1 h2
      have hts := take_snoc' zs k (0, 0) hlt
      obtain ⟨x, hx⟩ : ∃ x, nthR zs k = x := ⟨_, rfl⟩
      rw [show zs.getD k (0, 0) = x from hx] at hts
      rw [hx] at h1 h2
      have Hts := Lib.hid hts
      clear hts hx
      have hJa := HJ.out _ wr (.cells #[.int .i64 x.1, .int .i64 x.2] 42) hJs
      obtain ⟨fn, tmps, assign, body, hy, hR⟩ := hY _ x _ hJa (by rw [List.length_take]; omega)
      dsimp only [encR] at hy
      have hna := hnx.alloc hnx.size (.cells #[.int .i64 x.1, .int .i64 x.2] 42)
      gi_wp2
      refine hR.mono ?_
      rintro e W3 (⟨rfl, hJ3, hk3⟩ | ⟨rfl, hJx3⟩)
      · gi_wp2
        go_roundw
        case rel => exact ⟨k + 1, by omega, by simp, by rw [Hts.out]; exact hJ3, hna.trans hk3⟩
        case measure => simp [intOf]; omega
      · gi_wp2
        refine bodyPost_ret (results_none rfl _ _ _) rfl ?_
        exact ⟨⟨_, rfl⟩, .inr ⟨_, trivial, hJx3⟩⟩
    · obtain rfl : k = zs.length := by omega
      gi_wp2
      go_end0
      exact ⟨⟨_, rfl⟩, .inl ⟨_, rfl, by rw [List.take_length] at hJs; exact hJs⟩⟩
/-- slices.Values hands back a value that hands out all, in order. -/
theorem values_stops (n : Nat) (hn : 1 ≤ n) (Bs : Nat) (wA : World) (sv : Value) (zs : List (Int × Int)) (w : World) (hBs : Bs < w.heap.size) (hc : w.cell? ⟨Bs, 0, none⟩ = some sv) (hr : Rg wA sv zs) (hbA : Below wA.heap.size wA w) :
    SeqStopsK Fence.wide n Tryz.prog 43 #[.pointer (some ⟨Bs, 0, none⟩)] encR (Below wA.heap.size) (fun ys => ys = zs) (fun _ => True) zs.length w := fun l J Jx W hW hJ _ hY h0 =>
  values1_in n hn l Bs wA sv zs J Jx hY (fun _ _ o h => AbidesFrom.alloc' hJ o h) W ((hW.cell (p := ⟨Bs, 0, none⟩) hBs).trans hc) hr (hbA.trans (hW.mono hbA.size)) h0
set_option maxHeartbeats 1000000 in
theorem values_ct (a : Option Addr) (len cap : Nat) (w : World) :
    Calls Tryz.prog 24 #[.slice a len cap] w fun e w' => e = .returned (.func (.func 43) #[] #[.pointer (some ⟨w.heap.size, 0, none⟩)]) ∧ w.alloc (.cells #[.slice a len cap] 23) = w' := by
  go_enter Tryz.func24, Tryz.ntmps24
  go_wp2
  go_ret
  exact ⟨rfl, rfl⟩

/-! ### the sort -/
def encL (x : Int × Int) : List Value := [.int .i64 x.1, .int .i64 x.2]
set_option maxHeartbeats 1000000 in
/-- The closure that compares where ranges begin. -/
theorem less_ct (x y : Int × Int) (W : World) : Calls Tryz.prog 25 #[.agg #[.int .i64 x.1, .int .i64 x.2], .agg #[.int .i64 y.1, .int .i64 y.2]] W fun e w' => e = .returned (.int .i64 (Lib.compareInt x.1 y.1)) ∧ ∃ q os', w' = grow (W.drewN q) os' := by
  have hcon := fun W' => AnyG.cmp_Compare_int Tryz.cmpInt x.1 y.1 W'
  change ∀ W', Calls Tryz.prog 26 _ _ _ at hcon
  generalize Lib.compareInt x.1 y.1 = r at hcon ⊢
  go_enter Tryz.func25, Tryz.ntmps25
  go_wp2_with (go_at_call 26; refine (hcon _).mono ?_; rintro e w' ⟨rfl, rfl⟩)
  go_ret
  exact ⟨rfl, 0, _, by rw [alloc_eq_grow, alloc_eq_grow, grow_grow]; rfl⟩
theorem less_lays (blk off size : Nat) (w : World) : CmpLays Tryz.prog 25 #[] encL 2 (fun x y => Lib.compareInt x.1 y.1) blk off size w := fun _ _ _ _ x y => less_ct x y _
theorem lt_from (x y : Int × Int) : ltOf (fun x y : Int × Int => Lib.compareInt x.1 y.1) x y = decide (x.1 < y.1) := by
  unfold ltOf Lib.compareInt
  by_cases h1 : x.1 < y.1
  · simp [h1]
  · by_cases h2 : y.1 < x.1 <;> simp [h1, h2]
theorem swo_from : SWO (ltOf fun x y : Int × Int => Lib.compareInt x.1 y.1) where
  irrefl x := by rw [lt_from]; simp
  trans x y z h1 h2 := by rw [lt_from] at *; simp at *; omega
  ntrans x y z h1 h2 := by rw [lt_from] at *; simp at *; omega

theorem arr_nthR (l : List (Int × Int)) (i : Nat) (h : i < l.length) : l.toArray[i]! = nthR l i := by
  unfold nthR
  simp [h]
theorem arr_list (d : Array (Int × Int)) (i : Nat) (h : i < d.size) : d[i]! = nthR d.toList i := by
  unfold nthR
  simp [h]
theorem flatR_at (l : List (Int × Int)) (j : Nat) (h : j < l.length * 2) : (flatR l)[j]? = some (encL (nthR l (j / 2)))[j % 2]! := by
  obtain ⟨h1, h2⟩ := flatR_get l (j / 2) (by omega)
  rcases Nat.mod_two_eq_zero_or_one j with e | e
  · rw [show j = j / 2 * 2 by omega, h1, show j / 2 * 2 / 2 = j / 2 by omega, show j / 2 * 2 % 2 = 0 by omega]; rfl
  · rw [show j = j / 2 * 2 + 1 by omega, h2, show (j / 2 * 2 + 1) / 2 = j / 2 by omega, show (j / 2 * 2 + 1) % 2 = 1 by omega]; rfl
theorem holds_of {w : World} {base g cap : Nat} {l : List (Int × Int)} (h : w.ownsRow base 42 2 (.slice (some ⟨g, 0, none⟩) l.length cap) l.length (flatR l)) : HoldsK encL 2 w g 0 l.toArray := fun j hj => by
  rw [size_flatK, List.size_toArray] at hj
  rw [Nat.zero_add, World.ownsRow.cellAt h j hj, flatR_at l j hj, get_flatK _ _ _ _ (by rw [List.size_toArray]; exact hj), arr_nthR l _ (by omega)]
  exact ⟨rfl, World.ownsRow.frozenAt h j⟩
theorem grownBy_sortedR {w : World} {g n : Nat} {os : Array Obj} (d : Array (Int × Int)) : w.grownBy (sortWorldK encL 2 w g 0 n d os) (some g) := by
  refine ⟨rfl, rfl, rfl, by simp [sortWorldK, putRowK], fun k hk hne => ?_⟩
  unfold sortWorldK putRowK
  rw [heap_grow_old _ _ (by simpa using hk)]
  have : g ≠ k := fun e => hne (by rw [e])
  simp [putRow, mapBlock, Sort.ahead, Array.getElem?_modify, this]
theorem rg_sorted {w : World} {g cap n : Nat} {os : Array Obj} {l : List (Int × Int)} (d : Array (Int × Int)) (hg : g < w.heap.size) (hd : d.size = l.length) (hcap : l.length ≤ cap) (hm : cap ≤ maxLen) (hH : HoldsK encL 2 w g 0 l.toArray) :
    Rg (sortWorldK encL 2 w g 0 n d os) (.slice (some ⟨g, 0, none⟩) l.length cap) d.toList := by
  have h1 : HoldsK encL 2 (sortWorldK encL 2 w g 0 n d os) g 0 d :=
    holdsK_grow encL 2 _ os g 0 d (by show g < (putRow id (Sort.ahead w n) g 0 (flatK encL 2 d)).heap.size; rw [size_putRow]; exact hg) (holdsK_putRowK encL 2 _ g 0 l.toArray d (holdsK_ahead encL 2 w n g 0 _ hH) (by simpa using hd))
  have hl : d.toList.length = l.length := by simpa using hd
  refine ⟨_, cap, by rw [hl], by rw [hl]; exact hcap, hm, .inr ⟨g, 0, rfl, by have := (grownBy_sortedR (w := w) (g := g) (n := n) (os := os) d).size; omega, fun k hk => ?_⟩⟩
  have hk : k < d.size := by simpa using hk
  have e0 := (h1.cell (c := 0) hk (by omega)).1
  have e1 := (h1.cell (c := 1) hk (by omega)).1
  rw [arr_list d k hk] at e0 e1
  exact ⟨e0, e1⟩

/-- What the sorted ones are. -/
def SortedP (l : List (Int × Int)) (w : World) (e : Ending) (w' : World) : Prop := ∃ v d, e = .returned v ∧ Rg w' v d ∧ d.Perm l ∧ Sorted1 d ∧ Below w.heap.size w w'
set_option maxHeartbeats 2000000 in
theorem sortedf_ct (g : Nat) (lb : Array Value) (eg : ∀ args w, (callFunc g args).run Tryz.prog w = .ok (.enter g args) w) (Sp : List (Int × Int) → Prop) (l : List (Int × Int)) (hN : l.length ≤ 100000) (w : World)
    (hseq : ∀ m, 1 ≤ m → SeqStopsK Fence.wide m Tryz.prog g lb encR (Go.RowKit.Below w.heap.size) (fun ys => ys = l) Sp l.length w) :
    Calls Tryz.prog 23 #[.func (.func g) #[] lb, .func (.func 25) #[] #[]] w (SortedP l w) := by
  have Hc := Lib.hid (collect_ct g lb eg (fun ys => ys = l) Sp l.length hN w hseq)
  clear hseq
  go_enter Tryz.func23, Tryz.ntmps23
  go_wp2_with fail
  refine Hc.out.mono ?_
  rintro e w1 ⟨v, ys, rfl, rfl, ⟨ho, hnil⟩, hB⟩
  clear Hc
  rcases ho.2 with ⟨rfl, h0⟩ | ⟨gb, cap, cur, rfl, hb, hg, hnc, hm, hs, ht⟩
  · obtain rfl := hnil.1 rfl
    have hcon := AnyF.slices_SortFunc_none Tryz.sortR none 0 (.func (.func 25) #[] #[]) w1
    change Calls Tryz.prog 42 _ _ _ at hcon
    clear ho hnil
    go_wp2_with (go_at_call 42; refine hcon.mono ?_; rintro e w2 ⟨rfl, hw⟩; (subst hw))
    go_ret
    exact ⟨_, [], rfl, rg0 _, List.Perm.refl _, fun i j _ hj => by simp at hj, hB⟩
  · have hH := holds_of ho
    have hgl : gb < w1.heap.size := (Array.getElem?_eq_some_iff.1 hg).1
    have hcon := AnyQ.slices_SortFunc Tryz.sortR 2 Tryz.isAgg42 Tryz.sizeOf42 encL (fun _ => rfl) (fun x v hv => by simp [encL] at hv; rcases hv with rfl | rfl <;> rfl) (fun x y => Lib.compareInt x.1 y.1) swo_from 25 #[] gb 0 cap ys.toArray w1
      (enters_of Tryz.func25 (by kernel_rfl) rfl) (less_lays gb 0 _ w1) hH hgl (by rw [List.size_toArray]; omega)
    change Calls Tryz.prog 42 _ _ _ at hcon
    rw [List.size_toArray] at hcon
    have HH := Lib.hid hH
    clear ho hnil hH hg ht hs
    go_wp2_with fail
    refine hcon.mono ?_
    rintro e w2 ⟨rfl, d, n, os, hp, hsd, rfl⟩
    obtain ⟨p1, p2, p3⟩ := hp
    have p1 : d.size = ys.length := by simpa using p1
    have Hr := Lib.hid (rg_sorted (n := n) (os := os) d hgl p1 hnc hm HH.out)
    have Hp : Hid (d.toList.Perm ys) := by
      have e1 : (d.extract 0 ys.length).toList = d.toList := by rw [← p1]; simp
      have e2 : (ys.toArray.extract 0 ys.length).toList = ys := by simp
      rw [e1, e2] at p3
      exact p3
    have Hs : Hid (Sorted1 d.toList) := fun i j hij hj => by
      have hj : j < d.size := by simpa using hj
      have := hsd i j (Nat.zero_le _) hij (by omega)
      rw [lt_from, arr_list d j hj, arr_list d i (by omega)] at this
      simpa using this
    have hB2 : Go.RowKit.Below w.heap.size w (sortWorldK encL 2 w1 gb 0 n d os) := hB.grown (grownBy_sortedR d) hB.size (fun k e => by cases e; exact hb)
    clear p1 p2 p3 hsd hcon HH
    generalize sortWorldK encL 2 w1 gb 0 n d os = w2 at *
    go_wp2
    go_ret
    exact ⟨_, _, rfl, Hr.out, Hp.out, Hs.out, hB2⟩
end Go.Proofs.YtfceifmhlmiiiaaGreatDoor
