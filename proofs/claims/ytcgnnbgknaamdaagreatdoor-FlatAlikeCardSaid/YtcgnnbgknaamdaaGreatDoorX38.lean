/-
  Several texts in one: what is read and written by the functions on the way to the statements. Conditions stand in each theorem.
-/
import Derived.Test.YtcgnnbgknaamdaaGreatDoorX32
import Derived.Test.YtcgnnbgknaamdaaGreatDoorX37
import Derived.Test.YtcgnnbgknaamdaaGreatDoorX06
import Derived.Test.YtcgnnbgknaamdaaGreatDoorX35
namespace Go.Proofs.YtcgnnbgknaamdaaGreatDoor
set_option linter.unusedSimpArgs false
set_option linter.unusedVariables false

/-- Memories that are alike. -/
def AL (l m : List (Int × Bool)) : Prop := l.length = m.length ∧ ∀ k, (nth l k).2 = (nth m k).2 ∧ ((nth l k).2 = false → (nth l k).1 = (nth m k).1)
theorem nth_set {l : List (Int × Bool)} (k j : Nat) (p : Int × Bool) (hk : k < l.length) : nth (l.set k p) j = if k = j then p else nth l j := by
  unfold nth
  rw [List.getD_eq_getElem?_getD, List.getElem?_set]
  by_cases e : k = j
  · rw [if_pos e, if_pos e, if_pos hk]
    rfl
  · rw [if_neg e, if_neg e, List.getD_eq_getElem?_getD]
theorem AL.set {l m : List (Int × Bool)} (h : AL l m) (k : Nat) (hk : k < l.length) {v v' : Int} {b b' : Bool} (hb : b = b') (hv : b = false → v = v') : AL (l.set k (v, b)) (m.set k (v', b')) := by
  refine ⟨by rw [List.length_set, List.length_set]; exact h.1, fun j => ?_⟩
  rw [nth_set k j _ hk, nth_set k j _ (by rw [← h.1]; exact hk)]
  by_cases e : k = j
  · rw [if_pos e, if_pos e]
    exact ⟨hb, hv⟩
  · rw [if_neg e, if_neg e]
    exact h.2 j
theorem alikeL_of : ∀ l m : List (Int × Bool), AL l m → alikeL l m = true
  | [], [], _ => rfl
  | a :: l, b :: m, h => by
    have h0 := h.2 0
    have e : alikeB a.1 a.2 b.1 b.2 = true := by
      have h1 : a.2 = b.2 := h0.1
      have h2 : a.2 = false → a.1 = b.1 := h0.2
      unfold alikeB
      rw [← h1]
      cases hb : a.2
      · simp [h2 hb]
      · simp
    rw [alikeL, e, Bool.true_and]
    exact alikeL_of l m ⟨Nat.succ.inj h.1, fun k => h.2 (k + 1)⟩
  | [], _ :: _, h => by cases h.1
  | _ :: _, [], h => by cases h.1
/-- A secret that tells where is told. -/
theorem sc_ctl (c : Cp) (v : Int) (b i n q : Bool) (h : (askedM c).sc = true) : (takeM c v b i n q).ctl = true := by
  have hsc : (askM (turnS (emptyW c v b)).1 (turnW (emptyW c v b))).sc = (askedM c).sc := by rw [asked_eq]
  have hk : workM c v b = doM (turnS (emptyW c v b)).2 { turnW (emptyW c v b) with ctl := (turnW (emptyW c v b)).ctl || (askedM c).sc } := by unfold workM; dsimp only; rw [hsc]
  have c1 : (workM c v b).ctl = true := by
    rw [hk]
    exact (kp_do _ _).ctl (by show ((turnW (emptyW c v b)).ctl || (askedM c).sc) = true; rw [h]; simp)
  rw [take_ctl, c1]
  rfl
/-- One cycle of two plays that are alike. -/
theorem al_step {z : Bool} {c d : Cp} {l m : List (Int × Bool)} (h : AC z c d) (F : Fit c) (G : Fit d) (hok : okB c = true) (hz : z = true → lateB c.op c.t = true) (hl : AL l m) (ol : okM l) (om : okM m) (hne : 0 < l.length) (i n q : Bool) :
    (nextM c l i n q).ctl = (nextM d m i n q).ctl ∧ ((nextM c l i n q).ctl = false → (askedM c).ad = (askedM d).ad ∧ (askedM c).wr = (askedM d).wr ∧ (gotM c l).2 = (gotM d m).2 ∧ ((gotM c l).2 = false → (gotM c l).1 = (gotM d m).1) ∧
      AL (wroteM c l) (wroteM d m) ∧ ∃ y, (y = true → lateB (nextM c l i n q).op (nextM c l i n q).t = true) ∧ AC y (nextM c l i n q) (nextM d m i n q)) := by
  have ha := al_asked h F G
  by_cases hs : (askedM c).sc = true
  · have c1 : (nextM c l i n q).ctl = true := sc_ctl c _ _ i n q hs
    have c2 : (nextM d m i n q).ctl = true := sc_ctl d _ _ i n q (ha.sc.symm.trans hs)
    rw [c1, c2]
    exact ⟨rfl, fun e => by cases e⟩
  · have hs : (askedM c).sc = false := by simpa using hs
    have had := ha.ad hs
    have hat : atM c l = atM d m := by
      unfold atM
      rw [had, hl.1]
    have hw : AL (wroteM c l) (wroteM d m) := by
      unfold wroteM
      rw [← ha.wr, ← hat]
      cases (askedM c).wr
      · exact hl
      · exact hl.set _ (atM_lt c hne) ha.vb ha.v
    have hg := hw.2 (atM c l)
    have g1 : (gotM c l).2 = (gotM d m).2 := by
      unfold gotM
      rw [← hat]
      exact hg.1
    have g2 : (gotM c l).2 = false → (gotM c l).1 = (gotM d m).1 := by
      unfold gotM
      rw [← hat]
      exact hg.2
    have f1 := got_fit F ol hne
    have f2 := got_fit G om (by rw [← hl.1]; exact hne)
    have ht := al_take h F G hok hz g1 g2 f1.1 f1.2 f2.1 f2.2 i n q
    exact ⟨ht.1, fun e => ⟨had, ha.wr, g1, g2, hw, (ht.2 e).2⟩⟩
/-- The second one, as it begins: what is secret of two registers may be anything. -/
theorem ac_start (c : Cp) (a x : Int) : AC false c { c with av := if c.ab then a else c.av, xv := if c.xb then x else c.xv } where
  ab := rfl
  a := fun e => by
    have e : c.ab = false := e
    show c.av = if c.ab then a else c.av
    rw [e]
    rfl
  xb := rfl
  x := fun e => by
    have e : c.xb = false := e
    show c.xv = if c.xb then x else c.xv
    rw [e]
    rfl
  yb := rfl
  y := fun _ => rfl
  sb := rfl
  sx := fun _ => rfl
  db := rfl
  d := fun _ => rfl
  ps := rfl
  fa := fun _ _ _ => rfl
  pcs := rfl
  pc := fun _ => rfl
  ads := rfl
  ad := fun _ => rfl
  cr := fun _ => rfl
  cr2 := fun _ => rfl
  op := rfl
  t := rfl
  intr := rfl
  nmi := rfl
  got := rfl
  pend := rfl
  ctl := rfl
  jam := rfl
  nm := rfl
  md := rfl
  us := rfl
  nx := rfl
  vb := rfl
  v := fun _ => rfl
/-- And its memory. -/
def otherL (v : Int) (l : List (Int × Bool)) : List (Int × Bool) := l.map fun p => if p.2 then ((p.1 + v) % 256, p.2) else p
theorem al_other (v : Int) (l : List (Int × Bool)) : AL l (otherL v l) := by
  refine ⟨(List.length_map _).symm, fun k => ?_⟩
  unfold nth otherL
  rw [List.getD_eq_getElem?_getD, List.getD_eq_getElem?_getD, List.getElem?_map]
  cases l[k]? with
  | none => exact ⟨rfl, fun _ => rfl⟩
  | some p =>
    show p.2 = (if p.2 then ((p.1 + v) % 256, p.2) else p).2 ∧ (p.2 = false → p.1 = (if p.2 then ((p.1 + v) % 256, p.2) else p).1)
    cases hp : p.2
    · exact ⟨by rw [if_neg (by decide), hp], fun _ => rfl⟩
    · exact ⟨rfl, fun e => by cases e⟩
theorem ok_other (v : Int) {l : List (Int × Bool)} (h : okM l) : okM (otherL v l) := fun x hx => by
  obtain ⟨p, hp, rfl⟩ := List.mem_map.1 hx
  have := h p hp
  split
  · exact ⟨Int.emod_nonneg _ (by decide), Int.emod_lt_of_pos _ (by decide)⟩
  · exact this
end Go.Proofs.YtcgnnbgknaamdaaGreatDoor
namespace Go.Proofs.YtcgnnbgknaamdaaGreatDoor
open Go.RowKit
set_option linter.unusedSimpArgs false
set_option linter.unusedVariables false
set_option maxRecDepth 20000

theorem run_apz (w : World) (B : Nat) (ty : TypeId) (a : Option Addr) (cap : Nat) (l : List (Int × Bool)) (N : Nat) (hN : l.length = N) (h0 : 0 < N) (hn : N ≤ 100000) (hr : Rd w (.slice a N cap) l) :
    ∃ cs cap', (Builtin.append_ #[29, 29] ty #[.slice (some ⟨B, 0, none⟩) 0 0, .slice a N cap]).run Tryz.prog w = .ok (.slice (some ⟨w.heap.size, 0, none⟩) N cap') (w.drew.alloc (.cells cs 23)) ∧ RowG bcl 2 cs cap' l := by
  subst hN
  obtain ⟨i0, hi, hz0, hz1, hz2⟩ := info_parts info_byte
  obtain ⟨a', cap2, hv, hcap, hm, hr⟩ := hr
  injection hv with e1 e2 e3
  subst e1 e3
  rcases hr with rfl | ⟨b, off, rfl, hb, hc⟩
  · simp at h0
  have hcell : ∀ (j : Nat) (v : Value), (flat l)[j]? = some v → w.cell? ((⟨b, off, none⟩ : Addr).add j) = some v := fun j v hj => by
    rw [addr_add]
    have hlt : j < l.length * 2 := by have := (List.getElem?_eq_some_iff.1 hj).1; rw [flat_length] at this; exact this
    obtain ⟨q, hq⟩ : ∃ q, j = q * 2 ∨ j = q * 2 + 1 := ⟨j / 2, by omega⟩
    rcases hq with rfl | rfl
    · rw [(flat_get l q (by omega)).1] at hj
      cases hj
      exact (hc q (by omega)).1
    · rw [(flat_get l q (by omega)).2] at hj
      cases hj
      exact (hc q (by omega)).2
  have h2 := run_append_grow (P := Tryz.prog) w 29 ty 23 i0 _ Tryz.underlying29 hi hz0 ⟨B, 0, none⟩ 0 0 [] (by simp) (fun j v h => by simp at h) ⟨b, off, none⟩ l.length cap (flat l) (by rw [flat_length, hz1]) hcell (by omega) (by omega) (growslice_fits (by omega) (by rw [hz2]; omega))
  rw [Nat.zero_add] at h2
  have hge := grownCap_ge w l.length 0 23
  have hcm := grownCap_le_maxLen w l.length 0 23 (by unfold maxLen; omega)
  refine ⟨_, _, h2, ⟨?_, hge, hcm, fun j u hj => ?_⟩⟩
  · simp only [Array.size_append, List.size_toArray, List.length_nil, Nat.zero_add, flat_length, size_zeroCells]
    show l.length * 2 + (_ - l.length) * 2 = _ * 2
    omega
  · rw [← flat_bcl] at hj
    have hlt := (List.getElem?_eq_some_iff.1 hj).1
    rw [Array.getElem?_append_left (by simpa using hlt), Array.getElem?_append_right (by simp)]
    simpa using hj
attribute [local irreducible] wpList
set_option maxHeartbeats 8000000 in
theorem falike_no (c : Cp) (sv : Value) (l : List (Int × Bool)) (qn qk qv : Int) (i n r : Bool) (W : World) (G : GlobO W) (O : Oct c) (hr : Rd W sv l) (om : okM l) (hpl : (okB c && memB (l.take 1024).length) = false) :
    Calls Tryz.prog 4 #[.agg (cpC c), sv, .agg #[.int .i64 qn, .int .i64 qk, .int .u8 qv, .bool i, .bool n, .bool r]] W fun e w' => e = .returned (.bool true) ∧ Below W.heap.size W w' := by
  have HR := Lib.hid hr
  have hr2 := rd_cutF hr
  obtain ⟨a2, cap2, e2, hcp, hmx, hc2⟩ := hr2
  have hN4 : (l.take 1024).length ≤ 1024 := by rw [List.length_take]; omega
  have QF0 := fun wr h => few_cut sv l wr h
  rw [e2] at QF0
  generalize (l.take 1024).length = N at *
  have QF := Lib.hid QF0
  have QW := Lib.hid (fun wr g => awake11_ct wr g)
  have QM := Lib.hid (fun wr => fcheck_ct (.slice a2 N cap2) N wr ⟨_, _, rfl⟩ (by omega))
  have QC := Lib.hid (fun wr (g : GlobO wr) => kcheck_ct c wr g O.p0 O.p1 O.q0 O.q1 O.op0 O.op1)
  have GG := Lib.hid G
  have H := Mem.start W
  clear hc2 QF0 hr e2 G hcp hmx om O hN4
  cases hm : memB N
  case false =>
    simp only [hm, if_false, Bool.false_eq_true] at QM
    clear hpl hm QC
    go_enter Tryz.func4, Tryz.ntmps4
    go_wp2_with (first | (refine wpList_mboxA rfl _ _ rfl H (cpC c) rfl ?_; clear H; intro Rc w1 _ H) | (refine wpList_mboxA rfl _ _ rfl H #[.int .i64 qn, .int .i64 qk, .int .u8 qv, .bool i, .bool n, .bool r] rfl ?_; clear H; intro Rq w1 _ H) | (go_at_call 6; (with_reducible refine (QF.out _ (HR.out.below H.toBelow)).mono ?_); rintro e w2 ⟨rfl, rfl⟩) | (go_at_call 11; (with_reducible refine (QM.out _).mono ?_); rintro e w2 ⟨rfl, hB⟩; replace H := H.next hB; clear hB) | (refine gate_load _ _ rfl ?_; refine wpList_mloadA rfl 28 _ rfl _ rfl 1 H (cpC c) rfl (by decide +kernel) (by kernel_rfl) ?_) | (go_at_call 12; (with_reducible refine (QC.out _ (GG.out.mem H)).mono ?_); rintro e w2 ⟨rfl, hB⟩; replace H := H.next hB; clear hB) | (go_at_call 8; (with_reducible refine (QW.out _ (GG.out.mem H)).mono ?_); rintro e w2 ⟨rfl, hB⟩; replace H := H.next hB; clear hB) | fail)
    go_ret
    exact ⟨rfl, H.toBelow⟩
  case true =>
    rw [hm, Bool.and_true] at hpl
    simp only [hm, if_true] at QM
    simp only [hpl, errI] at QC
    (try simp only [if_false, Bool.false_eq_true] at QC)
    clear hpl hm
    go_enter Tryz.func4, Tryz.ntmps4
    go_wp2_with (first | (refine wpList_mboxA rfl _ _ rfl H (cpC c) rfl ?_; clear H; intro Rc w1 _ H) | (refine wpList_mboxA rfl _ _ rfl H #[.int .i64 qn, .int .i64 qk, .int .u8 qv, .bool i, .bool n, .bool r] rfl ?_; clear H; intro Rq w1 _ H) | (go_at_call 6; (with_reducible refine (QF.out _ (HR.out.below H.toBelow)).mono ?_); rintro e w2 ⟨rfl, rfl⟩) | (go_at_call 11; (with_reducible refine (QM.out _).mono ?_); rintro e w2 ⟨rfl, hB⟩; replace H := H.next hB; clear hB) | (refine gate_load _ _ rfl ?_; refine wpList_mloadA rfl 28 _ rfl _ rfl 1 H (cpC c) rfl (by decide +kernel) (by kernel_rfl) ?_) | (go_at_call 12; (with_reducible refine (QC.out _ (GG.out.mem H)).mono ?_); rintro e w2 ⟨rfl, hB⟩; replace H := H.next hB; clear hB) | (go_at_call 8; (with_reducible refine (QW.out _ (GG.out.mem H)).mono ?_); rintro e w2 ⟨rfl, hB⟩; replace H := H.next hB; clear hB) | fail)
    go_ret
    exact ⟨rfl, H.toBelow⟩
end Go.Proofs.YtcgnnbgknaamdaaGreatDoor
