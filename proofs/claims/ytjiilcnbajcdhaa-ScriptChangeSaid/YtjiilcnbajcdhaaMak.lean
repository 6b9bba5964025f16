/-
  Package cells' Make. Over this seat's translation; of at most 100000 values.
-/
import Derived.Test.YtjiilcnbajcdhaaAmo
import Derived.Test.YtjiilcnbajcdhaaClc
import Derived.Test.YtjiilcnbajcdhaaTal
namespace Go.Proofs.Ytjiilcnbajcdhaa
open Go.RowKit Go.Shelf
attribute [local go_sem] Oper.semAt_some

def MakeNo (w : World) (e : Ending) (w' : World) : Prop := e = .returned (.tuple #[.slice none 0 0, .int .i64 1]) ∧ Below w.heap.size w w'
set_option maxRecDepth 100000 in
set_option maxHeartbeats 2000000 in
theorem make_no (n : Int) (s : ByteArray) (sv : Value) (d : List (Int × Int)) (w : World) (hr : Rg w sv d) (h : n < 0 ∨ 65536 < n ∨ n < s.size ∨ mayB 0 d = false) :
    Calls Try.prog 29 #[.int .i64 n, .string s, sv] w (MakeNo w) := by
  have hc := check_ct sv d w hr
  clear hr
  by_cases h1 : n < 0
  · clear h hc
    go_enter Try.func29, Try.ntmps29
    go_wp2
    go_ret2
    exact ⟨rfl, Below.refl _ _⟩
  · by_cases h2 : 65536 < n
    · clear h hc
      go_enter Try.func29, Try.ntmps29
      go_wp2
      go_ret2
      exact ⟨rfl, Below.refl _ _⟩
    · by_cases h3 : n < s.size
      · clear h hc
        go_enter Try.func29, Try.ntmps29
        go_wp2
        go_ret2
        exact ⟨rfl, Below.refl _ _⟩
      · have h4 : mayB 0 d = false := by
          rcases h with h | h | h | h
          · exact absurd h h1
          · exact absurd h h2
          · exact absurd h h3
          · exact h
        rw [h4] at hc
        clear h h4
        go_enter Try.func29, Try.ntmps29
        go_wp2_with (go_at_call 44; refine hc.mono ?_; rintro e w1 ⟨rfl, hB⟩)
        go_ret2
        exact ⟨rfl, hB⟩

/-- The value at a place, 0 behind the last one. -/
def byteAt (s : ByteArray) (j : Nat) : Int := if h : j < s.size then ((s[j]'h).toNat : Int) else 0
def mkF (n : Nat) (f : Nat → Int × Bool) : List (Int × Bool) := (List.range n).map f
theorem mkF_length (n : Nat) (f : Nat → Int × Bool) : (mkF n f).length = n := by simp [mkF]
theorem mkF_set (n : Nat) (f : Nat → Int × Bool) (k : Nat) (x : Int × Bool) : (mkF n f).set k x = mkF n (fun j => if j = k then x else f j) := by
  apply List.ext_getElem
  · simp [mkF]
  · intro i h1 h2
    simp only [mkF, List.length_map, List.length_range] at h2
    rw [List.getElem_set]
    simp only [mkF, List.getElem_map, List.getElem_range]
    by_cases e : k = i
    · rw [if_pos e, if_pos e.symm]
    · rw [if_neg e, if_neg (Ne.symm e)]
theorem mkF_congr (n : Nat) (f g : Nat → Int × Bool) (h : ∀ j, j < n → f j = g j) : mkF n f = mkF n g := by
  unfold mkF
  exact List.map_congr_left fun j hj => h j (List.mem_range.1 hj)
theorem mkF_nth (n : Nat) (f : Nat → Int × Bool) (k : Nat) (h : k < n) : nth (mkF n f) k = f k := by
  unfold nth mkF
  rw [List.getD_eq_getElem?_getD]
  simp [h]
/-- The cells that Make makes. -/
def mkL (n : Nat) (s : ByteArray) (d : List (Int × Int)) : List (Int × Bool) := mkF n fun j => (byteAt s j, inB d j)
theorem flat_zero (n : Nat) : (madeCells (Value.agg #[.int .u8 0, .bool false]).cells (n * 2)).toList = flat (mkF n fun _ => (0, false)) := by
  apply List.ext_getElem?
  intro j
  by_cases hj : j < n * 2
  · have hk : j / 2 < (mkF n fun _ => ((0 : Int), false)).length := by rw [mkF_length]; omega
    obtain ⟨h1, h2⟩ := flat_get (mkF n fun _ => ((0 : Int), false)) (j / 2) hk
    rw [mkF_nth _ _ _ (by omega)] at h1 h2
    have e : (madeCells (Value.agg #[.int .u8 0, .bool false]).cells (n * 2)).toList[j]? = some ((#[Value.int .u8 0, Value.bool false])[j % 2]!) := by
      simp [madeCells, Value.cells, hj]
    rw [e]
    rcases Nat.mod_two_eq_zero_or_one j with ej | ej
    · rw [ej, show j = j / 2 * 2 by omega, h1]; rfl
    · rw [ej, show j = j / 2 * 2 + 1 by omega, h2]; rfl
  · rw [List.getElem?_eq_none (by rw [Array.length_toList, size_madeCells]; omega), List.getElem?_eq_none (by rw [flat_length, mkF_length]; omega)]

/-- A slice of n cells of the call's own, by a function. -/
def OwnN (w : World) (base g n : Nat) (f : Nat → Int × Bool) : Prop := w.ownsRow base 61 2 (.slice (some ⟨g, 0, none⟩) n n) n (flat (mkF n f))
theorem OwnN.own {w : World} {base g n : Nat} {f : Nat → Int × Bool} (h : OwnN w base g n f) : Own w base g n (mkF n f) := by
  unfold Own
  rw [mkF_length]
  exact h
theorem OwnN.of {w : World} {base g n : Nat} {f : Nat → Int × Bool} (h : Own w base g n (mkF n f)) : OwnN w base g n f := by
  unfold Own at h
  rw [mkF_length] at h
  exact h
theorem OwnN.lt {w : World} {base g n : Nat} {f : Nat → Int × Bool} (h : OwnN w base g n f) : g < w.heap.size ∧ base ≤ g := h.own.lt
theorem OwnN.rd {w : World} {base g n : Nat} {f : Nat → Int × Bool} (h : OwnN w base g n f) : Rd w (.slice (some ⟨g, 0, none⟩) n n) (mkF n f) := by
  have := h.own.rd
  rwa [mkF_length] at this
theorem OwnN.below {w w' : World} {base g n : Nat} {f : Nat → Int × Bool} (h : OwnN w base g n f) (hb : Below w.heap.size w w') : OwnN w' base g n f := .of (h.own.below hb)
theorem OwnN.cellAt {w : World} {base g n : Nat} {f : Nat → Int × Bool} (h : OwnN w base g n f) (k : Nat) (hk : k < n) :
    w.cell? ⟨g, k * 2, none⟩ = some (.int .u8 (f k).1) ∧ w.cell? ⟨g, k * 2 + 1, none⟩ = some (.bool (f k).2) ∧ w.frozen? ⟨g, k * 2, none⟩ = false ∧ w.frozen? ⟨g, k * 2 + 1, none⟩ = false := by
  have := h.own.cellAt k (by rw [mkF_length]; exact hk)
  rwa [mkF_nth n f k hk] at this
theorem OwnN.stored {w : World} {base g n : Nat} {f : Nat → Int × Bool} (h : OwnN w base g n f) (k : Nat) (v : Int) (s : Bool) (hk : k < n) :
    OwnN ((w.setCell ⟨g, k * 2, none⟩ (.int .u8 v)).setCell ⟨g, k * 2 + 1, none⟩ (.bool s)) base g n (fun j => if j = k then (v, s) else f j) := by
  have := h.own.stored k v s (by rw [mkF_length]; exact hk)
  rw [mkF_set] at this
  exact .of this
theorem OwnN.congr {w : World} {base g n : Nat} {f f' : Nat → Int × Bool} (h : OwnN w base g n f) (he : ∀ j, j < n → f j = f' j) : OwnN w base g n f' := by
  unfold OwnN at h ⊢
  rw [← mkF_congr n f f' he]
  exact h
theorem Boxed.below {W W' : World} {B : Nat} {t : TypeId} {v : Value} (h : Boxed W B t v) (hb : Below W.heap.size W W') : Boxed W' B t v := (hb.block B h.lt).trans h
theorem Boxed.far {W : World} {B : Nat} {t : TypeId} {v : Value} (h : Boxed W B t v) {g : Nat} (o : Nat) (u : Value) (hne : B ≠ g) : Boxed (W.setCell ⟨g, o, none⟩ u) B t v := (Below.heap_setCell W ⟨g, o, none⟩ u B (fun e => hne (by simpa using e))).trans h
def upTo (s : ByteArray) (k j : Nat) : Int × Bool := (if j < k then byteAt s j else 0, false)

theorem ownsRow_own {β : Type} (base : Nat) (e : TypeId) (size : Nat) (v : β → Value) (k : β → Nat) (f : β → List Value) : Go.Own (fun s W => W.ownsRow base e size (v s) (k s) (f s)) := by
  rintro s X Y row hr hg hrow
  refine hr.kept hg ?_
  rcases hr.2 with ⟨h0, _⟩ | ⟨g, cap, cur, h0, _, hgb, _⟩
  · rw [h0]; exact .inl rfl
  · rw [h0]
    refine .inr fun e' => ?_
    obtain ⟨o, ho, hc⟩ := hrow g (by simpa [Value.ownBlock] using e'.symm)
    rw [hgb] at ho; cases ho; cases hc
theorem sizeFrom {β : Type} (B k : Nat) : OwnFrom B (fun (_ : β) W => k ≤ W.heap.size) := fun _ _ _ _ hs hg _ => Nat.le_trans hs hg.size
theorem keep_b {n₀ g : Nat} {w : World} (hn : n₀ ≤ w.heap.size) (W : World) (l : Nat) (o o' : Obj) (hl : w.heap.size ≤ l) (_ : W.heap[l]? = some o) (_ : o.isCells = false) (_ : o.isWalk = false) : Keep n₀ g W (W.putObj l o') :=
  ⟨(grownBy_putObj' W l o').size, fun b hb _ => World.putObj_heap_other (fun e => by omega)⟩
theorem keepsFrom_below {B : Nat} {A W : World} (h : Below A.heap.size A W) : KeepsFrom B A W := ⟨h.size, fun k _ _ h0 _ => (h.block k (Array.getElem?_eq_some_iff.1 h0).1).trans h0⟩
theorem Keep.set {n₀ g : Nat} {A B : World} (h : Keep n₀ g A B) (o : Nat) (u : Value) : Keep n₀ g A (B.setCell ⟨g, o, none⟩ u) :=
  ⟨by simpa using h.1, fun b hb hg => (Below.heap_setCell B ⟨g, o, none⟩ u b (fun e => hg (by simpa using e))).trans (h.2 b hb hg)⟩
theorem BoxR.below {W W' : World} {B : Nat} {x : Int × Int} (h : BoxR W B x) (hb : Below W.heap.size W W') : BoxR W' B x := (hb.block B h.lt).trans h
theorem BoxR.far {W : World} {B : Nat} {x : Int × Int} (h : BoxR W B x) {g : Nat} (o : Nat) (u : Value) (hne : B ≠ g) : BoxR (W.setCell ⟨g, o, none⟩ u) B x := (Below.heap_setCell W ⟨g, o, none⟩ u B (fun e => hne (by simpa using e))).trans h
/-- The cells when these ranges have come; and when, besides, the places from a on, below k, are done. -/
def cellsF (s : ByteArray) (l : List (Int × Int)) (j : Nat) : Int × Bool := (byteAt s j, inB l j)
def stepF (s : ByteArray) (l : List (Int × Int)) (a k j : Nat) : Int × Bool := (byteAt s j, inB l j || (decide (a ≤ j) && decide (j < k)))
theorem stepF_start (s : ByteArray) (l : List (Int × Int)) (a j : Nat) : cellsF s l j = stepF s l a a j := by
  unfold cellsF stepF
  have : (decide (a ≤ j) && decide (j < a)) = false := by simp
  rw [this, Bool.or_false]
theorem stepF_next (s : ByteArray) (l : List (Int × Int)) (a k j : Nat) (hk : a ≤ k) : (if j = k then (byteAt s k, true) else stepF s l a k j) = stepF s l a (k + 1) j := by
  unfold stepF
  by_cases e : j = k
  · subst e; rw [if_pos rfl]; simp [hk]
  · rw [if_neg e]
    have : decide (j < k + 1) = decide (j < k) := decide_eq_decide.2 (by omega)
    rw [this]
theorem stepF_end (s : ByteArray) (l : List (Int × Int)) (a b j : Nat) : stepF s l a (b + 1) j = cellsF s (l ++ [((a : Int), (b : Int))]) j := by
  unfold cellsF stepF
  rw [inB_append, inB_one]
  congr 2
  unfold inR
  congr 1 <;> (apply decide_eq_decide.2; omega)

set_option maxHeartbeats 1000000 in
theorem among_ct (a : Option Addr) (len cap : Nat) (n : Int) (w : World) :
    Calls Try.prog 46 #[.slice a len cap, .int .i64 n] w fun e w' => e = .returned (.func (.func 56) #[] #[.pointer (some ⟨w.heap.size, 0, none⟩), .pointer (some ⟨w.heap.size + 1, 0, none⟩)]) ∧ (w.alloc (.cells #[.slice a len cap] 23)).alloc (.cells #[.int .i64 n] 3) = w' := by
  go_enter Try.func46, Try.ntmps46
  go_wp2
  go_ret
  exact ⟨rfl, rfl⟩
theorem among_stops (m : Nat) (hm1 : 1 ≤ m) (Bs Bn g n : Nat) (wA : World) (sv : Value) (d : List (Int × Int)) (w : World) (hBl : Bs < wA.heap.size) (hBs : wA.cell? ⟨Bs, 0, none⟩ = some sv) (hBg : Bs ≠ g) (hNl : Bn < wA.heap.size) (hBn : wA.cell? ⟨Bn, 0, none⟩ = some (.int .i64 n)) (hNg : Bn ≠ g)
    (hr : Rg wA sv d) (hdg : ∀ b off c, sv = .slice (some ⟨b, off, none⟩) d.length c → d ≠ [] → b ≠ g) (hbA : Below wA.heap.size wA w) (hmay : mayB 0 d = true) (hn : n ≤ 65536) :
    SeqStopsK Fence.wide m Try.prog 56 #[.pointer (some ⟨Bs, 0, none⟩), .pointer (some ⟨Bn, 0, none⟩)] (fun x : Clip n => encR x.1) (Keep wA.heap.size g) (fun ys => ∀ x : Int, x < n → inB (clips ys) x = inB d x) (fun _ => True) d.length w := fun l J Jx W hW hJ _ hY h0 =>
  among1_in m hm1 l Bs Bn g n wA sv d J Jx hY (fun _ _ _ hb hs => abides_below hJ hb hs) W hBl hBs hBg hNl hBn hNg hr hdg ((Keep.refl _ _ _).below (hbA.trans (hW.mono hbA.size)) (Nat.le_refl _)) h0 hmay hn

def MakeYes (n : Nat) (s : ByteArray) (d : List (Int × Int)) (w : World) (e : Ending) (w' : World) : Prop := ∃ v, e = .returned (.tuple #[v, .int .i64 0]) ∧ Rd w' v (mkL n s d) ∧ Below w.heap.size w w'
set_option maxRecDepth 100000 in
set_option maxHeartbeats 4000000 in
theorem make_in (n : Nat) (s : ByteArray) (sv : Value) (d : List (Int × Int)) (w : World) (hr : Rg w sv d) (hn : n ≤ 65536) (hs : s.size ≤ n) (hd : mayB 0 d = true) :
    CallsIn Fence.wide 5 Try.prog 29 #[.int .i64 n, .string s, sv] w (MakeYes n s d w) := by
  have hc := check_ct sv d w hr
  rw [hd] at hc
  have Hr := Lib.hid hr
  clear hr
  obtain ⟨i0, hi, hz0, hz1, hz2⟩ := info_parts info_byte
  refine callsIn_of_wp_marks Try.func29 rfl trivial ?_ rfl
  simp only [Try.ntmps29, List.size_toArray, List.length_cons, List.length_nil, Nat.reduceAdd, Nat.reduceSub, Array.replicate_succ, Array.replicate_zero, List.push_toArray, List.append_toArray, List.nil_append, List.cons_append]
  refine wpIn_wide.2 ?_
  have hn0 : decide ((n : Int) < 0) = false := decide_eq_false (by omega)
  have hn1 : decide (65536 < (n : Int)) = false := decide_eq_false (by omega)
  have hs1 : decide (n < s.size) = false := by simpa using hs
  rw [show okE true = 0 from rfl] at hc
  go_wp2_with fail
  refine hc.mono ?_
  rintro e w1 ⟨rfl, hB⟩
  clear hc
  go_wp2_with (at_make; refine wpList_make_full _ rfl _ _ _ rfl w.heap.size 61 i0 (.agg #[.int .u8 0, .bool false]) 2 Try.underlying31 hi hz0 hz1 .i64 .i64 _ _ n rfl rfl rfl rfl (by rw [hz2]; omega) (by unfold maxLen; omega) hB.size ?_; intro w2 hown hgrow)
  rw [flat_zero] at hown
  have hB2 : Below w1.heap.size w1 w2 := ⟨hgrow.os, hgrow.tape, hgrow.output, hgrow.size, fun k hk => hgrow.block k hk (by simp)⟩
  have hB2' := hB.next hB2
  have hO : OwnN w2 w.heap.size w1.heap.size n (upTo s 0) := OwnN.congr (f := fun _ => (0, false)) hown (fun j _ => by simp [upTo])
  clear hown hgrow hB2 hB
  have hbx := Boxed.new w2 31 (.slice (some ⟨w1.heap.size, 0, none⟩) n n)
  have hgl := hO.lt
  generalize w1.heap.size = g at *
  obtain ⟨B, hBn⟩ : ∃ B, B = w2.heap.size := ⟨_, rfl⟩
  rw [← hBn] at hbx
  have hBg : B ≠ g := by omega
  have hBw : w.heap.size ≤ B := by rw [hBn]; exact hB2'.size
  have ha2 : Below w2.heap.size w2 (w2.alloc (.cells #[.slice (some ⟨g, 0, none⟩) n n] 31)) := (by repeat' (first | exact Below.refl _ _ | (refine Below.setCell ?_ (by first | (simp; done) | (simp; omega) | omega) _) | (refine Below.drew ?_) | (refine Below.drewN ?_ _) | (refine Below.alloc ?_ (by first | (simp; done) | (simp; omega) | omega) _)))
  have hO3 := hO.below ha2
  have hB3 := hB2'.next ha2
  rw [← hBn]
  clear hO hB2' ha2 hBn
  generalize (w2.alloc (.cells #[.slice (some ⟨g, 0, none⟩) n n] 31)) = w3 at *
  go_loopw [9, 33] (fun _ i wr => ∃ k : Nat, k ≤ s.size ∧ i = .int .i64 k ∧ Boxed wr B 31 (.slice (some ⟨g, 0, none⟩) n n) ∧ OwnN wr w.heap.size g n (upTo s k) ∧ Below w.heap.size w wr) (fun _ i _ => s.size - (intOf i).toNat)
  case atStart => exact ⟨0, Nat.zero_le _, rfl, hbx, hO3, hB3⟩
  case round =>
    clear hbx hO3 hB3 hgl
    obtain ⟨k, hk, rfl, hbx, hO, hB⟩ := hrel
    have hgl := hO.lt
    by_cases hlt : k < s.size
    · obtain ⟨c1, c2, f1, f2⟩ := hO.cellAt k (by omega)
      have hbv : byteAt s k = ((s[k]'hlt).toNat : Int) := by simp [byteAt, hlt]
      have cb := hbx.cell
      have qb := cell_regrown cb
      have q1 := cell_regrown c1
      have q2 := cell_regrown c2
      have q3 := frozen_regrown (w := wr) (a := ⟨g, k * 2, none⟩) hgl.1 f1
      have q4 := frozen_regrown (w := wr) (a := ⟨g, k * 2 + 1, none⟩) hgl.1 f2
      have hkn : k < n := by omega
      have HO := Lib.hid hO
      have HV := Lib.hid hbv
      clear hO hbv
      go_wp2_with fail
      (refine wp_region_tail_below 7 (by kernel_rfl) (by kernel_rfl) ?_); (simp only [List.take_succ_cons, List.take_zero, List.drop_succ_cons, List.drop_zero]); (repeat (go_big_quiet_step (((go_at_call 45; exact Calls.regrown_of (low_ct _ _)))))); (refine wpQuiet_nil ?_); intro _ hw'; obtain ⟨⟨dq, osq⟩, hw''⟩ := hw'; (subst hw''); have hq := below_regrown wr dq osq; have s1 := q1 dq osq; have s2 := q2 dq osq; have s3 := q3 dq osq; have s4 := q4 dq osq; generalize Go.Sort.grow (redrawn wr dq) osq = wq at *
      have hOq := HO.out.below hq
      have hst := hOq.stored k ((s[k]'hlt).toNat : Int) false hkn
      have hst' : OwnN _ w.heap.size g n (upTo s (k + 1)) := hst.congr (fun j hj => by
        unfold upTo
        by_cases e : j = k
        · subst e; rw [if_pos rfl, if_pos (by omega), HV.out]
        · rw [if_neg e]
          by_cases e2 : j < k
          · rw [if_pos e2, if_pos (by omega)]
          · rw [if_neg e2, if_neg (by omega)])
      have hbq := Boxed.far (Boxed.far (Boxed.below hbx hq) (k * 2) (.int .u8 ((s[k]'hlt).toNat : Int)) hBg) (k * 2 + 1) (.bool false) hBg
      have hBq := ((hB.next hq).setCell (p := ⟨g, k * 2, none⟩) hgl.2 (.int .u8 ((s[k]'hlt).toNat : Int))).setCell (p := ⟨g, k * 2 + 1, none⟩) hgl.2 (.bool false)
      have Hst := Lib.hid hst'
      have Hbq := Lib.hid hbq
      have HBq := Lib.hid hBq
      clear hst hst' hOq hbq hBq q1 q2 q3 q4 qb c1 c2 f1 f2 HO
      go_wp2
      go_roundw
      case rel => exact ⟨k + 1, by omega, by go_num, Hbq.out, Hst.out, HBq.out⟩
      case measure => simp [intOf]; omega
    · obtain rfl : k = s.size := by omega
      have hnm : decide (s.size < s.size) = false := decide_eq_false (by omega)
      have hrw := Hr.out.below hB
      obtain ⟨sa, cap, hsv⟩ := hrw.slice
      subst hsv
      go_wp2_with fail
      refine (among_ct _ _ _ _ _).mono ?_
      rintro e w4 ⟨rfl, hw4⟩
      have hb4 : Below wr.heap.size wr w4 := by rw [← hw4]; exact (by repeat' (first | exact Below.refl _ _ | (refine Below.setCell ?_ (by first | (simp; done) | (simp; omega) | omega) _) | (refine Below.drew ?_) | (refine Below.drewN ?_ _) | (refine Below.alloc ?_ (by first | (simp; done) | (simp; omega) | omega) _)))
      have cs4 : w4.cell? ⟨wr.heap.size, 0, none⟩ = some (.slice sa d.length cap) := by rw [← hw4]; exact (by simp [go_sem])
      have cn4 : w4.cell? ⟨wr.heap.size + 1, 0, none⟩ = some (.int .i64 n) := by rw [← hw4]; exact (by simp [go_sem])
      have hl4 : w4.heap.size = wr.heap.size + 1 + 1 := by rw [← hw4]; simp
      clear hw4
      go_wp2_with fail
      refine (wpIn_wide (n := 5)).1 ?_
      have hdg : ∀ b off c, Value.slice sa d.length cap = .slice (some ⟨b, off, none⟩) d.length c → d ≠ [] → b ≠ g := fun b off c e hne => by
        obtain ⟨a2, cap2, h1, _, _, h2⟩ := Hr.out
        rcases h2 with h2 | ⟨b2, off2, h3, h4, _⟩
        · exact absurd h2 hne
        · injection h1 with e1 e2 e3
          injection e with e4 e5 e6
          rw [e1, h3] at e4
          injection e4 with e4
          injection e4 with e4
          have := hgl.2
          omega
      have hbw : Below w.heap.size w w4 := hB.next hb4
      refine wpIn_rangeFunc_ownH rfl (by omega) (gf := 56) (lb := #[.pointer (some ⟨wr.heap.size, 0, none⟩), .pointer (some ⟨wr.heap.size + 1, 0, none⟩)]) rfl trivial (enters_of Try.func56 (by kernel_rfl) rfl)
        (among_stops 4 (by omega) wr.heap.size (wr.heap.size + 1) g n w4 _ d w4 (by omega) cs4 (by have := hgl.1; omega) (by omega) cn4 (by have := hgl.1; omega) (hrw.below hb4) hdg (Below.refl _ _) hd hn)
        Keep.trans (keep_b (Nat.le_refl _)) (Below.refl _ _) (fun _ => rfl)
        (fun pre W => (Boxed W B 31 (.slice (some ⟨g, 0, none⟩) n n) ∧ OwnN W w.heap.size g n (cellsF s (clips pre))) ∧ (Below w.heap.size w W ∧ w4.heap.size ≤ W.heap.size))
        (fun _ _ _ => False)
        (OwnFrom.and (OwnFrom.and (Go.Own.from (boxed_own _ _ _) _) (Go.Own.from (ownsRow_own w.heap.size _ 2 _ _ (fun pre => flat (mkF n (cellsF s (clips pre))))) _)) (OwnFrom.and (ownFrom_below (Nat.le_refl _) hbw.size) (sizeFrom _ _)))
        (fun _ _ _ _ _ hs _ _ => hs)
        ⟨⟨Boxed.below hbx hb4, (hO.below hb4).congr (fun j hj => by
          unfold upTo cellsF
          have : inB (clips ([] : List (Clip n))) j = false := rfl
          rw [this]
          by_cases e : j < s.size
          · rw [if_pos e]
          · rw [if_neg e]; simp [byteAt, e])⟩, hbw, Nat.le_refl _⟩
        (fun x a' W => ∃ Bx, B < Bx ∧ g < Bx ∧ BoxR W Bx x.1 ∧ a' = { tmps := #[.int .i64 n, .string s, .slice sa d.length cap, undef, undef, undef, .slice none 0 0, .int .i64 0, .pointer (some ⟨B, 0, none⟩), u9, .pointer (some ⟨Bx, 0, none⟩), undef, .int .i64 n, .bool false, .bool false, .int .i64 n, .bool false, .bool false, .bool false, .string s, .int .i64 s.size, .int .i64 n, .bool false, .bool false, .bool false, .slice sa d.length cap, .int .i64 0, .bool false, .bool false, .int .i64 n, .slice (some ⟨g, 0, none⟩) n n, .string s, .int .i64 s.size, .int .i64 s.size, .bool false, u35, u36, u37, u38, u39, u40, u41, u42, u43, .slice sa d.length cap, .int .i64 n, .func (.func 56) #[] #[.pointer (some ⟨wr.heap.size, 0, none⟩), .pointer (some ⟨wr.heap.size + 1, 0, none⟩)], .agg #[.int .i64 x.1.1, .int .i64 x.1.2], undef, undef, undef, undef, undef, undef, undef, undef, undef, undef, undef, undef, undef, undef, undef, undef, undef, undef], defers := [] })
        (fun x a' _ X Y row hs hg hr => by obtain ⟨Bx, h1, h2, h3, h4⟩ := hs; exact ⟨Bx, h1, h2, block_own Bx (fun (_ : Unit) => Obj.cells #[.int .i64 x.1.1, .int .i64 x.1.2] 68 (0, 0)) (fun _ => rfl) () X Y row h3 hg (fun r e => (hr r e).2), h4⟩)
        ?assign ?body ?done ?stop
      case assign =>
        rintro l pre x W K ⟨⟨hb, ho⟩, hB, hsz⟩ hK
        have hal : Below W.heap.size W (W.alloc (.cells #[.int .i64 x.1.1, .int .i64 x.1.2] 68)) := (by repeat' (first | exact Below.refl _ _ | (refine Below.setCell ?_ (by first | (simp; done) | (simp; omega) | omega) _) | (refine Below.drew ?_) | (refine Below.drewN ?_ _) | (refine Below.alloc ?_ (by first | (simp; done) | (simp; omega) | omega) _)))
        gi_wp2
        exact hK _ _ ((KeepsOthers.alloc _ _).from _) ((Keep.refl _ _ W).below hal hsz) ⟨⟨hb.alloc _, ho.below hal⟩, hB.next hal, by simp; omega⟩ ⟨W.heap.size, hb.lt, ho.lt.1, BoxR.new W x.1, rfl⟩
      case body =>
        rintro l pre ⟨⟨xa, xb⟩, p0, p1, p2⟩ a' W hl _ ⟨⟨hb, ho⟩, hB, hsz⟩ ⟨Bx, hBx, hgx, bX, rfl⟩ hlt
        dsimp only at p0 p1 p2 bX ⊢
        obtain ⟨a, rfl⟩ := Int.eq_ofNat_of_zero_le p0
        obtain ⟨b, rfl⟩ := Int.eq_ofNat_of_zero_le (Int.le_trans p0 p1)
        obtain ⟨cx1, cx2⟩ := bX.cell
        have cb := hb.cell
        have hgx' : Bx ≠ g := by omega
        have hst := ho.congr (fun j _ => stepF_start s (clips pre) a j)
        have hc1 : clips (pre ++ [⟨((a : Int), (b : Int)), p0, p1, p2⟩]) = clips pre ++ [((a : Int), (b : Int))] := clips_snoc _ _
        gi_wp2
        gi_loopw [11] (fun i wx => ∃ k : Nat, i = .int .i64 k ∧ a ≤ k ∧ k ≤ b + 1 ∧ Boxed wx B 31 (.slice (some ⟨g, 0, none⟩) n n) ∧ BoxR wx Bx ((a : Int), (b : Int)) ∧ OwnN wx w.heap.size g n (stepF s (clips pre) a k) ∧ Below w.heap.size w wx ∧ KeepsFrom w4.heap.size W wx ∧ Keep w4.heap.size g W wx) (fun i _ => b + 1 - (intOf i).toNat)
        case atStart => exact ⟨a, rfl, Nat.le_refl _, by omega, hb, bX, hst, hB, KeepsFrom.refl _ _, Keep.refl _ _ _⟩
        case round =>
          clear hb ho hB hst cx1 cx2 cb bX
          obtain ⟨k, rfl, hak, hkb, hb, bX, ho, hB, hkf, hkp⟩ := hrel
          obtain ⟨cx1, cx2⟩ := bX.cell
          have cb := hb.cell
          have hgl' := ho.lt
          by_cases hle : k ≤ b
          · have hkn : k < n := by omega
            obtain ⟨c1, c2, f1, f2⟩ := ho.cellAt k hkn
            have e1 : (stepF s (clips pre) a k k).1 = byteAt s k := rfl
            rw [e1] at c1
            have hle' : decide (k ≤ b) = true := decide_eq_true hle
            have qb := cell_regrown cb
            have q1 := cell_regrown c1
            have q2 := cell_regrown c2
            have q3 := frozen_regrown (w := wr) (a := ⟨g, k * 2, none⟩) hgl'.1 f1
            have q4 := frozen_regrown (w := wr) (a := ⟨g, k * 2 + 1, none⟩) hgl'.1 f2
            have HO := Lib.hid ho
            have hnn : n ≤ 9223372036854775807 := by omega
            clear ho e1
            obtain ⟨bv, hbv⟩ : ∃ bv, bv = byteAt s k := ⟨_, rfl⟩
            rw [← hbv] at c1 q1
            have HV := Lib.hid hbv
            clear hbv
            gi_wp2
            (refine wpIn_region_tail_below l _ 9 (by kernel_rfl) (by kernel_rfl) ?_); (simp only [List.take_succ_cons, List.take_zero, List.drop_succ_cons, List.drop_zero]); (repeat (go_big_quiet_step (((go_at_call 47; exact Calls.regrown_of (sec_ct _ _)))))); (refine wpQuiet_nil ?_); intro _ hw'; obtain ⟨⟨dq, osq⟩, hw''⟩ := hw'; (subst hw''); have hq := below_regrown wr dq osq; have s1 := q1 dq osq; have s2 := q2 dq osq; have s3 := q3 dq osq; have s4 := q4 dq osq; generalize Go.Sort.grow (redrawn wr dq) osq = wq at *
            have hOq := (HO.out.below hq).stored k bv true hkn
            have Hst := Lib.hid (hOq.congr (f' := stepF s (clips pre) a (k + 1)) (fun j _ => by rw [HV.out]; exact stepF_next s (clips pre) a k j hak))
            have Hb := Lib.hid (Boxed.far (Boxed.far (Boxed.below hb hq) (k * 2) (.int .u8 bv) hBg) (k * 2 + 1) (.bool true) hBg)
            have Hx := Lib.hid (((bX.below hq).far (k * 2) (.int .u8 bv) hgx').far (k * 2 + 1) (.bool true) hgx')
            have HB := Lib.hid (((hB.next hq).setCell (p := ⟨g, k * 2, none⟩) hgl.2 (.int .u8 bv)).setCell (p := ⟨g, k * 2 + 1, none⟩) hgl.2 (.bool true))
            have Hkf := Lib.hid (((hkf.trans (keepsFrom_below hq)).trans ((KeepsOthers.setCell _ ⟨g, k * 2, none⟩ (.int .u8 bv)).from _)).trans ((KeepsOthers.setCell _ ⟨g, k * 2 + 1, none⟩ (.bool true)).from _))
            have Hkp := Lib.hid (((hkp.below hq (Nat.le_trans hsz hkp.1)).set (k * 2) (.int .u8 bv)).set (k * 2 + 1) (.bool true))
            clear hOq q1 q2 q3 q4 qb c1 c2 f1 f2 HO
            gi_wp2
            go_roundw
            case rel => exact ⟨k + 1, by go_num, by omega, by omega, Hb.out, Hx.out, Hst.out, HB.out, Hkf.out, Hkp.out⟩
            case measure => simp [intOf]; omega
          · obtain rfl : k = b + 1 := by omega
            have hle' : decide (b + 1 ≤ b) = false := decide_eq_false (by omega)
            have Hend := Lib.hid (ho.congr (f' := cellsF s (clips (pre ++ [⟨((a : Int), (b : Int)), p0, p1, p2⟩]))) (fun j _ => by rw [hc1]; exact stepF_end s (clips pre) a b j))
            clear ho
            gi_wp2
            have hz := Nat.le_trans hsz hkp.1
            rw [hl4] at hkf hkp hz
            exact ⟨hkf, hkp, ⟨hb, Hend.out⟩, hB, hz⟩
      case done =>
        rintro D ys W hD hS ⟨⟨hb, ho⟩, hB, hsz⟩ hK
        have cb := hb.cell
        go_wp2
        refine ⟨by simp, .inl ⟨_, _, rfl, run_takeDeferred hK, ?_⟩⟩
        refine ⟨.tuple #[.slice (some ⟨g, 0, none⟩) n n, .int .i64 0], by simp [results, Try.results29, go_sem], _, rfl, ?_, hB.trans (belowK_b (w := w) (Nat.le_refl _) W D _ _ (by have := hbw.size; omega) hK rfl rfl)⟩
        have ho2 : OwnN (W.putObj D (.deferred none)) w.heap.size g n (cellsF s (clips ys)) := ownsRow_putObj ho _ hK rfl
        have e : mkF n (cellsF s (clips ys)) = mkL n s d := mkF_congr n _ _ fun j hj => by
          unfold cellsF
          rw [hS j (by omega)]
        rw [← e]
        exact ho2.rd
      case stop =>
        rintro D c pre W _ _ h _
        exact h.elim
theorem make_yes (n : Nat) (s : ByteArray) (sv : Value) (d : List (Int × Int)) (w : World) (hr : Rg w sv d) (hn : n ≤ 65536) (hs : s.size ≤ n) (hd : mayB 0 d = true) :
    Calls Try.prog 29 #[.int .i64 n, .string s, sv] w (MakeYes n s d w) := callsIn_wide.1 (make_in n s sv d w hr hn hs hd)
end Go.Proofs.Ytjiilcnbajcdhaa
