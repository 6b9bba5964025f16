/-
  Package cells' Values and Erase, and the document's own Make. Over this seat's translation; of at most 100000 cells.
-/
import Derived.Test.YtinbankkpbdlbaaMak
import Derived.Test.YtinbankkpbdlbaaRgb
import Derived.Laws.BytesArg
namespace Go.Proofs.Ytinbankkpbdlbaa
open Go.RowKit

theorem info_u8 : (Try.prog.info? 5).map (fun i => (i.zero, i.size, i.bytes)) = some (some (.int .u8 0), 1, 1) := by kernel_rfl
/-- A slice of n values of the call's own, by a function. -/
def mkV (n : Nat) (f : Nat → Int) : List Value := (List.range n).map fun j => .int .u8 (f j)
def OwnV (w : World) (base g n : Nat) (f : Nat → Int) : Prop := w.ownsRow base 5 1 (.slice (some ⟨g, 0, none⟩) n n) n (mkV n f)
theorem mkV_get (n : Nat) (f : Nat → Int) (k : Nat) (h : k < n) : (mkV n f)[k]? = some (.int .u8 (f k)) := by simp [mkV, h]
theorem mkV_set (n : Nat) (f : Nat → Int) (k : Nat) (x : Int) : (mkV n f).set k (.int .u8 x) = mkV n (fun j => if j = k then x else f j) := by
  apply List.ext_getElem
  · simp [mkV]
  · intro i h1 h2
    rw [List.getElem_set]
    simp only [mkV, List.getElem_map, List.getElem_range]
    by_cases e : k = i
    · rw [if_pos e, if_pos e.symm]
    · rw [if_neg e, if_neg (Ne.symm e)]
theorem mkV_zero (n : Nat) : (madeCells (Value.int .u8 0).cells (n * 1)).toList = mkV n fun _ => 0 := by
  apply List.ext_getElem
  · simp [madeCells, mkV]
  · intro i h1 h2
    simp [madeCells, mkV, Value.cells, Nat.mod_one]
theorem OwnV.lt {w : World} {base g n : Nat} {f : Nat → Int} (h : OwnV w base g n f) : g < w.heap.size ∧ base ≤ g := by
  rcases h.2 with ⟨h0, _⟩ | ⟨g', cap', cur, hv, hb, hg, _⟩
  · cases h0
  · injection hv with h1 h2 h3
    injection h1 with h1
    injection h1 with h1
    subst h1
    exact ⟨(Array.getElem?_eq_some_iff.1 hg).1, hb⟩
theorem OwnV.cellAt {w : World} {base g n : Nat} {f : Nat → Int} (h : OwnV w base g n f) (k : Nat) (hk : k < n) : w.cell? ⟨g, k, none⟩ = some (.int .u8 (f k)) ∧ w.frozen? ⟨g, k, none⟩ = false :=
  ⟨by rw [World.ownsRow.cellAt h k (by omega)]; exact mkV_get n f k hk, World.ownsRow.frozenAt h k⟩
theorem OwnV.stored {w : World} {base g n : Nat} {f : Nat → Int} (h : OwnV w base g n f) (k : Nat) (x : Int) : OwnV (w.setCell ⟨g, k, none⟩ (.int .u8 x)) base g n (fun j => if j = k then x else f j) := by
  have := (World.ownsRow.stored h k (.int .u8 x)).1
  rw [mkV_set] at this
  exact this
theorem OwnV.congr {w : World} {base g n : Nat} {f f' : Nat → Int} (h : OwnV w base g n f) (he : ∀ j, j < n → f j = f' j) : OwnV w base g n f' := by
  have : mkV n f = mkV n f' := List.map_congr_left fun j hj => by rw [he j (List.mem_range.1 hj)]
  unfold OwnV at h ⊢
  rw [← this]
  exact h
theorem OwnV.below {w w' : World} {base g n : Nat} {f : Nat → Int} (h : OwnV w base g n f) (hb : Below w.heap.size w w') : OwnV w' base g n f := by
  have hlt := h.lt.1
  rcases h.2 with ⟨h0, _⟩ | ⟨g', cap', cur, hv, hb', hg, r⟩
  · cases h0
  · have e : g' = g := by
      injection hv with h1 h2 h3
      injection h1 with h1
      injection h1 with h1
      exact h1.symm
    exact ⟨h.1, .inr ⟨g', cap', cur, hv, hb', by rw [hb.block g' (by omega)]; exact hg, r⟩⟩

/-- The values, as a text. -/
def textOf (d : List (Int × Bool)) : ByteArray := strOfNums (d.map (·.1))
theorem textOf_size (d : List (Int × Bool)) : (textOf d).size = d.length := by unfold textOf; rw [strOfNums_size, List.length_map]
set_option maxRecDepth 100000 in
set_option maxHeartbeats 2000000 in
theorem values_bytes_ct (sv : Value) (d : List (Int × Bool)) (w : World) (hr : Rd w sv d) (hlen : d.length ≤ 100000) :
    Calls Try.prog 24 #[sv] w fun e w' => e = .returned (.string (textOf d)) ∧ Below w.heap.size w w' := by
  obtain ⟨i0, hi, hz0, hz1, hz2⟩ := info_parts info_u8
  obtain ⟨sa, cap, rfl, hcap, hm, hc⟩ := hr
  unfold maxLen at hm
  have Hc := Lib.hid hc
  clear hc
  go_enter Try.func24, Try.ntmps24
  go_wp2_with (at_make; refine wpList_make_full _ rfl _ _ _ rfl w.heap.size 5 i0 (.int .u8 0) 1 Try.underlying69 hi hz0 hz1 .i64 .i64 _ _ d.length rfl rfl rfl rfl (by rw [hz2]; omega) (by unfold maxLen; omega) (Nat.le_refl _) ?_; intro w2 hown hgrow)
  rw [mkV_zero] at hown
  have hB2 : Below w.heap.size w w2 := ⟨hgrow.os, hgrow.tape, hgrow.output, hgrow.size, fun k hk => hgrow.block k hk (by simp)⟩
  have hO : OwnV w2 w.heap.size w.heap.size d.length (fun j => if j < 0 then (nth d j).1 else 0) := OwnV.congr (f := fun _ => 0) hown (fun j _ => by simp)
  clear hown hgrow
  obtain ⟨g, hg⟩ : ∃ g, g = w.heap.size := ⟨_, rfl⟩
  have hgw : w.heap.size ≤ g := by omega
  rw [show OwnV w2 w.heap.size w.heap.size d.length (fun j => if j < 0 then (nth d j).1 else 0) = OwnV w2 w.heap.size g d.length (fun j => if j < 0 then (nth d j).1 else 0) by rw [hg]] at hO
  rw [show (Value.slice (some ⟨w.heap.size, 0, none⟩) d.length d.length) = .slice (some ⟨g, 0, none⟩) d.length d.length by rw [hg]]
  clear hg
  go_loopw [11] (fun i wr => ∃ (k : Nat), k ≤ d.length ∧ i = .int .i64 k ∧ OwnV wr w.heap.size g d.length (fun j => if j < k then (nth d j).1 else 0) ∧ Below w.heap.size w wr) (fun i _ => d.length - (intOf i).toNat)
  case atStart => exact ⟨0, Nat.zero_le _, rfl, hO, hB2⟩
  case round =>
    clear hO hB2
    obtain ⟨k, hk, rfl, hO, hB⟩ := hrel
    by_cases hlt : k < d.length
    · rcases Hc.out with rfl | ⟨b, off, rfl, hb, hc⟩
      · simp at hlt
      obtain ⟨h1, h2⟩ := hc k hlt
      clear hc
      rw [← hB.cell hb] at h1 h2
      have hgl := hO.lt
      obtain ⟨v, hv⟩ : ∃ v, v = (nth d k).1 := ⟨_, rfl⟩
      obtain ⟨s, hs⟩ : ∃ s, s = (nth d k).2 := ⟨_, rfl⟩
      rw [← hv] at h1
      rw [← hs] at h2
      have hal : Below wr.heap.size wr (wr.alloc (.cells #[.int .u8 v, .bool s] 41)) := (by repeat' (first | exact Below.refl _ _ | (refine Below.setCell ?_ (by first | (simp; done) | (simp; omega) | omega) _) | (refine Below.drew ?_) | (refine Below.drewN ?_ _) | (refine Below.alloc ?_ (by first | (simp; done) | (simp; omega) | omega) _)))
      have hOa := hO.below hal
      obtain ⟨c1, f1⟩ := hOa.cellAt k hlt
      have hal' : Below (wr.setCell ⟨g, k, none⟩ (.int .u8 v)).heap.size (wr.setCell ⟨g, k, none⟩ (.int .u8 v)) ((wr.setCell ⟨g, k, none⟩ (.int .u8 v)).alloc (.cells #[.int .u8 v, .bool s] 41)) := (by repeat' (first | exact Below.refl _ _ | (refine Below.setCell ?_ (by first | (simp; done) | (simp; omega) | omega) _) | (refine Below.drew ?_) | (refine Below.drewN ?_ _) | (refine Below.alloc ?_ (by first | (simp; done) | (simp; omega) | omega) _)))
      have hst := (hO.stored k v).below hal'
      have Hst := Lib.hid (hst.congr (f' := fun j => if j < k + 1 then (nth d j).1 else 0) (fun j _ => by
        by_cases e : j = k
        · subst e; rw [if_pos rfl, if_pos (by omega), hv]
        · rw [if_neg e]
          by_cases e2 : j < k
          · rw [if_pos e2, if_pos (by omega)]
          · rw [if_neg e2, if_neg (by omega)]))
      have HB := Lib.hid ((hB.setCell (p := ⟨g, k, none⟩) hgw (.int .u8 v)).next hal')
      clear hst hO Hc hOa hal hal' hv hs
      go_wp2
      go_roundw
      case rel => exact ⟨k + 1, by omega, by go_num, Hst.out, HB.out⟩
      case measure => simp [intOf]; omega
    · obtain rfl : k = d.length := by omega
      have hnm : decide (d.length < d.length) = false := decide_eq_false (by omega)
      have kc := run_convert_bytes_arg (P := Try.prog) wr 69 5 Try.underlying69 Try.underlying5 g 0 d.length d.length (d.map (·.1)) (by simp) (fun i hi => by
        rw [Nat.zero_add, (hO.cellAt i hi).1, if_pos hi]
        simp [nth, hi]) 9 Try.underlying9
      rw [show strOfNums (d.map (·.1)) = textOf d from rfl] at kc
      clear hO Hc
      go_wp2
      go_ret
      exact ⟨rfl, hB⟩

/-- What Erase hands back. -/
def lowL (d : List (Int × Bool)) : List (Int × Bool) := d.map fun p => (p.1, false)
theorem lowL_mkF (d : List (Int × Bool)) : lowL d = mkF d.length (fun j => ((nth d j).1, false)) := by
  apply List.ext_getElem
  · simp [lowL, mkF]
  · intro i h1 h2
    simp only [lowL, List.length_map] at h1
    simp [lowL, mkF, nth, h1]
def EraseP (d : List (Int × Bool)) (w : World) (e : Ending) (w' : World) : Prop := ∃ v, e = .returned v ∧ Rd w' v (lowL d) ∧ Below w.heap.size w w'
set_option maxRecDepth 100000 in
set_option maxHeartbeats 2000000 in
theorem erase_bytes_ct (sv : Value) (d : List (Int × Bool)) (w : World) (hr : Rd w sv d) (hlen : d.length ≤ 100000) :
    Calls Try.prog 25 #[sv] w (EraseP d w) := by
  obtain ⟨i0, hi, hz0, hz1, hz2⟩ := info_parts info_byte
  obtain ⟨sa, cap, rfl, hcap, hm, hc⟩ := hr
  unfold maxLen at hm
  have Hc := Lib.hid hc
  clear hc
  go_enter Try.func25, Try.ntmps25
  go_wp2_with (at_make; refine wpList_make_full _ rfl _ _ _ rfl w.heap.size 41 i0 (.agg #[.int .u8 0, .bool false]) 2 Try.underlying32 hi hz0 hz1 .i64 .i64 _ _ d.length rfl rfl rfl rfl (by rw [hz2]; omega) (by unfold maxLen; omega) (Nat.le_refl _) ?_; intro w2 hown hgrow)
  rw [flat_zero] at hown
  have hB2 : Below w.heap.size w w2 := ⟨hgrow.os, hgrow.tape, hgrow.output, hgrow.size, fun k hk => hgrow.block k hk (by simp)⟩
  have hO : OwnN w2 w.heap.size w.heap.size d.length (fun j => if j < 0 then ((nth d j).1, false) else (0, false)) := OwnN.congr (f := fun _ => (0, false)) hown (fun j _ => by simp)
  clear hown hgrow
  obtain ⟨g, hg⟩ : ∃ g, g = w.heap.size := ⟨_, rfl⟩
  have hgw : w.heap.size ≤ g := by omega
  rw [show OwnN w2 w.heap.size w.heap.size d.length (fun j => if j < 0 then ((nth d j).1, false) else (0, false)) = OwnN w2 w.heap.size g d.length (fun j => if j < 0 then ((nth d j).1, false) else (0, false)) by rw [hg]] at hO
  rw [show (Value.slice (some ⟨w.heap.size, 0, none⟩) d.length d.length) = .slice (some ⟨g, 0, none⟩) d.length d.length by rw [hg]]
  clear hg
  go_loopw [11] (fun i wr => ∃ (k : Nat), k ≤ d.length ∧ i = .int .i64 k ∧ OwnN wr w.heap.size g d.length (fun j => if j < k then ((nth d j).1, false) else (0, false)) ∧ Below w.heap.size w wr) (fun i _ => d.length - (intOf i).toNat)
  case atStart => exact ⟨0, Nat.zero_le _, rfl, hO, hB2⟩
  case round =>
    clear hO hB2
    obtain ⟨k, hk, rfl, hO, hB⟩ := hrel
    by_cases hlt : k < d.length
    · rcases Hc.out with rfl | ⟨b, off, rfl, hb, hc⟩
      · simp at hlt
      obtain ⟨h1, h2⟩ := hc k hlt
      clear hc
      rw [← hB.cell hb] at h1 h2
      obtain ⟨v, hv⟩ : ∃ v, v = (nth d k).1 := ⟨_, rfl⟩
      obtain ⟨s, hs⟩ : ∃ s, s = (nth d k).2 := ⟨_, rfl⟩
      rw [← hv] at h1
      rw [← hs] at h2
      have hal : Below wr.heap.size wr (wr.alloc (.cells #[.int .u8 v, .bool s] 41)) := (by repeat' (first | exact Below.refl _ _ | (refine Below.setCell ?_ (by first | (simp; done) | (simp; omega) | omega) _) | (refine Below.drew ?_) | (refine Below.drewN ?_ _) | (refine Below.alloc ?_ (by first | (simp; done) | (simp; omega) | omega) _)))
      have HO := Lib.hid (hO.below hal)
      have HB1 := Lib.hid (hB.next hal)
      have Hv := Lib.hid hv
      have her := erase_ct v s (wr.alloc (.cells #[.int .u8 v, .bool s] 41))
      clear hO Hc hal hv hs
      go_wp2_with fail
      refine her.mono ?_
      rintro e w3 ⟨rfl, B3⟩
      have hO3 := HO.out.below B3
      have hB3 := HB1.out.next B3
      clear HO HB1 her B3
      obtain ⟨c1, c2, f1, f2⟩ := hO3.cellAt k hlt
      have hst := hO3.stored k v false hlt
      have Hst := Lib.hid (hst.congr (f' := fun j => if j < k + 1 then ((nth d j).1, false) else (0, false)) (fun j _ => by
        by_cases e : j = k
        · subst e; rw [if_pos rfl, if_pos (by omega), Hv.out]
        · rw [if_neg e]
          by_cases e2 : j < k
          · rw [if_pos e2, if_pos (by omega)]
          · rw [if_neg e2, if_neg (by omega)]))
      have HB := Lib.hid ((hB3.setCell (p := ⟨g, k * 2, none⟩) hgw (.int .u8 v)).setCell (p := ⟨g, k * 2 + 1, none⟩) hgw (.bool false))
      clear hst hO3 hB3 Hv
      go_wp2
      go_roundw
      case rel => exact ⟨k + 1, by omega, by go_num, Hst.out, HB.out⟩
      case measure => simp [intOf]; omega
    · obtain rfl : k = d.length := by omega
      have hnm : decide (d.length < d.length) = false := decide_eq_false (by omega)
      have hrd := (hO.congr (f' := fun j => ((nth d j).1, false)) (fun j hj => by rw [if_pos hj])).rd
      rw [← lowL_mkF] at hrd
      have Hrd := Lib.hid hrd
      clear hO Hc hrd
      go_wp2
      go_ret
      exact ⟨_, rfl, Hrd.out, hB⟩
end Go.Proofs.Ytinbankkpbdlbaa
