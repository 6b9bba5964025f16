/-
  Package policy's Join: refused where one may not be, else what is secret in one of two. Over this seat's translation; no condition.
-/
import Derived.Test.YtjiilcnbajcdhaaGreatDoorPar
import Derived.Test.YtjiilcnbajcdhaaGreatDoorCon
namespace Go.Proofs.YtjiilcnbajcdhaaGreatDoor
open Go.RowKit Go.Shelf

theorem rise_len : ∀ (l : List (Int × Int)) {m : Int}, Rise m l → ∀ r ∈ l.getLast?, m + 2 * (l.length : Int) ≤ r.2 + 2
  | [], _, _ => fun r h => by simp at h
  | [a], m, h => fun r hr => by
    simp at hr; subst hr
    obtain ⟨h1, h2, _⟩ := h
    simp; omega
  | a :: b :: l, m, h => fun r hr => by
    obtain ⟨h1, h2, h3⟩ := h
    have := rise_len (b :: l) h3 r (by simpa using hr)
    simp only [List.length_cons] at this ⊢
    omega
theorem may_len (l : List (Int × Int)) (h : mayB 0 l = true) : l.length ≤ 40000 := by
  obtain ⟨h1, h2⟩ := (mayB_iff l 0).1 h
  cases hl : l.getLast? with
  | none => rw [List.getLast?_eq_none_iff.1 hl]; simp
  | some r =>
    have h3 := rise_len l h1 r (by rw [hl]; rfl)
    have h4 := h2 r (List.mem_of_getLast? hl)
    omega
theorem areaMay_may {n : Int} {l : List (Int × Int)} (h : areaMay n l = true) : mayB 0 l = true := by
  unfold areaMay at h; simp only [Bool.and_eq_true] at h; exact h.1
theorem polMay_l {a b : List (Int × Int)} (h : polMay a b = true) : areaMay 2048 a = true := by unfold polMay at h; simp only [Bool.and_eq_true] at h; exact h.1
theorem polMay_r {a b : List (Int × Int)} (h : polMay a b = true) : areaMay 8192 b = true := by unfold polMay at h; simp only [Bool.and_eq_true] at h; exact h.2
theorem both_whole {a b : List (Int × Int)} (h1 : mayB 0 a = true) (h2 : mayB 0 b = true) : (a ++ b).all wholeB = true := by
  rw [List.all_append, mayB_wholes a 0 h1, mayB_wholes b 0 h2]; rfl
set_option maxRecDepth 100000 in
set_option maxHeartbeats 4000000 in
theorem join_no (p q p2 q2 : Bool) (sv tv sv2 tv2 : Value) (ra sa rb sb : List (Int × Int)) (w : World) (h1 : Rg w sv ra) (h2 : Rg w tv sa) (h3 : Rg w sv2 rb) (h4 : Rg w tv2 sb) (hm : polMay ra sa = false ∨ polMay rb sb = false) :
    Calls Tryz.prog 16 #[polV p q sv tv, polV p2 q2 sv2 tv2] w fun e w' => e = .returned (.tuple #[.agg #[.bool false, .bool false, .slice none 0 0, .slice none 0 0], .int .i64 1]) ∧ Below w.heap.size w w' := by
  have hk : ∀ wr, Below w.heap.size w wr → Calls Tryz.prog 12 #[polV p q sv tv] wr fun e w' => e = .returned (.int .i64 (okE (polMay ra sa))) ∧ Below wr.heap.size wr w' := fun wr hb => pcheck_ct p q sv tv ra sa wr (h1.below hb) (h2.below hb)
  have hk2 : ∀ wr, Below w.heap.size w wr → Calls Tryz.prog 12 #[polV p2 q2 sv2 tv2] wr fun e w' => e = .returned (.int .i64 (okE (polMay rb sb))) ∧ Below wr.heap.size wr w' := fun wr hb => pcheck_ct p2 q2 sv2 tv2 rb sb wr (h3.below hb) (h4.below hb)
  obtain ⟨a1, c1, rfl, _⟩ := h1
  obtain ⟨a2, c2, rfl, _⟩ := h2
  obtain ⟨a3, c3, rfl, _⟩ := h3
  obtain ⟨a4, c4, rfl, _⟩ := h4
  unfold polV at hk hk2 ⊢
  cases hx : polMay ra sa
  · rw [hx, show okE false = 1 from rfl] at hk
    have Hk := Lib.hid hk
    clear hk hk2 hm hx
    go_enter Tryz.func16, Tryz.ntmps16
    go_wp2_with fail
    refine (Hk.out _ (by repeat' (first | exact Below.refl _ _ | (refine Below.setCell ?_ (by first | (simp; done) | (simp; omega) | omega) _) | (refine Below.drew ?_) | (refine Below.drewN ?_ _) | (refine Below.alloc ?_ (by first | (simp; done) | (simp; omega) | omega) _)))).mono ?_
    rintro e w1 ⟨rfl, hB⟩
    obtain ⟨hc1, hf1⟩ := bcell hB
    simp at hc1 hf1
    have hz1 : w.heap.size + 2 < w1.heap.size := by have := hB.size; simp at this; omega
    have HB1 : Hid (Below w.heap.size w w1) := (by repeat' (first | exact Below.refl _ _ | (refine Below.setCell ?_ (by first | (simp; done) | (simp; omega) | omega) _) | (refine Below.drew ?_) | (refine Below.drewN ?_ _) | (refine Below.alloc ?_ (by first | (simp; done) | (simp; omega) | omega) _) | (refine Below.trans ?_ (Below.mono hB (by first | (simp; done) | (simp; omega) | omega)))))
    clear hB
    go_wp2
    exact bodyPost_ret (v := .tuple #[.agg #[.bool false, .bool false, .slice none 0 0, .slice none 0 0], .int .i64 1]) (by simp [results, Tryz.results16, go_sem, hc1]) rfl ⟨rfl, (by repeat' (first | exact Below.refl _ _ | (refine Below.setCell ?_ (by first | (simp; done) | (simp; omega) | omega) _) | (refine Below.drew ?_) | (refine Below.drewN ?_ _) | (refine Below.alloc ?_ (by first | (simp; done) | (simp; omega) | omega) _) | (refine Below.trans ?_ (Below.mono HB1.out (by first | (simp; done) | (simp; omega) | omega)))))⟩
  · rw [hx] at hm
    have hy : polMay rb sb = false := hm.resolve_left (by simp)
    rw [hx, show okE true = 0 from rfl] at hk
    rw [hy, show okE false = 1 from rfl] at hk2
    have Hk := Lib.hid hk
    have Hk2 := Lib.hid hk2
    clear hk hk2 hm hx hy
    go_enter Tryz.func16, Tryz.ntmps16
    go_wp2_with fail
    refine (Hk.out _ (by repeat' (first | exact Below.refl _ _ | (refine Below.setCell ?_ (by first | (simp; done) | (simp; omega) | omega) _) | (refine Below.drew ?_) | (refine Below.drewN ?_ _) | (refine Below.alloc ?_ (by first | (simp; done) | (simp; omega) | omega) _)))).mono ?_
    rintro e w1 ⟨rfl, hB⟩
    obtain ⟨hc0, hf0⟩ := bcell hB
    simp at hc0 hf0
    have HB0 : Hid (Below w.heap.size w w1) := (by repeat' (first | exact Below.refl _ _ | (refine Below.setCell ?_ (by first | (simp; done) | (simp; omega) | omega) _) | (refine Below.drew ?_) | (refine Below.drewN ?_ _) | (refine Below.alloc ?_ (by first | (simp; done) | (simp; omega) | omega) _) | (refine Below.trans ?_ (Below.mono hB (by first | (simp; done) | (simp; omega) | omega)))))
    go_wp2_with fail
    refine (Hk2.out _ HB0.out).mono ?_
    rintro e w2 ⟨rfl, hB2⟩
    have hB3 := hB.next hB2
    clear hc0 hf0
    obtain ⟨hc1, hf1⟩ := bcell hB3
    simp at hc1 hf1
    have hz1 : w.heap.size + 2 < w2.heap.size := by have := hB3.size; simp at this; omega
    have HB1 : Hid (Below w.heap.size w w2) := (by repeat' (first | exact Below.refl _ _ | (refine Below.setCell ?_ (by first | (simp; done) | (simp; omega) | omega) _) | (refine Below.drew ?_) | (refine Below.drewN ?_ _) | (refine Below.alloc ?_ (by first | (simp; done) | (simp; omega) | omega) _) | (refine Below.trans ?_ (Below.mono hB3 (by first | (simp; done) | (simp; omega) | omega)))))
    clear hB hB2 hB3
    go_wp2
    exact bodyPost_ret (v := .tuple #[.agg #[.bool false, .bool false, .slice none 0 0, .slice none 0 0], .int .i64 1]) (by simp [results, Tryz.results16, go_sem, hc1]) rfl ⟨rfl, (by repeat' (first | exact Below.refl _ _ | (refine Below.setCell ?_ (by first | (simp; done) | (simp; omega) | omega) _) | (refine Below.drew ?_) | (refine Below.drewN ?_ _) | (refine Below.alloc ?_ (by first | (simp; done) | (simp; omega) | omega) _) | (refine Below.trans ?_ (Below.mono HB1.out (by first | (simp; done) | (simp; omega) | omega)))))⟩
def JoinYes (P Q : Bool) (ra rb sa sb : List (Int × Int)) (w : World) (e : Ending) (w' : World) : Prop :=
  ∃ sv tv T U, e = .returned (.tuple #[polV P Q sv tv, .int .i64 0]) ∧ Rg w' sv T ∧ Rg w' tv U ∧ Tidied (ra ++ rb) T ∧ Tidied (sa ++ sb) U ∧ Below w.heap.size w w'
def JR (W : World) (m : Nat) (P Q : Bool) (i : Value) (wr : World) : Prop :=
  (i = .int .i64 0 ∧ wr.heap[m]? = some (.cells #[.bool false, .bool false, .slice none 0 0, .slice none 0 0] 25 (0, 0)) ∧ Below m W wr) ∨
  (i = .int .i64 1 ∧ wr.heap[m]? = some (.cells #[.bool P, .bool false, .slice none 0 0, .slice none 0 0] 25 (0, 0)) ∧ Below m W wr) ∨
  (i = .int .i64 2 ∧ wr.heap[m]? = some (.cells #[.bool P, .bool Q, .slice none 0 0, .slice none 0 0] 25 (0, 0)) ∧ Below m W wr)
set_option maxRecDepth 100000 in
set_option maxHeartbeats 1500000 in
theorem join_yes (p q p2 q2 : Bool) (sv tv sv2 tv2 : Value) (ra sa rb sb : List (Int × Int)) (w : World) (h1 : Rg w sv ra) (h2 : Rg w tv sa) (h3 : Rg w sv2 rb) (h4 : Rg w tv2 sb) (hm1 : polMay ra sa = true) (hm2 : polMay rb sb = true) :
    Calls Tryz.prog 16 #[polV p q sv tv, polV p2 q2 sv2 tv2] w (JoinYes (p || p2) (q || q2) ra rb sa sb w) := by
  have hk : ∀ wr, Below w.heap.size w wr → Calls Tryz.prog 12 #[polV p q sv tv] wr fun e w' => e = .returned (.int .i64 (okE (polMay ra sa))) ∧ Below wr.heap.size wr w' := fun wr hb => pcheck_ct p q sv tv ra sa wr (h1.below hb) (h2.below hb)
  have hk2 : ∀ wr, Below w.heap.size w wr → Calls Tryz.prog 12 #[polV p2 q2 sv2 tv2] wr fun e w' => e = .returned (.int .i64 (okE (polMay rb sb))) ∧ Below wr.heap.size wr w' := fun wr hb => pcheck_ct p2 q2 sv2 tv2 rb sb wr (h3.below hb) (h4.below hb)
  rw [hm1, show okE true = 0 from rfl] at hk
  rw [hm2, show okE true = 0 from rfl] at hk2
  have L1 := may_len ra (areaMay_may (polMay_l hm1))
  have L2 := may_len sa (areaMay_may (polMay_r hm1))
  have L3 := may_len rb (areaMay_may (polMay_l hm2))
  have L4 := may_len sb (areaMay_may (polMay_r hm2))
  have W1 := Lib.hid (both_whole (areaMay_may (polMay_l hm1)) (areaMay_may (polMay_l hm2)))
  have W2 := Lib.hid (both_whole (areaMay_may (polMay_r hm1)) (areaMay_may (polMay_r hm2)))
  have K1 : Hid (∀ wr, Below w.heap.size w wr → Rg wr sv ra) := fun wr h => h1.below h
  have K2 : Hid (∀ wr, Below w.heap.size w wr → Rg wr tv sa) := fun wr h => h2.below h
  have K3 : Hid (∀ wr, Below w.heap.size w wr → Rg wr sv2 rb) := fun wr h => h3.below h
  have K4 : Hid (∀ wr, Below w.heap.size w wr → Rg wr tv2 sb) := fun wr h => h4.below h
  obtain ⟨a1, c1, rfl, _⟩ := h1
  obtain ⟨a2, c2, rfl, _⟩ := h2
  obtain ⟨a3, c3, rfl, _⟩ := h3
  obtain ⟨a4, c4, rfl, _⟩ := h4
  unfold polV at hk hk2 ⊢
  have Hk := Lib.hid hk
  have Hk2 := Lib.hid hk2
  clear hk hk2 hm1 hm2
  go_enter Tryz.func16, Tryz.ntmps16
  go_wp2_with fail
  refine (Hk.out _ (by repeat' (first | exact Below.refl _ _ | (refine Below.setCell ?_ (by first | (simp; done) | (simp; omega) | omega) _) | (refine Below.drew ?_) | (refine Below.drewN ?_ _) | (refine Below.alloc ?_ (by first | (simp; done) | (simp; omega) | omega) _)))).mono ?_
  rintro e w1 ⟨rfl, hB⟩
  obtain ⟨hc0, hf0⟩ := bcell hB
  simp at hc0 hf0
  have HB0 : Hid (Below w.heap.size w w1) := (by repeat' (first | exact Below.refl _ _ | (refine Below.setCell ?_ (by first | (simp; done) | (simp; omega) | omega) _) | (refine Below.drew ?_) | (refine Below.drewN ?_ _) | (refine Below.alloc ?_ (by first | (simp; done) | (simp; omega) | omega) _) | (refine Below.trans ?_ (Below.mono hB (by first | (simp; done) | (simp; omega) | omega)))))
  go_wp2_with fail
  refine (Hk2.out _ HB0.out).mono ?_
  rintro e w2 ⟨rfl, hB2⟩
  have hB3 := hB.next hB2
  clear hc0 hf0
  have hz1 : w.heap.size + 3 ≤ w2.heap.size := by have := hB3.size; simp at this; omega
  have hb0 : w2.heap[w.heap.size]? = some (.cells #[.bool p, .bool q, .slice a1 ra.length c1, .slice a2 sa.length c2] 25 (0, 0)) := by
    rw [hB3.block _ (by simp; omega), Lib.alloc_old _ _ _ (by simp; omega), Lib.alloc_old _ _ _ (by simp)]; exact World.alloc_heap_new w _
  have hb1 : w2.heap[w.heap.size + 1]? = some (.cells #[.bool p2, .bool q2, .slice a3 rb.length c3, .slice a4 sb.length c4] 25 (0, 0)) := by
    rw [hB3.block _ (by simp), Lib.alloc_old _ _ _ (by simp)]
    have := World.alloc_heap_new (w.alloc (.cells #[.bool p, .bool q, .slice a1 ra.length c1, .slice a2 sa.length c2] 25)) (.cells #[.bool p2, .bool q2, .slice a3 rb.length c3, .slice a4 sb.length c4] 25)
    simpa using this
  have hb2 : w2.heap[w.heap.size + 2]? = some (.cells #[.bool false, .bool false, .slice none 0 0, .slice none 0 0] 25 (0, 0)) := by
    rw [hB3.block _ (by simp)]
    have := World.alloc_heap_new ((w.alloc (.cells #[.bool p, .bool q, .slice a1 ra.length c1, .slice a2 sa.length c2] 25)).alloc (.cells #[.bool p2, .bool q2, .slice a3 rb.length c3, .slice a4 sb.length c4] 25)) (.cells #[.bool false, .bool false, .slice none 0 0, .slice none 0 0] 25)
    simpa using this
  have HB2 : Hid (Below w.heap.size w w2) := (by repeat' (first | exact Below.refl _ _ | (refine Below.setCell ?_ (by first | (simp; done) | (simp; omega) | omega) _) | (refine Below.drew ?_) | (refine Below.drewN ?_ _) | (refine Below.alloc ?_ (by first | (simp; done) | (simp; omega) | omega) _) | (refine Below.trans ?_ (Below.mono hB3 (by first | (simp; done) | (simp; omega) | omega)))))
  clear hB hB2 hB3
  have hc2 := Lib.cell_of_heap hb0
  have hd2 := Lib.cell_of_heap hb1
  have ka : Hid (∀ m wr, m = w2.heap.size → Below m w2 wr → (wr.cell? ⟨w.heap.size, 0, none⟩ = some (.bool p) ∧ wr.cell? ⟨w.heap.size, 1, none⟩ = some (.bool q) ∧ wr.cell? ⟨w.heap.size, 2, none⟩ = some (.slice a1 ra.length c1) ∧ wr.cell? ⟨w.heap.size, 3, none⟩ = some (.slice a2 sa.length c2))) := fun m wr hm h => by
    have hl : w.heap.size < m := by omega
    refine ⟨?_, ?_, ?_, ?_⟩ <;> (rw [h.cell (by exact hl), hc2]; rfl)
  have kb : Hid (∀ m wr, m = w2.heap.size → Below m w2 wr → (wr.cell? ⟨w.heap.size + 1, 0, none⟩ = some (.bool p2) ∧ wr.cell? ⟨w.heap.size + 1, 1, none⟩ = some (.bool q2) ∧ wr.cell? ⟨w.heap.size + 1, 2, none⟩ = some (.slice a3 rb.length c3) ∧ wr.cell? ⟨w.heap.size + 1, 3, none⟩ = some (.slice a4 sb.length c4))) := fun m wr hm h => by
    have hl : w.heap.size + 1 < m := by omega
    refine ⟨?_, ?_, ?_, ?_⟩ <;> (rw [h.cell (by exact hl), hd2]; rfl)
  have kc : Hid (∀ m wr, m = w2.heap.size → Below m w2 wr → wr.heap[w.heap.size + 1 + 1]? = some (.cells #[.bool false, .bool false, .slice none 0 0, .slice none 0 0] 25 (0, 0))) := fun m wr hm h => (h.block _ (by omega)).trans hb2
  have hm0 := World.alloc_heap_new w2 (.cells #[.bool false, .bool false, .slice none 0 0, .slice none 0 0] 25)
  have Hm0 := Lib.hid hm0
  have HBm : Hid (Below w2.heap.size w2 (w2.alloc (.cells #[.bool false, .bool false, .slice none 0 0, .slice none 0 0] 25))) := (by repeat' (first | exact Below.refl _ _ | (refine Below.setCell ?_ (by first | (simp; done) | (simp; omega) | omega) _) | (refine Below.drew ?_) | (refine Below.drewN ?_ _) | (refine Below.alloc ?_ (by first | (simp; done) | (simp; omega) | omega) _)))
  clear hc2 hd2 hb0 hb1 hb2 hm0
  go_wp2
  obtain ⟨m, hm⟩ : ∃ m, m = w2.heap.size := ⟨_, rfl⟩
  rw [← hm] at Hm0 HBm ⊢
  have Hm := Lib.hid hm
  clear hm
  go_loopw [17] (fun i wr => JR w2 m (p || p2) (q || q2) i wr) (fun i _ => 2 - (intOf i).toNat)
  case atStart => exact .inl ⟨rfl, Hm0.out, HBm.out⟩
  case round =>
    clear Hm0 HBm
    rcases hrel with ⟨rfl, hh, hB⟩ | ⟨rfl, hh, hB⟩ | ⟨rfl, hh, hB⟩
    · obtain ⟨x0, x1, x2, x3⟩ := ka.out m wr Hm.out hB
      obtain ⟨y0, y1, y2, y3⟩ := kb.out m wr Hm.out hB
      have z := Lib.cell_of_heap hh
      have z0 : wr.cell? ⟨m, 0, none⟩ = some (.bool false) := by rw [z]; rfl
      have f0 : wr.frozen? ⟨m, 0, none⟩ = false := Lib.frozen_of_heap hh 0
      have hst : ∀ v : Bool, (wr.setCell ⟨m, 0, none⟩ (.bool v)).heap[m]? = some (.cells #[.bool v, .bool false, .slice none 0 0, .slice none 0 0] 25 (0, 0)) := fun v => by simp [World.setCell, Array.getElem?_modify, hh]
      have Hst := Lib.hid hst
      have HBn : Hid (∀ v, Below m w2 (wr.setCell ⟨m, 0, none⟩ v)) := fun v => hB.setCell (p := ⟨m, 0, none⟩) (Nat.le_refl _) v
      clear x2 x3 y2 y3 z hh hst
      cases p
      · go_wp2
        go_roundw
        case rel => exact .inr (.inl ⟨rfl, Hst.out p2, HBn.out _⟩)
        case measure => simp [intOf]
      · go_wp2
        go_roundw
        case rel => exact .inr (.inl ⟨rfl, Hst.out true, HBn.out _⟩)
        case measure => simp [intOf]
    · obtain ⟨x0, x1, x2, x3⟩ := ka.out m wr Hm.out hB
      obtain ⟨y0, y1, y2, y3⟩ := kb.out m wr Hm.out hB
      have z := Lib.cell_of_heap hh
      have z0 : wr.cell? ⟨m, 1, none⟩ = some (.bool false) := by rw [z]; rfl
      have f0 : wr.frozen? ⟨m, 1, none⟩ = false := Lib.frozen_of_heap hh 1
      have hst : ∀ v : Bool, (wr.setCell ⟨m, 1, none⟩ (.bool v)).heap[m]? = some (.cells #[.bool (p || p2), .bool v, .slice none 0 0, .slice none 0 0] 25 (0, 0)) := fun v => by simp [World.setCell, Array.getElem?_modify, hh]
      have Hst := Lib.hid hst
      have HBn : Hid (∀ v, Below m w2 (wr.setCell ⟨m, 1, none⟩ v)) := fun v => hB.setCell (p := ⟨m, 1, none⟩) (Nat.le_refl _) v
      clear x2 x3 y2 y3 z hh hst
      cases q
      · go_wp2
        go_roundw
        case rel => exact .inr (.inr ⟨rfl, Hst.out q2, HBn.out _⟩)
        case measure => simp [intOf]
      · go_wp2
        go_roundw
        case rel => exact .inr (.inr ⟨rfl, Hst.out true, HBn.out _⟩)
        case measure => simp [intOf]
    · obtain ⟨P, hP⟩ : ∃ P, (p || p2) = P := ⟨_, rfl⟩
      obtain ⟨Q, hQ⟩ : ∃ Q, (q || q2) = Q := ⟨_, rfl⟩
      rw [hP, hQ] at hh
      have HP := Lib.hid hP
      have HQ := Lib.hid hQ
      clear hP hQ
      obtain ⟨x0, x1, x2, x3⟩ := ka.out m wr Hm.out hB
      obtain ⟨y0, y1, y2, y3⟩ := kb.out m wr Hm.out hB
      have hmw : w.heap.size + 3 ≤ m := by rw [Hm.out]; exact hz1
      have hml : m < wr.heap.size := (Array.getElem?_eq_some_iff.1 hh).1
      have hbw : Below w.heap.size w wr := HB2.out.trans (hB.mono (by omega))
      have cc := concat_ct wr.heap.size (.slice a1 ra.length c1) (.slice a3 rb.length c3) ra rb (wr.alloc (.cells #[.slice a1 ra.length c1, .slice a3 rb.length c3] 23)) (World.alloc_heap_new wr _) (K1.out _ (by repeat' (first | exact Below.refl _ _ | (refine Below.setCell ?_ (by first | (simp; done) | (simp; omega) | omega) _) | (refine Below.drew ?_) | (refine Below.drewN ?_ _) | (refine Below.alloc ?_ (by first | (simp; done) | (simp; omega) | omega) _) | (refine Below.trans ?_ (Below.mono hbw (by first | (simp; done) | (simp; omega) | omega)))))) (K3.out _ (by repeat' (first | exact Below.refl _ _ | (refine Below.setCell ?_ (by first | (simp; done) | (simp; omega) | omega) _) | (refine Below.drew ?_) | (refine Below.drewN ?_ _) | (refine Below.alloc ?_ (by first | (simp; done) | (simp; omega) | omega) _) | (refine Below.trans ?_ (Below.mono hbw (by first | (simp; done) | (simp; omega) | omega)))))) L1 L3
      have Hcc := Lib.hid cc
      have Hh := Lib.hid hh
      have HB := Lib.hid hB
      have Hbw := Lib.hid hbw
      clear cc hh hB hbw x3 y3 x0 x1 y0 y1
      go_wp2_with fail
      refine Hcc.out.mono ?_
      rintro e w3 ⟨v3, rfl, hv3, hB3⟩
      have hb3 : Below wr.heap.size wr w3 := (by repeat' (first | exact Below.refl _ _ | (refine Below.setCell ?_ (by first | (simp; done) | (simp; omega) | omega) _) | (refine Below.drew ?_) | (refine Below.drewN ?_ _) | (refine Below.alloc ?_ (by first | (simp; done) | (simp; omega) | omega) _) | (refine Below.trans ?_ (Below.mono hB3 (by first | (simp; done) | (simp; omega) | omega)))))
      have Hb3 := Lib.hid hb3
      have Hv3 := Lib.hid (tidy_yes v3 _ w3 hv3 W1.out (by rw [List.length_append]; omega))
      obtain ⟨a5, c5, rfl, _⟩ := hv3
      obtain ⟨n5, hn5⟩ : ∃ n, (ra ++ rb).length = n := ⟨_, rfl⟩
      rw [hn5] at Hv3 ⊢
      clear hn5
      clear hB3 hb3 Hcc
      go_wp2_with fail
      ((with_reducible refine Hv3.out.mono ?_))
      rintro e w4 ⟨x5, T1, rfl, hx5, hT1, hB4⟩
      have hb4 := Hb3.out.next hB4
      have h4 := (hb4.block m hml).trans Hh.out
      have HT1 := Lib.hid hT1
      have Hx5 := Lib.hid hx5
      obtain ⟨b1, k1, rfl, _⟩ := hx5
      obtain ⟨m1, hm1⟩ : ∃ m, T1.length = m := ⟨_, rfl⟩
      rw [hm1] at Hx5 ⊢
      clear hm1 hT1 hB4 Hv3
      have hBm4 : Below m w2 w4 := HB.out.trans (hb4.mono (by omega))
      have t2 : w4.cell? ⟨m, 2, none⟩ = some (.slice none 0 0) := by rw [Lib.cell_of_heap h4]; rfl
      have f2 : w4.frozen? ⟨m, 2, none⟩ = false := Lib.frozen_of_heap h4 2
      have hml4 : m < w4.heap.size := (Array.getElem?_eq_some_iff.1 h4).1
      obtain ⟨wq, hwq⟩ : ∃ wq, wq = w4.setCell ⟨m, 2, none⟩ (.slice b1 m1 k1) := ⟨_, rfl⟩
      have hq : wq.heap[m]? = some (.cells #[.bool P, .bool Q, .slice b1 m1 k1, .slice none 0 0] 25 (0, 0)) := by rw [hwq]; simp [World.setCell, Array.getElem?_modify, h4]
      have hxq : Rg wq (.slice b1 m1 k1) T1 := by rw [hwq]; exact rg_setCell Hx5.out (noInt_pol h4) 2 _
      have hBq : Below m w2 wq := by rw [hwq]; exact hBm4.setCell (p := ⟨m, 2, none⟩) (Nat.le_refl _) _
      have hbq : Below w.heap.size w wq := HB2.out.trans (hBq.mono (by omega))
      obtain ⟨u0, u1, u2, u3⟩ := ka.out m wq Hm.out hBq
      obtain ⟨s0, s1, s2, s3⟩ := kb.out m wq Hm.out hBq
      have hmlq : m < wq.heap.size := (Array.getElem?_eq_some_iff.1 hq).1
      have hS := World.alloc_heap_new wq (.cells #[.slice a2 sa.length c2, .slice a4 sb.length c4] 23)
      rw [show wq.heap.size = w4.heap.size by rw [hwq]; simp] at hS
      have cc := concat_ct w4.heap.size (.slice a2 sa.length c2) (.slice a4 sb.length c4) sa sb (wq.alloc (.cells #[.slice a2 sa.length c2, .slice a4 sb.length c4] 23)) hS (K2.out _ (by repeat' (first | exact Below.refl _ _ | (refine Below.setCell ?_ (by first | (simp; done) | (simp; omega) | omega) _) | (refine Below.drew ?_) | (refine Below.drewN ?_ _) | (refine Below.alloc ?_ (by first | (simp; done) | (simp; omega) | omega) _) | (refine Below.trans ?_ (Below.mono hbq (by first | (simp; done) | (simp; omega) | omega)))))) (K4.out _ (by repeat' (first | exact Below.refl _ _ | (refine Below.setCell ?_ (by first | (simp; done) | (simp; omega) | omega) _) | (refine Below.drew ?_) | (refine Below.drewN ?_ _) | (refine Below.alloc ?_ (by first | (simp; done) | (simp; omega) | omega) _) | (refine Below.trans ?_ (Below.mono hbq (by first | (simp; done) | (simp; omega) | omega)))))) L2 L4
      have Hcc := Lib.hid cc
      have Hq := Lib.hid hq
      have Hxq := Lib.hid hxq
      have HBq := Lib.hid hBq
      clear hS cc hq hxq hBq hbq u0 u1 u2 s0 s1 s2 h4 hb4 Hx5 hBm4 Hb3 Hh HB Hbw x2 y2
      subst hwq
      go_wp2_with fail
      ((with_reducible refine Hcc.out.mono ?_))
      rintro e w5 ⟨v5, rfl, hv5, hB5⟩
      generalize w4.setCell ⟨m, 2, none⟩ (.slice b1 m1 k1) = wq at *
      have hb5 : Below wq.heap.size wq w5 := (by repeat' (first | exact Below.refl _ _ | (refine Below.setCell ?_ (by first | (simp; done) | (simp; omega) | omega) _) | (refine Below.drew ?_) | (refine Below.drewN ?_ _) | (refine Below.alloc ?_ (by first | (simp; done) | (simp; omega) | omega) _) | (refine Below.trans ?_ (Below.mono hB5 (by first | (simp; done) | (simp; omega) | omega)))))
      have Hb5 := Lib.hid hb5
      have Hv5 := Lib.hid (tidy_yes v5 _ w5 hv5 W2.out (by rw [List.length_append]; omega))
      obtain ⟨a6, c6, rfl, _⟩ := hv5
      obtain ⟨n6, hn6⟩ : ∃ n, (sa ++ sb).length = n := ⟨_, rfl⟩
      rw [hn6] at Hv5 ⊢
      clear hn6
      clear hB5 hb5 Hcc
      go_wp2_with fail
      ((with_reducible refine Hv5.out.mono ?_))
      rintro e w6 ⟨x6, T2, rfl, hx6, hT2, hB6⟩
      have hb6 := Hb5.out.next hB6
      have h6 := (hb6.block m hmlq).trans Hq.out
      have hy1 := Hxq.out.below hb6
      have hBm6 : Below m w2 w6 := HBq.out.trans (hb6.mono (by omega))
      have HT2 := Lib.hid hT2
      have Hx6 := Lib.hid hx6
      obtain ⟨b2, k2, rfl, _⟩ := hx6
      obtain ⟨m2, hm2⟩ : ∃ m, T2.length = m := ⟨_, rfl⟩
      rw [hm2] at Hx6 ⊢
      clear hm2 hT2 hB6 Hv5
      have hR6 := kc.out m w6 Hm.out hBm6
      have t0 : w6.cell? ⟨m, 0, none⟩ = some (.bool P) := by rw [Lib.cell_of_heap h6]; rfl
      have t1 : w6.cell? ⟨m, 1, none⟩ = some (.bool Q) := by rw [Lib.cell_of_heap h6]; rfl
      have t2' : w6.cell? ⟨m, 2, none⟩ = some (.slice b1 m1 k1) := by rw [Lib.cell_of_heap h6]; rfl
      have t3 : w6.cell? ⟨m, 3, none⟩ = some (.slice none 0 0) := by rw [Lib.cell_of_heap h6]; rfl
      have f3 : ∀ j, w6.frozen? ⟨m, j, none⟩ = false := fun j => Lib.frozen_of_heap h6 j
      obtain ⟨R, hR⟩ : ∃ R, R = w.heap.size + 1 + 1 := ⟨_, rfl⟩
      rw [← hR] at hR6 ⊢
      have hRm : R < m := by omega
      have hwR : w.heap.size ≤ R := by omega
      have RT : R ≠ m := by omega
      have TR : ¬ m = R := by omega
      clear hR
      have r0 : w6.cell? ⟨R, 0, none⟩ = some (.bool false) := by rw [Lib.cell_of_heap hR6]; rfl
      have r1 : w6.cell? ⟨R, 1, none⟩ = some (.bool false) := by rw [Lib.cell_of_heap hR6]; rfl
      have r2 : w6.cell? ⟨R, 2, none⟩ = some (.slice none 0 0) := by rw [Lib.cell_of_heap hR6]; rfl
      have r3 : w6.cell? ⟨R, 3, none⟩ = some (.slice none 0 0) := by rw [Lib.cell_of_heap hR6]; rfl
      have fr : ∀ j, w6.frozen? ⟨R, j, none⟩ = false := fun j => Lib.frozen_of_heap hR6 j
      have hr4 := (heap_setCell_ne w6 m R 3 (.slice b2 m2 k2) RT).trans hR6
      have Hy1 := Lib.hid (rg_copy (rg_setCell hy1 (noInt_pol h6) 3 (.slice b2 m2 k2)) hr4 P Q b1 b2 m1 m2 k1 k2)
      have Hy2 := Lib.hid (rg_copy (rg_setCell Hx6.out (noInt_pol h6) 3 (.slice b2 m2 k2)) hr4 P Q b1 b2 m1 m2 k1 k2)
      have Hb6 : Hid (Below w.heap.size w w6) := HB2.out.trans (hBm6.mono (by omega))
      clear h6 hR6 hy1 hBm6 hb6 hr4 Hx6
      go_wp2
      refine bodyPost_ret (v := .tuple #[.agg #[.bool P, .bool Q, .slice b1 m1 k1, .slice b2 m2 k2], .int .i64 0]) (by simp [results, Tryz.results16, go_sem, r0, r1, r2, r3]) rfl ⟨_, _, T1, T2, (by rw [HP.out, HQ.out]; rfl), Hy1.out, Hy2.out, HT1.out, HT2.out, ?_⟩
      exact ((((Hb6.out.setCell (p := ⟨m, 3, none⟩) (by show w.heap.size ≤ m; omega) _).setCell (p := ⟨R, 0, none⟩) hwR _).setCell (p := ⟨R, 1, none⟩) hwR _).setCell (p := ⟨R, 2, none⟩) hwR _).setCell (p := ⟨R, 3, none⟩) hwR _
end Go.Proofs.YtjiilcnbajcdhaaGreatDoor
