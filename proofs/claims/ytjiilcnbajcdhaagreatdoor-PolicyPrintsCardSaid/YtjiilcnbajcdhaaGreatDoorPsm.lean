/-
  Package policy's Same, and its Covers. Over this seat's translation; no condition.
-/
import Derived.Test.YtjiilcnbajcdhaaGreatDoorJon
import Derived.Test.YtjiilcnbajcdhaaGreatDoorRsm
import Derived.ChangeKeysEq
namespace Go.Proofs.YtjiilcnbajcdhaaGreatDoor
open Go.RowKit

set_option maxHeartbeats 2000000 in
theorem slequal_ct (sv tv : Value) (l m : List (Int × Int)) (w : World) (hr : Rg w sv l) (hs : Rg w tv m) :
    Calls Tryz.prog 34 #[sv, tv] w fun e w' => e = .returned (.bool (eqL l m)) ∧ Below w.heap.size w w' := by
  obtain ⟨sa, cap, rfl, hcap, hn, hr⟩ := hr
  obtain ⟨ta, cap2, rfl, hcap2, hn2, hs⟩ := hs
  unfold maxLen at hn hn2
  by_cases hl : l.length = m.length
  · rcases hr with rfl | ⟨sb, off, rfl, hb, hc⟩
    · obtain rfl : m = [] := List.length_eq_zero_iff.1 hl.symm
      go_enter Tryz.func34, Tryz.ntmps34
      go_wp2
      go_loopw [13] (fun i wr => i = .int .i64 0 ∧ wr = w) (fun i _ => 0)
      case atStart => exact ⟨rfl, rfl⟩
      case round =>
        obtain ⟨rfl, rfl⟩ := hrel
        go_wp2
        go_ret
        exact ⟨rfl, Below.refl _ _⟩
    · rcases hs with rfl | ⟨tb, off2, rfl, hb2, hc2⟩
      · obtain rfl : l = [] := List.length_eq_zero_iff.1 hl
        go_enter Tryz.func34, Tryz.ntmps34
        go_wp2
        go_loopw [13] (fun i wr => i = .int .i64 0 ∧ wr = w) (fun i _ => 0)
        case atStart => exact ⟨rfl, rfl⟩
        case round =>
          obtain ⟨rfl, rfl⟩ := hrel
          go_wp2
          go_ret
          exact ⟨rfl, Below.refl _ _⟩
      · have Hc := Lib.hid hc
        have Hc2 := Lib.hid hc2
        clear hc hc2
        have Hend := Lib.hid (eqL_end l m (0, 0) hl)
        have Hno := Lib.hid (eqL_no l m (0, 0))
        generalize hres : eqL l m = res at *
        clear hres
        have lm : m.length = l.length := hl.symm
        rw [lm] at hcap2
        simp only [lm]
        clear lm
        have Hl := Lib.hid hl
        clear hl
        go_enter Tryz.func34, Tryz.ntmps34
        go_wp2
        go_loopw [13] (fun i wr => ∃ (k : Nat), k ≤ l.length ∧ i = .int .i64 k ∧ Hid (∀ j, j < k → l.getD j (0, 0) = m.getD j (0, 0)) ∧ Below w.heap.size w wr) (fun i _ => l.length - (intOf i).toNat)
        case atStart => exact ⟨0, Nat.zero_le _, rfl, fun j hj => absurd hj (by omega), Below.refl _ _⟩
        case round =>
          obtain ⟨k, hk, rfl, he, hB⟩ := hrel
          by_cases hlt : k < l.length
          · obtain ⟨h1, h2⟩ := Hc.out k hlt
            obtain ⟨g1, g2⟩ := Hc2.out k (by rw [← Hl.out]; exact hlt)
            rw [← hB.cell hb] at h1 h2
            rw [← hB.cell hb2] at g1 g2
            obtain ⟨a, b, hab⟩ : ∃ a b, nthR l k = (a, b) := ⟨_, _, rfl⟩
            obtain ⟨c, d, hcd⟩ : ∃ a b, nthR m k = (a, b) := ⟨_, _, rfl⟩
            rw [hab] at h1 h2
            rw [hcd] at g1 g2
            dsimp only at h1 h2 g1 g2
            by_cases hq : a = c ∧ b = d
            · obtain ⟨rfl, rfl⟩ := hq
              have He : Hid (∀ j, j < k + 1 → l.getD j (0, 0) = m.getD j (0, 0)) := fun j hj => by
                by_cases ej : j = k
                · subst ej; exact hab.trans hcd.symm
                · exact he.out j (by omega)
              clear he hab hcd Hc Hc2
              go_wp2_with fail
              go_quiet (fail)
              go_wp2
              go_roundw
              case rel => exact ⟨k + 1, by omega, by go_num, He, below_drewN hB _⟩
              case measure => simp [intOf]; omega
            · have hres := Hno.out k (by rw [show l.getD k (0, 0) = (a, b) from hab, show m.getD k (0, 0) = (c, d) from hcd]; intro e; exact hq (Prod.mk.injEq .. ▸ e))
              have Hres := Lib.hid hres
              clear he hab hcd Hc Hc2 hres
              have hq' : ∀ w, (binOp .neq 51 (.agg #[.int .i64 a, .int .i64 b]) (.agg #[.int .i64 c, .int .i64 d])).run Tryz.prog w = .ok (.bool true) w := fun w => by
                rw [neq_range, show (a == c && b == d) = false from by simp; intro e f; exact hq ⟨e, f⟩]
                rfl
              clear hq
              go_wp2_with fail
              go_quiet (fail)
              go_wp2
              go_ret
              exact ⟨by rw [Hres.out]; rfl, below_drewN hB _⟩
          · have Hs := Lib.hid (Hend.out fun j hj => he.out j (by omega))
            clear Hc he Hc2
            go_wp2
            go_ret
            exact ⟨by rw [Hs.out]; rfl, hB⟩
  · rw [eqL_len l m hl]
    clear hr hs
    go_enter Tryz.func34, Tryz.ntmps34
    go_wp2
    go_ret
    exact ⟨rfl, (by repeat' (first | exact Below.refl _ _ | (refine Below.setCell ?_ (by first | (simp; done) | (simp; omega) | omega) _) | (refine Below.drew ?_) | (refine Below.drewN ?_ _) | (refine Below.alloc ?_ (by first | (simp; done) | (simp; omega) | omega) _)))⟩
theorem eql_ports (a b c d : Bool) (w : World) : (binOp .eql 22 (.agg #[.bool a, .bool b]) (.agg #[.bool c, .bool d])).run Tryz.prog w = .ok (.bool ((a == c) && (b == d))) w := by
  have u3 := Tryz.underlying4
  have a3 := Tryz.isAgg4
  have z3 := Tryz.sizeOf4
  have hs : (Tryz.prog.info? 4).isSome = true := by kernel_rfl
  obtain ⟨i, hi⟩ := Option.isSome_iff_exists.1 hs
  have hc : Tryz.prog.cellsOf 4 = 1 := by kernel_rfl
  rw [run_eql_struct, show (10000 : Nat) = 9999 + 1 from rfl, run_equalIn_array w 9999 _ _ Tryz.underlying22 hi, hc, show List.range 2 = [0, 1] from rfl]
  simp only [Op.eqItems]
  go_simp
  cases a <;> cases b <;> cases c <;> cases d <;> simp
set_option maxRecDepth 100000 in
set_option maxHeartbeats 2000000 in
theorem ppsame_ct (p q p2 q2 : Bool) (sv tv sv2 tv2 : Value) (ra sa rb sb : List (Int × Int)) (w : World) (h1 : Rg w sv ra) (h2 : Rg w tv sa) (h3 : Rg w sv2 rb) (h4 : Rg w tv2 sb) :
    Calls Tryz.prog 14 #[polV p q sv tv, polV p2 q2 sv2 tv2] w fun e w' => e = .returned (.bool ((p == p2) && ((q == q2) && (eqL ra rb && eqL sa sb)))) ∧ Below w.heap.size w w' := by
  have K1 : Hid (∀ wr, Below w.heap.size w wr → Calls Tryz.prog 34 #[sv, sv2] wr fun e w' => e = .returned (.bool (eqL ra rb)) ∧ Below wr.heap.size wr w') := fun wr h => slequal_ct _ _ _ _ wr (h1.below h) (h3.below h)
  have K2 : Hid (∀ wr, Below w.heap.size w wr → Calls Tryz.prog 34 #[tv, tv2] wr fun e w' => e = .returned (.bool (eqL sa sb)) ∧ Below wr.heap.size wr w') := fun wr h => slequal_ct _ _ _ _ wr (h2.below h) (h4.below h)
  obtain ⟨a1, c1, rfl, _⟩ := h1
  obtain ⟨a2, c2, rfl, _⟩ := h2
  obtain ⟨a3, c3, rfl, _⟩ := h3
  obtain ⟨a4, c4, rfl, _⟩ := h4
  unfold polV
  obtain ⟨x, hx⟩ : ∃ x, (p == p2) = x := ⟨_, rfl⟩
  obtain ⟨y, hy⟩ : ∃ x, (q == q2) = x := ⟨_, rfl⟩
  obtain ⟨z, hz⟩ : ∃ x, eqL ra rb = x := ⟨_, rfl⟩
  obtain ⟨u, hu⟩ : ∃ x, eqL sa sb = x := ⟨_, rfl⟩
  rw [hx, hy, hz, hu]
  rw [hz] at K1
  rw [hu] at K2
  clear hz hu
  have hE : ∀ W : World, (binOp .eql 22 (.agg #[.bool p, .bool q]) (.agg #[.bool p2, .bool q2])).run Tryz.prog W = .ok (.bool (x && y)) W := fun W => by rw [eql_ports, hx, hy]
  clear hx hy
  cases x
  · go_enter Tryz.func14, Tryz.ntmps14
    go_wp2
    go_ret
    exact ⟨rfl, (by repeat' (first | exact Below.refl _ _ | (refine Below.setCell ?_ (by first | (simp; done) | (simp; omega) | omega) _) | (refine Below.drew ?_) | (refine Below.drewN ?_ _) | (refine Below.alloc ?_ (by first | (simp; done) | (simp; omega) | omega) _)))⟩
  · cases y
    · go_enter Tryz.func14, Tryz.ntmps14
      go_wp2
      go_ret
      exact ⟨rfl, (by repeat' (first | exact Below.refl _ _ | (refine Below.setCell ?_ (by first | (simp; done) | (simp; omega) | omega) _) | (refine Below.drew ?_) | (refine Below.drewN ?_ _) | (refine Below.alloc ?_ (by first | (simp; done) | (simp; omega) | omega) _)))⟩
    · cases z
      · go_enter Tryz.func14, Tryz.ntmps14
        go_wp2_with fail
        ((with_reducible refine (K1.out _ (by repeat' (first | exact Below.refl _ _ | (refine Below.setCell ?_ (by first | (simp; done) | (simp; omega) | omega) _) | (refine Below.drew ?_) | (refine Below.drewN ?_ _) | (refine Below.alloc ?_ (by first | (simp; done) | (simp; omega) | omega) _)))).mono ?_))
        rintro e w1 ⟨rfl, hB1⟩
        go_wp2
        go_ret
        exact ⟨rfl, (by repeat' (first | exact Below.refl _ _ | (refine Below.setCell ?_ (by first | (simp; done) | (simp; omega) | omega) _) | (refine Below.drew ?_) | (refine Below.drewN ?_ _) | (refine Below.alloc ?_ (by first | (simp; done) | (simp; omega) | omega) _) | (refine Below.trans ?_ (Below.mono hB1 (by first | (simp; done) | (simp; omega) | omega)))))⟩
      · go_enter Tryz.func14, Tryz.ntmps14
        go_wp2_with fail
        ((with_reducible refine (K1.out _ (by repeat' (first | exact Below.refl _ _ | (refine Below.setCell ?_ (by first | (simp; done) | (simp; omega) | omega) _) | (refine Below.drew ?_) | (refine Below.drewN ?_ _) | (refine Below.alloc ?_ (by first | (simp; done) | (simp; omega) | omega) _)))).mono ?_))
        rintro e w1 ⟨rfl, hB1⟩
        have hb1 : Below w.heap.size w w1 := (by repeat' (first | exact Below.refl _ _ | (refine Below.setCell ?_ (by first | (simp; done) | (simp; omega) | omega) _) | (refine Below.drew ?_) | (refine Below.drewN ?_ _) | (refine Below.alloc ?_ (by first | (simp; done) | (simp; omega) | omega) _) | (refine Below.trans ?_ (Below.mono hB1 (by first | (simp; done) | (simp; omega) | omega)))))
        obtain ⟨hc1, hf1⟩ := bcell hB1
        simp at hc1 hf1
        go_wp2_with fail
        ((with_reducible refine (K2.out _ hb1).mono ?_))
        rintro e w2 ⟨rfl, hB2⟩
        have hb2 := hb1.next hB2
        go_wp2
        go_ret
        exact ⟨rfl, hb2⟩
set_option maxRecDepth 100000 in
set_option maxHeartbeats 2000000 in
theorem covers_no (p q p2 q2 : Bool) (sv tv sv2 tv2 : Value) (ra sa rb sb : List (Int × Int)) (w : World) (h1 : Rg w sv ra) (h2 : Rg w tv sa) (h3 : Rg w sv2 rb) (h4 : Rg w tv2 sb) (hm : polMay ra sa = false ∨ polMay rb sb = false) :
    Calls Tryz.prog 17 #[polV p q sv tv, polV p2 q2 sv2 tv2] w fun e w' => e = .returned (.bool false) ∧ Below w.heap.size w w' := by
  have HJ : Hid (∀ wr, Below w.heap.size w wr → Calls Tryz.prog 16 #[polV p q sv tv, polV p2 q2 sv2 tv2] wr fun e w' => e = .returned (.tuple #[.agg #[.bool false, .bool false, .slice none 0 0, .slice none 0 0], .int .i64 1]) ∧ Below wr.heap.size wr w') := fun wr hb => join_no p q p2 q2 _ _ _ _ _ _ _ _ wr (h1.below hb) (h2.below hb) (h3.below hb) (h4.below hb) hm
  obtain ⟨a1, c1, rfl, _⟩ := h1
  obtain ⟨a2, c2, rfl, _⟩ := h2
  obtain ⟨a3, c3, rfl, _⟩ := h3
  obtain ⟨a4, c4, rfl, _⟩ := h4
  clear hm
  unfold polV at HJ ⊢
  go_enter Tryz.func17, Tryz.ntmps17
  go_wp2_with fail
  ((with_reducible refine (HJ.out _ (by repeat' (first | exact Below.refl _ _ | (refine Below.setCell ?_ (by first | (simp; done) | (simp; omega) | omega) _) | (refine Below.drew ?_) | (refine Below.drewN ?_ _) | (refine Below.alloc ?_ (by first | (simp; done) | (simp; omega) | omega) _)))).mono ?_))
  rintro e w1 ⟨rfl, hB⟩
  have hb1 : Below w.heap.size w w1 := (by repeat' (first | exact Below.refl _ _ | (refine Below.setCell ?_ (by first | (simp; done) | (simp; omega) | omega) _) | (refine Below.drew ?_) | (refine Below.drewN ?_ _) | (refine Below.alloc ?_ (by first | (simp; done) | (simp; omega) | omega) _) | (refine Below.trans ?_ (Below.mono hB (by first | (simp; done) | (simp; omega) | omega)))))
  have hz1 := hb1.size
  clear hB
  go_wp2
  go_ret
  exact ⟨rfl, (by repeat' (first | exact Below.refl _ _ | (refine Below.setCell ?_ (by first | (simp; done) | (simp; omega) | omega) _) | (refine Below.drew ?_) | (refine Below.drewN ?_ _) | (refine Below.alloc ?_ (by first | (simp; done) | (simp; omega) | omega) _) | (refine Below.trans ?_ (Below.mono hb1 (by first | (simp; done) | (simp; omega) | omega)))))⟩
/-- What Covers hands back. -/
def CovYes (p q p2 q2 : Bool) (ra sa rb sb : List (Int × Int)) (w : World) (e : Ending) (w' : World) : Prop :=
  ∃ T U, Tidied (ra ++ rb) T ∧ Tidied (sa ++ sb) U ∧ e = .returned (.bool (((p || p2) == p) && (((q || q2) == q) && (eqL T ra && eqL U sa)))) ∧ Below w.heap.size w w'
set_option maxRecDepth 100000 in
set_option maxHeartbeats 2000000 in
theorem covers_yes (p q p2 q2 : Bool) (sv tv sv2 tv2 : Value) (ra sa rb sb : List (Int × Int)) (w : World) (h1 : Rg w sv ra) (h2 : Rg w tv sa) (h3 : Rg w sv2 rb) (h4 : Rg w tv2 sb) (m1 : polMay ra sa = true) (m2 : polMay rb sb = true) :
    Calls Tryz.prog 17 #[polV p q sv tv, polV p2 q2 sv2 tv2] w (CovYes p q p2 q2 ra sa rb sb w) := by
  have HJ : Hid (∀ wr, Below w.heap.size w wr → Calls Tryz.prog 16 #[polV p q sv tv, polV p2 q2 sv2 tv2] wr (JoinYes (p || p2) (q || q2) ra rb sa sb wr)) := fun wr hb => join_yes p q p2 q2 _ _ _ _ _ _ _ _ wr (h1.below hb) (h2.below hb) (h3.below hb) (h4.below hb) m1 m2
  have H1 : Hid (∀ wr, Below w.heap.size w wr → Rg wr sv ra) := fun wr hb => h1.below hb
  have H2 : Hid (∀ wr, Below w.heap.size w wr → Rg wr tv sa) := fun wr hb => h2.below hb
  clear m1 m2
  obtain ⟨a1, c1, rfl, _⟩ := h1
  obtain ⟨a2, c2, rfl, _⟩ := h2
  obtain ⟨a3, c3, rfl, _⟩ := h3
  obtain ⟨a4, c4, rfl, _⟩ := h4
  obtain ⟨n1, hn1⟩ : ∃ n, ra.length = n := ⟨_, rfl⟩
  obtain ⟨n2, hn2⟩ : ∃ n, sa.length = n := ⟨_, rfl⟩
  rw [hn1] at HJ H1 ⊢
  rw [hn2] at HJ H2 ⊢
  obtain ⟨P, hP⟩ : ∃ P, (p || p2) = P := ⟨_, rfl⟩
  obtain ⟨Q, hQ⟩ : ∃ Q, (q || q2) = Q := ⟨_, rfl⟩
  unfold CovYes
  rw [hP, hQ] at HJ ⊢
  clear hn1 hn2 hP hQ
  unfold polV at HJ ⊢
  go_enter Tryz.func17, Tryz.ntmps17
  go_wp2_with fail
  ((with_reducible refine (HJ.out _ (by repeat' (first | exact Below.refl _ _ | (refine Below.setCell ?_ (by first | (simp; done) | (simp; omega) | omega) _) | (refine Below.drew ?_) | (refine Below.drewN ?_ _) | (refine Below.alloc ?_ (by first | (simp; done) | (simp; omega) | omega) _)))).mono ?_))
  rintro e w1 ⟨sv', tv', T, U, rfl, hT, hU, tT, tU, hB⟩
  have hb1 : Below w.heap.size w w1 := (by repeat' (first | exact Below.refl _ _ | (refine Below.setCell ?_ (by first | (simp; done) | (simp; omega) | omega) _) | (refine Below.drew ?_) | (refine Below.drewN ?_ _) | (refine Below.alloc ?_ (by first | (simp; done) | (simp; omega) | omega) _) | (refine Below.trans ?_ (Below.mono hB (by first | (simp; done) | (simp; omega) | omega)))))
  obtain ⟨hc1, hf1⟩ := bcell hB
  simp at hc1 hf1
  have HB1 := Lib.hid hb1
  have hz1 : w.heap.size + 1 < w1.heap.size := by have := hB.size; simp at this; omega
  have hz0 : w.heap.size < w1.heap.size := by omega
  have u0 : w1.cell? ⟨w.heap.size, 0, none⟩ = some (.bool p) := by simp [go_sem, hc1]
  have u1 : w1.cell? ⟨w.heap.size, 1, none⟩ = some (.bool q) := by simp [go_sem, hc1]
  have u2 : w1.cell? ⟨w.heap.size, 2, none⟩ = some (.slice a1 n1 c1) := by simp [go_sem, hc1]
  have u3 : w1.cell? ⟨w.heap.size, 3, none⟩ = some (.slice a2 n2 c2) := by simp [go_sem, hc1]
  have hS := fun o => ppsame_ct P Q p q sv' tv' _ _ T U ra sa (w1.alloc o) (hT.below (by repeat' (first | exact Below.refl _ _ | (refine Below.setCell ?_ (by first | (simp; done) | (simp; omega) | omega) _) | (refine Below.drew ?_) | (refine Below.drewN ?_ _) | (refine Below.alloc ?_ (by first | (simp; done) | (simp; omega) | omega) _)))) (hU.below (by repeat' (first | exact Below.refl _ _ | (refine Below.setCell ?_ (by first | (simp; done) | (simp; omega) | omega) _) | (refine Below.drew ?_) | (refine Below.drewN ?_ _) | (refine Below.alloc ?_ (by first | (simp; done) | (simp; omega) | omega) _)))) (H1.out _ (hb1.next (by repeat' (first | exact Below.refl _ _ | (refine Below.setCell ?_ (by first | (simp; done) | (simp; omega) | omega) _) | (refine Below.drew ?_) | (refine Below.drewN ?_ _) | (refine Below.alloc ?_ (by first | (simp; done) | (simp; omega) | omega) _))))) (H2.out _ (hb1.next (by repeat' (first | exact Below.refl _ _ | (refine Below.setCell ?_ (by first | (simp; done) | (simp; omega) | omega) _) | (refine Below.drew ?_) | (refine Below.drewN ?_ _) | (refine Below.alloc ?_ (by first | (simp; done) | (simp; omega) | omega) _)))))
  have tT' := Lib.hid tT
  have tU' := Lib.hid tU
  obtain ⟨a5, c5, rfl, _⟩ := hT
  obtain ⟨a6, c6, rfl, _⟩ := hU
  obtain ⟨n5, hn5⟩ : ∃ n, T.length = n := ⟨_, rfl⟩
  obtain ⟨n6, hn6⟩ : ∃ n, U.length = n := ⟨_, rfl⟩
  rw [hn5, hn6] at hS ⊢
  have HS := Lib.hid hS
  clear hS hB tT tU hn5 hn6 hb1 hc1 hf1
  unfold polV at HS ⊢
  go_wp2_with fail
  ((with_reducible refine (HS.out _).mono ?_))
  rintro e w2 ⟨rfl, hB2⟩
  go_wp2
  go_ret
  exact ⟨T, U, tT'.out, tU'.out, rfl, (HB1.out.alloc (by omega) _).trans (hB2.mono (by simp; omega))⟩
end Go.Proofs.YtjiilcnbajcdhaaGreatDoor
