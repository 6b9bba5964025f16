/-
  The walk of TileTwo. Over this seat's translation; no condition. (Written by gen_ti.py.)
-/
import Derived.Test.YtbgclhhhfldphabTis
namespace Go.Proofs.Ytbgclhhhfldphab
open Go.RowKit Go.Sort
set_option linter.unusedSimpArgs false
set_option linter.unusedVariables false
set_option maxRecDepth 20000

attribute [local irreducible] wpList
theorem two14 : ∀ (a b p q : Bool), bits .or .u8 (bits .or .u8 (b2i a) (b2i b * 2)) ((b2i p + 2 * b2i q) * 4) = b2i a + 2 * b2i b + 4 * b2i p + 8 * b2i q := by decide +kernel
theorem tint_two3 (v : BitVec 8) : bits .and .u8 (w8 v) 3 = b2i (v.getLsbD 0) + 2 * b2i (v.getLsbD 1) := by
  have h : ∀ v : BitVec 8, bits .and .u8 (w8 v) 3 = b2i (v.getLsbD 0) + 2 * b2i (v.getLsbD 1) := by decide +kernel
  exact h v
def ta0 : Ta := ⟨ti0, 0, false, 0, false, 0, false, 0⟩
theorem alloc_ta (w : World) : (Instr.alloc 28 true (.tuple #[])).run Try.prog w = .ok (.pointer (some ⟨w.heap.size, 0, none⟩)) (w.alloc (.cells (taC ta0) 28)) := by kernel_rfl
def sA (q : Ta) : Bool := q.s || q.ls || q.hs
def vA (q : Ta) (i : Nat) : Int := b2i (q.lo.getLsbD (7 - i)) + 2 * b2i (q.hi.getLsbD (7 - i)) + 4 * b2i (q.tint.getLsbD 0) + 8 * b2i (q.tint.getLsbD 1)
def loadA14 (t : Ti) (q : Ta) : Ti := loadT t q.lo q.hi q.tint (sA q)
theorem two_first (q o : Ta) (k : Nat) (h : k < 8) : dotT (shlT (loadA14 (shlT (loadA14 q.t q) 8) o) k) 0 = vA q k ∧ secT (shlT (loadA14 (shlT (loadA14 q.t q) 8) o) k) 0 = sA q := by
  rw [dot_shl _ _ _ (by omega), sec_shl _ _ _ (by omega)]
  unfold loadA14
  rw [Nat.add_zero, dot_load_old _ _ _ _ _ _ h, sec_load_old _ _ _ _ _ _ h, dot_shl _ _ _ (by omega), sec_shl _ _ _ (by omega), dot_load _ _ _ _ _ _ h, sec_load _ _ _ _ _ _ h]
  exact ⟨rfl, rfl⟩
theorem two_second (q o : Ta) (k : Nat) (h : k < 8) : dotT (shlT (loadA14 (shlT (loadA14 q.t q) 8) o) (8 + k)) 0 = vA o k ∧ secT (shlT (loadA14 (shlT (loadA14 q.t q) 8) o) (8 + k)) 0 = sA o := by
  rw [dot_shl _ _ _ (by omega), sec_shl _ _ _ (by omega)]
  unfold loadA14
  rw [Nat.add_zero, dot_load _ _ _ _ _ _ h, sec_load _ _ _ _ _ _ h]
  exact ⟨rfl, rfl⟩
set_option maxHeartbeats 8000000 in
theorem tileTwo_walk (q o : Ta) (w : World) : Calls Try.prog 3 #[.agg (taC q), .agg (taC o)] w fun e w' => e = .returned (.bool true) ∧ Below w.heap.size w w' := by
  have K1 := fun wr => tload_ct q.t q.lo q.hi q.tint q.s q.ls q.hs wr
  have K2 := fun wr => tload_ct (shlT (loadA14 q.t q) 8) o.lo o.hi o.tint o.s o.ls o.hs wr
  have K4 := fun wr => tshifted_ct (loadA14 q.t q) 8 (by decide) (by decide) wr
  have QW := Lib.hid (fun wr => awake14_ct wr)
  have QS := Lib.hid (fun t wr => tshift_ct t wr)
  have HZ := Lib.hid alloc_ti
  have HA := Lib.hid alloc_ta
  have Q1 := Lib.hid (show ∀ wr : World, Calls Try.prog 5 #[.agg (tiC q.t), .agg #[.int .u8 (w8 q.lo), .bool q.ls], .agg #[.int .u8 (w8 q.hi), .bool q.hs], .int .u8 (w8 q.tint), .bool q.s] wr fun e w' => e = .returned (.agg (tiC (loadA14 q.t q))) ∧ Below wr.heap.size wr w' from K1)
  have Q2 := Lib.hid (show ∀ wr : World, Calls Try.prog 5 #[.agg (tiC (shlT (loadA14 q.t q) 8)), .agg #[.int .u8 (w8 o.lo), .bool o.ls], .agg #[.int .u8 (w8 o.hi), .bool o.hs], .int .u8 (w8 o.tint), .bool o.s] wr fun e w' => e = .returned (.agg (tiC (loadA14 (shlT (loadA14 q.t q) 8) o))) ∧ Below wr.heap.size wr w' from K2)
  have Q4 := Lib.hid (show ∀ wr : World, Calls Try.prog 4 #[.agg (tiC (loadA14 q.t q)), .int .i64 8] wr fun e w' => e = .returned (.agg (tiC (shlT (loadA14 q.t q) 8))) ∧ Below wr.heap.size wr w' from K4)
  clear K1 K2 K4
  obtain ⟨u, hu⟩ : ∃ u, loadA14 (shlT (loadA14 q.t q) 8) o = u := ⟨_, rfl⟩
  have F1 := two_first q o
  have F2 := two_second q o
  rw [hu] at Q2 F1 F2
  have F1 := Lib.hid F1
  have F2 := Lib.hid F2
  have H := Mem.start w
  have M1 : True := trivial
  have M2 : True := trivial
  have M3 : True := trivial
  go_enter Try.func3, Try.ntmps3
  go_wp2_with (first | (clear M1; refine wpList_mboxA rfl _ _ rfl H _ rfl ?_; clear H; intro Rq w1 _ H) | (clear M2; refine wpList_mboxA rfl _ _ rfl H _ rfl ?_; clear H; intro Ro w1 _ H) | (refine gate_load _ _ rfl ?_; refine wpList_mloadA rfl 24 _ rfl _ rfl 0 H (tiC _) rfl (by decide +kernel) (by kernel_rfl) ?_) | (refine gate_load _ _ rfl ?_; refine wpList_mload rfl 24 _ rfl _ _ rfl 1 H _ (tiC _) rfl (by decide +kernel) (by kernel_rfl) (ta_tile _) ?_) | (refine gate_load _ _ rfl ?_; refine wpList_mload rfl 26 _ rfl _ _ rfl 1 H _ #[.int .u8 _, .bool _] rfl (by decide +kernel) (by kernel_rfl) (ta_lo _) ?_) | (refine gate_load _ _ rfl ?_; refine wpList_mload rfl 26 _ rfl _ _ rfl 1 H _ #[.int .u8 _, .bool _] rfl (by decide +kernel) (by kernel_rfl) (ta_hi _) ?_) | (refine gate_load _ _ rfl ?_; refine wpList_mload rfl 26 _ rfl _ _ rfl 2 H _ #[.int .u8 _, .bool _] rfl (by decide +kernel) (by kernel_rfl) (ta_lo _) ?_) | (refine gate_load _ _ rfl ?_; refine wpList_mload rfl 26 _ rfl _ _ rfl 2 H _ #[.int .u8 _, .bool _] rfl (by decide +kernel) (by kernel_rfl) (ta_hi _) ?_) | (refine gate_load _ _ rfl ?_; refine wpList_mload1 rfl 5 _ rfl _ _ rfl 1 H _ (.int .u8 _) rfl rfl (by decide +kernel) ?_) | (refine gate_load _ _ rfl ?_; refine wpList_mload1 rfl 4 _ rfl _ _ rfl 1 H _ (.bool _) rfl rfl (by decide +kernel) ?_) | (go_at_call 5; (first | (with_reducible refine (Q1.out _).mono ?_) | (with_reducible refine (Q2.out _).mono ?_)); rintro e w2 ⟨rfl, hB⟩; replace H := H.next hB; clear hB) | (go_at_call 4; (first | (with_reducible refine (Q4.out _).mono ?_)); rintro e w2 ⟨rfl, hB⟩; replace H := H.next hB; clear hB) | (clear M3; refine wpList_mnew rfl _ rfl H _ HZ.out ?_; clear H; intro Rr w1 _ H) | (refine gate_store _ _ _ rfl ?_; refine wpList_mstoreA rfl 24 _ _ rfl rfl _ rfl 0 H (tiC _) _ rfl rfl (by kernel_rfl) (by kernel_rfl) (by kernel_rfl) ?_; clear H; intro w1 H; simp only [List.set_cons_zero, List.set_cons_succ] at H) | fail)
  clear hu Q1 Q2 Q4
  go_loopw [6] (fun i wr => ∃ k : Nat, k ≤ 16 ∧ i = .int .i64 k ∧ Mem w.heap.size [] w wr [(Rr, tiC (shlT u k)), (Ro, taC o), (Rq, taC q)]) (fun i _ => 16 - (intOf i).toNat)
  case atStart => exact ⟨0, Nat.zero_le _, rfl, by rw [shlT_zero]; exact H⟩
  case round =>
    clear H
    obtain ⟨k, hk, rfl, H⟩ := hrel
    by_cases h8 : k < 8
    · skip
      obtain ⟨i, hi⟩ : ∃ i : Nat, i = k := ⟨k, rfl⟩
      have hi8 : i < 8 := by omega
      obtain ⟨V0, V1⟩ := F1.out i hi8
      subst hi
      have K3 := fun wr => tdoti_ct (shlT u i) 0 (by decide) (by decide) wr
      rw [show ((0 : Int) % 8).toNat = 0 from rfl, V0, V1] at K3
      have HS := Lib.hid (shlT_next u i)
      generalize shlT u i = y at *
      have g7 : decide ((7 : Int) < ((i : Nat) : Int)) = false := by simp <;> omega
      have m1 : ((i : Nat) : Int).tmod 8 = (i : Int) := by rw [Int.tmod_eq_emod_of_nonneg (by omega)]; omega
      have m2 : ((i : Nat) : Int) % 8 = (i : Int) := by omega
      have m3 : (i : Int) % 8 = (i : Int) := by omega
      have hn : (7 - (i : Int)).toNat = 7 - i := by omega
      rcases q with ⟨t1, lo1, ls1, hi1, hs1, tint1, s1, x1⟩
      rcases o with ⟨t2, lo2, ls2, hi2, hs2, tint2, s2, x2⟩
      have B1 := bit8 lo1 (7 - i)
      have B2 := bit8 hi1 (7 - i)
      have E3 := tint_two3 tint1
      unfold vA sA at K3
      dsimp only at K3
      clear V0 V1
      generalize 7 - i = n at *
      have W0 := two14 (lo1.getLsbD n) (hi1.getLsbD n) (tint1.getLsbD 0) (tint1.getLsbD 1)
      generalize lo1.getLsbD n = a at *
      generalize hi1.getLsbD n = b at *
      generalize tint1.getLsbD 0 = p0 at *
      generalize tint1.getLsbD 1 = p1 at *
      have a2 := b2i_lt a
      have b2 := b2i_lt b
      have c2 := b2i_lt p0
      have d2 := b2i_lt p1
      rcases s1 with _ | _ <;> rcases ls1 with _ | _ <;> rcases hs1 with _ | _
      all_goals
        have Q3 := Lib.hid K3
        clear K3
        (try dsimp only [Bool.or_false, Bool.false_or, Bool.or_true, Bool.true_or] at Q3)
        have M3 : True := trivial
        have M4 : True := trivial
        go_wp2_with (first | (clear M3; refine wpList_mnew rfl _ rfl H _ HA.out ?_; clear H; intro Ra w1 _ H) | (refine gate_load _ _ rfl ?_; refine wpList_mloadA rfl 28 _ rfl _ rfl 2 H (taC _) rfl (by decide +kernel) (by kernel_rfl) ?_) | (refine gate_load _ _ rfl ?_; refine wpList_mloadA rfl 28 _ rfl _ rfl 3 H (taC _) rfl (by decide +kernel) (by kernel_rfl) ?_) | (refine gate_store _ _ _ rfl ?_; refine wpList_mstoreA rfl 28 _ _ rfl rfl _ rfl 0 H (taC _) _ rfl rfl (by kernel_rfl) (by kernel_rfl) (by kernel_rfl) ?_; clear H; intro w1 H; simp only [List.set_cons_zero, List.set_cons_succ] at H) | (refine gate_load _ _ rfl ?_; refine wpList_mloadA rfl 24 _ rfl _ rfl 1 H (tiC _) rfl (by decide +kernel) (by kernel_rfl) ?_) | (go_at_call 6; (first | (with_reducible refine (Q3.out _).mono ?_)); rintro e w2 ⟨rfl, hB⟩; replace H := H.next hB; clear hB) | fail)
        (try simp only [Act.put, List.setIfInBounds_toArray, List.set_cons_succ, List.set_cons_zero])
        (refine wp_region_quiet_below (by kernel_rfl) (by kernel_rfl) ?_); (repeat (first | (go_big_quiet_want; refine gate_qload _ _ rfl ?_; refine quiet_mload1 5 _ rfl _ _ rfl 0 H _ (.int .u8 _) rfl rfl (by decide +kernel) ?_; simp only [Act.put, List.setIfInBounds_toArray, List.set_cons_succ, List.set_cons_zero]; go_big_quiet_on) | (go_big_quiet_want; refine gate_qload _ _ rfl ?_; refine quiet_mload1 4 _ rfl _ _ rfl 0 H _ (.bool _) rfl rfl (by decide +kernel) ?_; simp only [Act.put, List.setIfInBounds_toArray, List.set_cons_succ, List.set_cons_zero]; go_big_quiet_on) | go_big_quiet_step ((first | fail | fail)))); (refine wpQuiet_nil ?_); intro _ hw'; obtain ⟨⟨dq, osq⟩, hw''⟩ := hw'; (subst hw''); replace H := H.next (below_regrown _ dq osq); generalize Go.Sort.grow (redrawn _ dq) osq = wq at *
        go_wp2_with (first | (refine gate_load _ _ rfl ?_; refine wpList_mloadA rfl 24 _ rfl _ rfl 1 H (tiC _) rfl (by decide +kernel) (by kernel_rfl) ?_) | (go_at_call 7; (with_reducible refine (QS.out _ _).mono ?_); rintro e w2 ⟨rfl, hB⟩; replace H := H.next hB; clear hB) | (refine gate_store _ _ _ rfl ?_; refine wpList_mstoreA rfl 24 _ _ rfl rfl _ rfl 1 H (tiC _) _ rfl rfl (by kernel_rfl) (by kernel_rfl) (by kernel_rfl) ?_; clear H; intro w1 H; simp only [List.set_cons_zero, List.set_cons_succ] at H) | fail)
        go_roundw
        case rel => exact ⟨i + 1, by omega, by go_num, by rw [← HS.out]; exact H.sub (List.Sublist.cons _ (List.Sublist.refl _))⟩
        case measure => simp [intOf]; omega
    · by_cases h16 : k < 16
      · skip
        obtain ⟨i, hi⟩ : ∃ i : Nat, k = 8 + i := ⟨k - 8, by omega⟩
        have hi8 : i < 8 := by omega
        obtain ⟨V0, V1⟩ := F2.out i hi8
        subst hi
        have K3 := fun wr => tdoti_ct (shlT u (8 + i)) 0 (by decide) (by decide) wr
        rw [show ((0 : Int) % 8).toNat = 0 from rfl, V0, V1] at K3
        have HS := Lib.hid (shlT_next u (8 + i))
        generalize shlT u (8 + i) = y at *
        have g7 : decide ((7 : Int) < ((8 + i : Nat) : Int)) = true := by simp <;> omega
        have m1 : ((8 + i : Nat) : Int).tmod 8 = (i : Int) := by rw [Int.tmod_eq_emod_of_nonneg (by omega)]; omega
        have m2 : ((8 + i : Nat) : Int) % 8 = (i : Int) := by omega
        have m3 : (i : Int) % 8 = (i : Int) := by omega
        have hn : (7 - (i : Int)).toNat = 7 - i := by omega
        rcases q with ⟨t1, lo1, ls1, hi1, hs1, tint1, s1, x1⟩
        rcases o with ⟨t2, lo2, ls2, hi2, hs2, tint2, s2, x2⟩
        have B1 := bit8 lo2 (7 - i)
        have B2 := bit8 hi2 (7 - i)
        have E3 := tint_two3 tint2
        unfold vA sA at K3
        dsimp only at K3
        clear V0 V1
        generalize 7 - i = n at *
        have W0 := two14 (lo2.getLsbD n) (hi2.getLsbD n) (tint2.getLsbD 0) (tint2.getLsbD 1)
        generalize lo2.getLsbD n = a at *
        generalize hi2.getLsbD n = b at *
        generalize tint2.getLsbD 0 = p0 at *
        generalize tint2.getLsbD 1 = p1 at *
        have a2 := b2i_lt a
        have b2 := b2i_lt b
        have c2 := b2i_lt p0
        have d2 := b2i_lt p1
        rcases s2 with _ | _ <;> rcases ls2 with _ | _ <;> rcases hs2 with _ | _
        all_goals
          have Q3 := Lib.hid K3
          clear K3
          (try dsimp only [Bool.or_false, Bool.false_or, Bool.or_true, Bool.true_or] at Q3)
          have M3 : True := trivial
          have M4 : True := trivial
          go_wp2_with (first | (clear M3; refine wpList_mnew rfl _ rfl H _ HA.out ?_; clear H; intro Ra w1 _ H) | (refine gate_load _ _ rfl ?_; refine wpList_mloadA rfl 28 _ rfl _ rfl 2 H (taC _) rfl (by decide +kernel) (by kernel_rfl) ?_) | (refine gate_load _ _ rfl ?_; refine wpList_mloadA rfl 28 _ rfl _ rfl 3 H (taC _) rfl (by decide +kernel) (by kernel_rfl) ?_) | (refine gate_store _ _ _ rfl ?_; refine wpList_mstoreA rfl 28 _ _ rfl rfl _ rfl 0 H (taC _) _ rfl rfl (by kernel_rfl) (by kernel_rfl) (by kernel_rfl) ?_; clear H; intro w1 H; simp only [List.set_cons_zero, List.set_cons_succ] at H) | (refine gate_load _ _ rfl ?_; refine wpList_mloadA rfl 24 _ rfl _ rfl 1 H (tiC _) rfl (by decide +kernel) (by kernel_rfl) ?_) | (go_at_call 6; (first | (with_reducible refine (Q3.out _).mono ?_)); rintro e w2 ⟨rfl, hB⟩; replace H := H.next hB; clear hB) | fail)
          (try simp only [Act.put, List.setIfInBounds_toArray, List.set_cons_succ, List.set_cons_zero])
          (refine wp_region_quiet_below (by kernel_rfl) (by kernel_rfl) ?_); (repeat (first | (go_big_quiet_want; refine gate_qload _ _ rfl ?_; refine quiet_mload1 5 _ rfl _ _ rfl 0 H _ (.int .u8 _) rfl rfl (by decide +kernel) ?_; simp only [Act.put, List.setIfInBounds_toArray, List.set_cons_succ, List.set_cons_zero]; go_big_quiet_on) | (go_big_quiet_want; refine gate_qload _ _ rfl ?_; refine quiet_mload1 4 _ rfl _ _ rfl 0 H _ (.bool _) rfl rfl (by decide +kernel) ?_; simp only [Act.put, List.setIfInBounds_toArray, List.set_cons_succ, List.set_cons_zero]; go_big_quiet_on) | go_big_quiet_step ((first | fail | fail)))); (refine wpQuiet_nil ?_); intro _ hw'; obtain ⟨⟨dq, osq⟩, hw''⟩ := hw'; (subst hw''); replace H := H.next (below_regrown _ dq osq); generalize Go.Sort.grow (redrawn _ dq) osq = wq at *
          go_wp2_with (first | (refine gate_load _ _ rfl ?_; refine wpList_mloadA rfl 24 _ rfl _ rfl 1 H (tiC _) rfl (by decide +kernel) (by kernel_rfl) ?_) | (go_at_call 7; (with_reducible refine (QS.out _ _).mono ?_); rintro e w2 ⟨rfl, hB⟩; replace H := H.next hB; clear hB) | (refine gate_store _ _ _ rfl ?_; refine wpList_mstoreA rfl 24 _ _ rfl rfl _ rfl 1 H (tiC _) _ rfl rfl (by kernel_rfl) (by kernel_rfl) (by kernel_rfl) ?_; clear H; intro w1 H; simp only [List.set_cons_zero, List.set_cons_succ] at H) | fail)
          go_roundw
          case rel => exact ⟨(8 + i) + 1, by omega, by go_num, by rw [← HS.out]; exact H.sub (List.Sublist.cons _ (List.Sublist.refl _))⟩
          case measure => simp [intOf]; omega
      · obtain rfl : k = 16 := by omega
        go_wp2_with (first | (go_at_call 8; (with_reducible refine (QW.out _).mono ?_); rintro e w2 ⟨rfl, hB⟩; replace H := H.next hB; clear hB) | fail)
        go_ret
        exact ⟨rfl, H.toBelow⟩
end Go.Proofs.Ytbgclhhhfldphab
