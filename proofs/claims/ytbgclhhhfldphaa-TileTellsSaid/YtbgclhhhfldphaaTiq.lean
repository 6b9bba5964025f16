/-
  The document's Alike, bit by bit. Over this seat's translation; no condition. (Written by gen_ti.py.)
-/
import Derived.Test.YtbgclhhhfldphaaTir
import Derived.Test.YtbgclhhhfldphaaTis
namespace Go.Proofs.Ytbgclhhhfldphaa
open Go.RowKit Go.Sort
set_option linter.unusedSimpArgs false
set_option linter.unusedVariables false
set_option maxRecDepth 20000

attribute [local irreducible] wpList
theorem alike_no {a b : Ti} {k : Nat} (hk : k < 16) (h : bitsA a b k = false) : alikeT a b = false := by
  cases e : alikeT a b
  · rfl
  · rw [alike_bits] at e
    rw [e k hk] at h
    cases h
theorem bit_kct (n : BitVec 16) (z : Bool) (k : Nat) (hk : k < 16) (h : n.getLsbD k = z) (w : World) : Calls Try.prog 20 #[.int .u16 (w16 n), .int .i64 (k : Int)] w fun e w' => e = .returned (.int .i64 (b2i z)) ∧ Below w.heap.size w w' := by
  have := rbit14_ct n (k : Int) (by omega) (by omega) w
  rw [Int.toNat_natCast, h] at this
  exact this
theorem b2i_ne {a b : Bool} (h : ¬ a = b) : (b2i a != b2i b) = true := by cases a <;> cases b <;> simp_all [b2i]
set_option maxHeartbeats 8000000 in
theorem ralike14_ct (a b : Ti) (w : World) : Calls Try.prog 16 #[.agg (tiC a), .agg (tiC b)] w fun e w' => e = .returned (.bool (alikeT a b)) ∧ Below w.heap.size w w' := by
  obtain ⟨res, hres⟩ : ∃ r, alikeT a b = r := ⟨_, rfl⟩
  rw [hres]
  have HR := Lib.hid hres
  have z0 : (b2i false == 0) = true := rfl
  have z1 : (b2i true == 0) = false := rfl
  have H := Mem.start w
  have M1 : True := trivial
  have M2 : True := trivial
  go_enter Try.func16, Try.ntmps16
  go_wp2_with (first | (clear M1; refine wpList_mboxA rfl _ _ rfl H _ rfl ?_; clear H; intro Ra w1 _ H) | (clear M2; refine wpList_mboxA rfl _ _ rfl H _ rfl ?_; clear H; intro Rb w1 _ H) | fail)
  go_loopw [5] (fun i wr => ∃ k : Nat, k ≤ 16 ∧ i = .int .i64 k ∧ Hid (∀ j, j < k → bitsA a b j = true) ∧ Mem w.heap.size [] w wr [(Rb, tiC b), (Ra, tiC a)]) (fun i _ => 16 - (intOf i).toNat)
  case atStart => exact ⟨0, Nat.zero_le _, rfl, Lib.hid (fun j hj => absurd hj (Nat.not_lt_zero j)), H⟩
  case round =>
    clear H hres
    obtain ⟨k, hk, rfl, HP, H⟩ := hrel
    by_cases hlt : k < 16
    · skip
      obtain ⟨vs1, es1⟩ : ∃ z, a.s.getLsbD k = z := ⟨_, rfl⟩
      have Qs1 := Lib.hid (fun wr => bit_kct a.s vs1 k hlt es1 wr)
      obtain ⟨vs2, es2⟩ : ∃ z, b.s.getLsbD k = z := ⟨_, rfl⟩
      have Qs2 := Lib.hid (fun wr => bit_kct b.s vs2 k hlt es2 wr)
      obtain ⟨vlo1, elo1⟩ : ∃ z, a.lo.getLsbD k = z := ⟨_, rfl⟩
      have Qlo1 := Lib.hid (fun wr => bit_kct a.lo vlo1 k hlt elo1 wr)
      obtain ⟨vlo2, elo2⟩ : ∃ z, b.lo.getLsbD k = z := ⟨_, rfl⟩
      have Qlo2 := Lib.hid (fun wr => bit_kct b.lo vlo2 k hlt elo2 wr)
      obtain ⟨vhi1, ehi1⟩ : ∃ z, a.hi.getLsbD k = z := ⟨_, rfl⟩
      have Qhi1 := Lib.hid (fun wr => bit_kct a.hi vhi1 k hlt ehi1 wr)
      obtain ⟨vhi2, ehi2⟩ : ∃ z, b.hi.getLsbD k = z := ⟨_, rfl⟩
      have Qhi2 := Lib.hid (fun wr => bit_kct b.hi vhi2 k hlt ehi2 wr)
      obtain ⟨vone1, eone1⟩ : ∃ z, a.one.getLsbD k = z := ⟨_, rfl⟩
      have Qone1 := Lib.hid (fun wr => bit_kct a.one vone1 k hlt eone1 wr)
      obtain ⟨vone2, eone2⟩ : ∃ z, b.one.getLsbD k = z := ⟨_, rfl⟩
      have Qone2 := Lib.hid (fun wr => bit_kct b.one vone2 k hlt eone2 wr)
      obtain ⟨vtwo1, etwo1⟩ : ∃ z, a.two.getLsbD k = z := ⟨_, rfl⟩
      have Qtwo1 := Lib.hid (fun wr => bit_kct a.two vtwo1 k hlt etwo1 wr)
      obtain ⟨vtwo2, etwo2⟩ : ∃ z, b.two.getLsbD k = z := ⟨_, rfl⟩
      have Qtwo2 := Lib.hid (fun wr => bit_kct b.two vtwo2 k hlt etwo2 wr)
      have HV : bitsA a b k = ((vs1 == vs2) && (vs1 || ((vlo1 == vlo2) && (vhi1 == vhi2) && (vone1 == vone2) && (vtwo1 == vtwo2)))) := by
        unfold bitsA
        rw [es1, es2, elo1, elo2, ehi1, ehi2, eone1, eone2, etwo1, etwo2]
      clear es1 es2 elo1 elo2 ehi1 ehi2 eone1 eone2 etwo1 etwo2
      by_cases hs : vs1 = vs2
      · subst hs
        rcases vs1 with _ | _
        · skip
          by_cases hlo : vlo1 = vlo2
          · subst hlo
            by_cases hhi : vhi1 = vhi2
            · subst hhi
              by_cases hone : vone1 = vone2
              · subst hone
                by_cases htwo : vtwo1 = vtwo2
                · subst htwo
                  have HB : bitsA a b k = true := by rw [HV]; simp
                  have HB := Lib.hid HB
                  clear HV
                  go_wp2_with fail
                  (try simp only [Act.put, List.setIfInBounds_toArray, List.set_cons_succ, List.set_cons_zero])
                  (refine wp_region_quiet_below (by kernel_rfl) (by kernel_rfl) ?_); (repeat (first | (go_big_quiet_want; refine gate_qload _ _ rfl ?_; refine quiet_mload1 22 _ rfl _ _ rfl 1 H _ (.int .u16 _) rfl rfl (by decide +kernel) ?_; simp only [Act.put, List.setIfInBounds_toArray, List.set_cons_succ, List.set_cons_zero]; go_big_quiet_on) | (go_big_quiet_want; refine gate_qload _ _ rfl ?_; refine quiet_mload1 22 _ rfl _ _ rfl 0 H _ (.int .u16 _) rfl rfl (by decide +kernel) ?_; simp only [Act.put, List.setIfInBounds_toArray, List.set_cons_succ, List.set_cons_zero]; go_big_quiet_on) | go_big_quiet_step ((first | (go_at_call 20; (first | (with_reducible exact Calls.regrown_of (Qs1.out _)) | (with_reducible exact Calls.regrown_of (Qs2.out _)) | (with_reducible exact Calls.regrown_of (Qlo1.out _)) | (with_reducible exact Calls.regrown_of (Qlo2.out _)) | (with_reducible exact Calls.regrown_of (Qhi1.out _)) | (with_reducible exact Calls.regrown_of (Qhi2.out _)) | (with_reducible exact Calls.regrown_of (Qone1.out _)) | (with_reducible exact Calls.regrown_of (Qone2.out _)) | (with_reducible exact Calls.regrown_of (Qtwo1.out _)) | (with_reducible exact Calls.regrown_of (Qtwo2.out _)))) | fail)))); (refine wpQuiet_nil ?_); intro _ hw'; obtain ⟨⟨dq, osq⟩, hw''⟩ := hw'; (subst hw''); replace H := H.next (below_regrown _ dq osq); generalize Go.Sort.grow (redrawn _ dq) osq = wq at *
                  go_wp2_with fail
                  (try simp only [Act.put, List.setIfInBounds_toArray, List.set_cons_succ, List.set_cons_zero])
                  (refine wp_region_quiet_below (by kernel_rfl) (by kernel_rfl) ?_); (repeat (first | (go_big_quiet_want; refine gate_qload _ _ rfl ?_; refine quiet_mload1 22 _ rfl _ _ rfl 1 H _ (.int .u16 _) rfl rfl (by decide +kernel) ?_; simp only [Act.put, List.setIfInBounds_toArray, List.set_cons_succ, List.set_cons_zero]; go_big_quiet_on) | (go_big_quiet_want; refine gate_qload _ _ rfl ?_; refine quiet_mload1 22 _ rfl _ _ rfl 0 H _ (.int .u16 _) rfl rfl (by decide +kernel) ?_; simp only [Act.put, List.setIfInBounds_toArray, List.set_cons_succ, List.set_cons_zero]; go_big_quiet_on) | go_big_quiet_step ((first | (go_at_call 20; (first | (with_reducible exact Calls.regrown_of (Qs1.out _)) | (with_reducible exact Calls.regrown_of (Qs2.out _)) | (with_reducible exact Calls.regrown_of (Qlo1.out _)) | (with_reducible exact Calls.regrown_of (Qlo2.out _)) | (with_reducible exact Calls.regrown_of (Qhi1.out _)) | (with_reducible exact Calls.regrown_of (Qhi2.out _)) | (with_reducible exact Calls.regrown_of (Qone1.out _)) | (with_reducible exact Calls.regrown_of (Qone2.out _)) | (with_reducible exact Calls.regrown_of (Qtwo1.out _)) | (with_reducible exact Calls.regrown_of (Qtwo2.out _)))) | fail)))); (refine wpQuiet_nil ?_); intro _ hw'; obtain ⟨⟨dq, osq⟩, hw''⟩ := hw'; (subst hw''); replace H := H.next (below_regrown _ dq osq); generalize Go.Sort.grow (redrawn _ dq) osq = wq at *
                  go_wp2
                  go_roundw
                  case rel => exact ⟨k + 1, by omega, by go_num, Lib.hid (fun j hj => by
                    by_cases e : j = k
                    · subst e
                      exact HB.out
                    · exact HP.out j (by omega)), H⟩
                  case measure => simp [intOf]; omega
                · have gtwo := b2i_ne htwo
                  have HB : bitsA a b k = false := by rw [HV]; first | rfl | (simp; done) | (simp_all; done)
                  have HB := Lib.hid HB
                  clear HV
                  go_wp2_with fail
                  (try simp only [Act.put, List.setIfInBounds_toArray, List.set_cons_succ, List.set_cons_zero])
                  (refine wp_region_quiet_below (by kernel_rfl) (by kernel_rfl) ?_); (repeat (first | (go_big_quiet_want; refine gate_qload _ _ rfl ?_; refine quiet_mload1 22 _ rfl _ _ rfl 1 H _ (.int .u16 _) rfl rfl (by decide +kernel) ?_; simp only [Act.put, List.setIfInBounds_toArray, List.set_cons_succ, List.set_cons_zero]; go_big_quiet_on) | (go_big_quiet_want; refine gate_qload _ _ rfl ?_; refine quiet_mload1 22 _ rfl _ _ rfl 0 H _ (.int .u16 _) rfl rfl (by decide +kernel) ?_; simp only [Act.put, List.setIfInBounds_toArray, List.set_cons_succ, List.set_cons_zero]; go_big_quiet_on) | go_big_quiet_step ((first | (go_at_call 20; (first | (with_reducible exact Calls.regrown_of (Qs1.out _)) | (with_reducible exact Calls.regrown_of (Qs2.out _)) | (with_reducible exact Calls.regrown_of (Qlo1.out _)) | (with_reducible exact Calls.regrown_of (Qlo2.out _)) | (with_reducible exact Calls.regrown_of (Qhi1.out _)) | (with_reducible exact Calls.regrown_of (Qhi2.out _)) | (with_reducible exact Calls.regrown_of (Qone1.out _)) | (with_reducible exact Calls.regrown_of (Qone2.out _)) | (with_reducible exact Calls.regrown_of (Qtwo1.out _)) | (with_reducible exact Calls.regrown_of (Qtwo2.out _)))) | fail)))); (refine wpQuiet_nil ?_); intro _ hw'; obtain ⟨⟨dq, osq⟩, hw''⟩ := hw'; (subst hw''); replace H := H.next (below_regrown _ dq osq); generalize Go.Sort.grow (redrawn _ dq) osq = wq at *
                  go_wp2_with fail
                  (try simp only [Act.put, List.setIfInBounds_toArray, List.set_cons_succ, List.set_cons_zero])
                  (refine wp_region_quiet_below (by kernel_rfl) (by kernel_rfl) ?_); (repeat (first | (go_big_quiet_want; refine gate_qload _ _ rfl ?_; refine quiet_mload1 22 _ rfl _ _ rfl 1 H _ (.int .u16 _) rfl rfl (by decide +kernel) ?_; simp only [Act.put, List.setIfInBounds_toArray, List.set_cons_succ, List.set_cons_zero]; go_big_quiet_on) | (go_big_quiet_want; refine gate_qload _ _ rfl ?_; refine quiet_mload1 22 _ rfl _ _ rfl 0 H _ (.int .u16 _) rfl rfl (by decide +kernel) ?_; simp only [Act.put, List.setIfInBounds_toArray, List.set_cons_succ, List.set_cons_zero]; go_big_quiet_on) | go_big_quiet_step ((first | (go_at_call 20; (first | (with_reducible exact Calls.regrown_of (Qs1.out _)) | (with_reducible exact Calls.regrown_of (Qs2.out _)) | (with_reducible exact Calls.regrown_of (Qlo1.out _)) | (with_reducible exact Calls.regrown_of (Qlo2.out _)) | (with_reducible exact Calls.regrown_of (Qhi1.out _)) | (with_reducible exact Calls.regrown_of (Qhi2.out _)) | (with_reducible exact Calls.regrown_of (Qone1.out _)) | (with_reducible exact Calls.regrown_of (Qone2.out _)) | (with_reducible exact Calls.regrown_of (Qtwo1.out _)) | (with_reducible exact Calls.regrown_of (Qtwo2.out _)))) | fail)))); (refine wpQuiet_nil ?_); intro _ hw'; obtain ⟨⟨dq, osq⟩, hw''⟩ := hw'; (subst hw''); replace H := H.next (below_regrown _ dq osq); generalize Go.Sort.grow (redrawn _ dq) osq = wq at *
                  go_wp2
                  have hr := alike_no hlt HB.out
                  rw [HR.out] at hr
                  subst hr
                  go_ret
                  exact ⟨rfl, H.toBelow⟩
              · have gone := b2i_ne hone
                have HB : bitsA a b k = false := by rw [HV]; first | rfl | (simp; done) | (simp_all; done)
                have HB := Lib.hid HB
                clear HV
                go_wp2_with fail
                (try simp only [Act.put, List.setIfInBounds_toArray, List.set_cons_succ, List.set_cons_zero])
                (refine wp_region_quiet_below (by kernel_rfl) (by kernel_rfl) ?_); (repeat (first | (go_big_quiet_want; refine gate_qload _ _ rfl ?_; refine quiet_mload1 22 _ rfl _ _ rfl 1 H _ (.int .u16 _) rfl rfl (by decide +kernel) ?_; simp only [Act.put, List.setIfInBounds_toArray, List.set_cons_succ, List.set_cons_zero]; go_big_quiet_on) | (go_big_quiet_want; refine gate_qload _ _ rfl ?_; refine quiet_mload1 22 _ rfl _ _ rfl 0 H _ (.int .u16 _) rfl rfl (by decide +kernel) ?_; simp only [Act.put, List.setIfInBounds_toArray, List.set_cons_succ, List.set_cons_zero]; go_big_quiet_on) | go_big_quiet_step ((first | (go_at_call 20; (first | (with_reducible exact Calls.regrown_of (Qs1.out _)) | (with_reducible exact Calls.regrown_of (Qs2.out _)) | (with_reducible exact Calls.regrown_of (Qlo1.out _)) | (with_reducible exact Calls.regrown_of (Qlo2.out _)) | (with_reducible exact Calls.regrown_of (Qhi1.out _)) | (with_reducible exact Calls.regrown_of (Qhi2.out _)) | (with_reducible exact Calls.regrown_of (Qone1.out _)) | (with_reducible exact Calls.regrown_of (Qone2.out _)) | (with_reducible exact Calls.regrown_of (Qtwo1.out _)) | (with_reducible exact Calls.regrown_of (Qtwo2.out _)))) | fail)))); (refine wpQuiet_nil ?_); intro _ hw'; obtain ⟨⟨dq, osq⟩, hw''⟩ := hw'; (subst hw''); replace H := H.next (below_regrown _ dq osq); generalize Go.Sort.grow (redrawn _ dq) osq = wq at *
                go_wp2_with fail
                (try simp only [Act.put, List.setIfInBounds_toArray, List.set_cons_succ, List.set_cons_zero])
                (refine wp_region_quiet_below (by kernel_rfl) (by kernel_rfl) ?_); (repeat (first | (go_big_quiet_want; refine gate_qload _ _ rfl ?_; refine quiet_mload1 22 _ rfl _ _ rfl 1 H _ (.int .u16 _) rfl rfl (by decide +kernel) ?_; simp only [Act.put, List.setIfInBounds_toArray, List.set_cons_succ, List.set_cons_zero]; go_big_quiet_on) | (go_big_quiet_want; refine gate_qload _ _ rfl ?_; refine quiet_mload1 22 _ rfl _ _ rfl 0 H _ (.int .u16 _) rfl rfl (by decide +kernel) ?_; simp only [Act.put, List.setIfInBounds_toArray, List.set_cons_succ, List.set_cons_zero]; go_big_quiet_on) | go_big_quiet_step ((first | (go_at_call 20; (first | (with_reducible exact Calls.regrown_of (Qs1.out _)) | (with_reducible exact Calls.regrown_of (Qs2.out _)) | (with_reducible exact Calls.regrown_of (Qlo1.out _)) | (with_reducible exact Calls.regrown_of (Qlo2.out _)) | (with_reducible exact Calls.regrown_of (Qhi1.out _)) | (with_reducible exact Calls.regrown_of (Qhi2.out _)) | (with_reducible exact Calls.regrown_of (Qone1.out _)) | (with_reducible exact Calls.regrown_of (Qone2.out _)) | (with_reducible exact Calls.regrown_of (Qtwo1.out _)) | (with_reducible exact Calls.regrown_of (Qtwo2.out _)))) | fail)))); (refine wpQuiet_nil ?_); intro _ hw'; obtain ⟨⟨dq, osq⟩, hw''⟩ := hw'; (subst hw''); replace H := H.next (below_regrown _ dq osq); generalize Go.Sort.grow (redrawn _ dq) osq = wq at *
                go_wp2
                have hr := alike_no hlt HB.out
                rw [HR.out] at hr
                subst hr
                go_ret
                exact ⟨rfl, H.toBelow⟩
            · have ghi := b2i_ne hhi
              have HB : bitsA a b k = false := by rw [HV]; first | rfl | (simp; done) | (simp_all; done)
              have HB := Lib.hid HB
              clear HV
              go_wp2_with fail
              (try simp only [Act.put, List.setIfInBounds_toArray, List.set_cons_succ, List.set_cons_zero])
              (refine wp_region_quiet_below (by kernel_rfl) (by kernel_rfl) ?_); (repeat (first | (go_big_quiet_want; refine gate_qload _ _ rfl ?_; refine quiet_mload1 22 _ rfl _ _ rfl 1 H _ (.int .u16 _) rfl rfl (by decide +kernel) ?_; simp only [Act.put, List.setIfInBounds_toArray, List.set_cons_succ, List.set_cons_zero]; go_big_quiet_on) | (go_big_quiet_want; refine gate_qload _ _ rfl ?_; refine quiet_mload1 22 _ rfl _ _ rfl 0 H _ (.int .u16 _) rfl rfl (by decide +kernel) ?_; simp only [Act.put, List.setIfInBounds_toArray, List.set_cons_succ, List.set_cons_zero]; go_big_quiet_on) | go_big_quiet_step ((first | (go_at_call 20; (first | (with_reducible exact Calls.regrown_of (Qs1.out _)) | (with_reducible exact Calls.regrown_of (Qs2.out _)) | (with_reducible exact Calls.regrown_of (Qlo1.out _)) | (with_reducible exact Calls.regrown_of (Qlo2.out _)) | (with_reducible exact Calls.regrown_of (Qhi1.out _)) | (with_reducible exact Calls.regrown_of (Qhi2.out _)) | (with_reducible exact Calls.regrown_of (Qone1.out _)) | (with_reducible exact Calls.regrown_of (Qone2.out _)) | (with_reducible exact Calls.regrown_of (Qtwo1.out _)) | (with_reducible exact Calls.regrown_of (Qtwo2.out _)))) | fail)))); (refine wpQuiet_nil ?_); intro _ hw'; obtain ⟨⟨dq, osq⟩, hw''⟩ := hw'; (subst hw''); replace H := H.next (below_regrown _ dq osq); generalize Go.Sort.grow (redrawn _ dq) osq = wq at *
              go_wp2_with fail
              (try simp only [Act.put, List.setIfInBounds_toArray, List.set_cons_succ, List.set_cons_zero])
              (refine wp_region_quiet_below (by kernel_rfl) (by kernel_rfl) ?_); (repeat (first | (go_big_quiet_want; refine gate_qload _ _ rfl ?_; refine quiet_mload1 22 _ rfl _ _ rfl 1 H _ (.int .u16 _) rfl rfl (by decide +kernel) ?_; simp only [Act.put, List.setIfInBounds_toArray, List.set_cons_succ, List.set_cons_zero]; go_big_quiet_on) | (go_big_quiet_want; refine gate_qload _ _ rfl ?_; refine quiet_mload1 22 _ rfl _ _ rfl 0 H _ (.int .u16 _) rfl rfl (by decide +kernel) ?_; simp only [Act.put, List.setIfInBounds_toArray, List.set_cons_succ, List.set_cons_zero]; go_big_quiet_on) | go_big_quiet_step ((first | (go_at_call 20; (first | (with_reducible exact Calls.regrown_of (Qs1.out _)) | (with_reducible exact Calls.regrown_of (Qs2.out _)) | (with_reducible exact Calls.regrown_of (Qlo1.out _)) | (with_reducible exact Calls.regrown_of (Qlo2.out _)) | (with_reducible exact Calls.regrown_of (Qhi1.out _)) | (with_reducible exact Calls.regrown_of (Qhi2.out _)) | (with_reducible exact Calls.regrown_of (Qone1.out _)) | (with_reducible exact Calls.regrown_of (Qone2.out _)) | (with_reducible exact Calls.regrown_of (Qtwo1.out _)) | (with_reducible exact Calls.regrown_of (Qtwo2.out _)))) | fail)))); (refine wpQuiet_nil ?_); intro _ hw'; obtain ⟨⟨dq, osq⟩, hw''⟩ := hw'; (subst hw''); replace H := H.next (below_regrown _ dq osq); generalize Go.Sort.grow (redrawn _ dq) osq = wq at *
              go_wp2
              have hr := alike_no hlt HB.out
              rw [HR.out] at hr
              subst hr
              go_ret
              exact ⟨rfl, H.toBelow⟩
          · have glo := b2i_ne hlo
            have HB : bitsA a b k = false := by rw [HV]; first | rfl | (simp; done) | (simp_all; done)
            have HB := Lib.hid HB
            clear HV
            go_wp2_with fail
            (try simp only [Act.put, List.setIfInBounds_toArray, List.set_cons_succ, List.set_cons_zero])
            (refine wp_region_quiet_below (by kernel_rfl) (by kernel_rfl) ?_); (repeat (first | (go_big_quiet_want; refine gate_qload _ _ rfl ?_; refine quiet_mload1 22 _ rfl _ _ rfl 1 H _ (.int .u16 _) rfl rfl (by decide +kernel) ?_; simp only [Act.put, List.setIfInBounds_toArray, List.set_cons_succ, List.set_cons_zero]; go_big_quiet_on) | (go_big_quiet_want; refine gate_qload _ _ rfl ?_; refine quiet_mload1 22 _ rfl _ _ rfl 0 H _ (.int .u16 _) rfl rfl (by decide +kernel) ?_; simp only [Act.put, List.setIfInBounds_toArray, List.set_cons_succ, List.set_cons_zero]; go_big_quiet_on) | go_big_quiet_step ((first | (go_at_call 20; (first | (with_reducible exact Calls.regrown_of (Qs1.out _)) | (with_reducible exact Calls.regrown_of (Qs2.out _)) | (with_reducible exact Calls.regrown_of (Qlo1.out _)) | (with_reducible exact Calls.regrown_of (Qlo2.out _)) | (with_reducible exact Calls.regrown_of (Qhi1.out _)) | (with_reducible exact Calls.regrown_of (Qhi2.out _)) | (with_reducible exact Calls.regrown_of (Qone1.out _)) | (with_reducible exact Calls.regrown_of (Qone2.out _)) | (with_reducible exact Calls.regrown_of (Qtwo1.out _)) | (with_reducible exact Calls.regrown_of (Qtwo2.out _)))) | fail)))); (refine wpQuiet_nil ?_); intro _ hw'; obtain ⟨⟨dq, osq⟩, hw''⟩ := hw'; (subst hw''); replace H := H.next (below_regrown _ dq osq); generalize Go.Sort.grow (redrawn _ dq) osq = wq at *
            go_wp2_with fail
            (try simp only [Act.put, List.setIfInBounds_toArray, List.set_cons_succ, List.set_cons_zero])
            (refine wp_region_quiet_below (by kernel_rfl) (by kernel_rfl) ?_); (repeat (first | (go_big_quiet_want; refine gate_qload _ _ rfl ?_; refine quiet_mload1 22 _ rfl _ _ rfl 1 H _ (.int .u16 _) rfl rfl (by decide +kernel) ?_; simp only [Act.put, List.setIfInBounds_toArray, List.set_cons_succ, List.set_cons_zero]; go_big_quiet_on) | (go_big_quiet_want; refine gate_qload _ _ rfl ?_; refine quiet_mload1 22 _ rfl _ _ rfl 0 H _ (.int .u16 _) rfl rfl (by decide +kernel) ?_; simp only [Act.put, List.setIfInBounds_toArray, List.set_cons_succ, List.set_cons_zero]; go_big_quiet_on) | go_big_quiet_step ((first | (go_at_call 20; (first | (with_reducible exact Calls.regrown_of (Qs1.out _)) | (with_reducible exact Calls.regrown_of (Qs2.out _)) | (with_reducible exact Calls.regrown_of (Qlo1.out _)) | (with_reducible exact Calls.regrown_of (Qlo2.out _)) | (with_reducible exact Calls.regrown_of (Qhi1.out _)) | (with_reducible exact Calls.regrown_of (Qhi2.out _)) | (with_reducible exact Calls.regrown_of (Qone1.out _)) | (with_reducible exact Calls.regrown_of (Qone2.out _)) | (with_reducible exact Calls.regrown_of (Qtwo1.out _)) | (with_reducible exact Calls.regrown_of (Qtwo2.out _)))) | fail)))); (refine wpQuiet_nil ?_); intro _ hw'; obtain ⟨⟨dq, osq⟩, hw''⟩ := hw'; (subst hw''); replace H := H.next (below_regrown _ dq osq); generalize Go.Sort.grow (redrawn _ dq) osq = wq at *
            go_wp2
            have hr := alike_no hlt HB.out
            rw [HR.out] at hr
            subst hr
            go_ret
            exact ⟨rfl, H.toBelow⟩
        · skip
          have HB : bitsA a b k = true := by rw [HV]; simp
          have HB := Lib.hid HB
          clear HV
          go_wp2_with fail
          (try simp only [Act.put, List.setIfInBounds_toArray, List.set_cons_succ, List.set_cons_zero])
          (refine wp_region_quiet_below (by kernel_rfl) (by kernel_rfl) ?_); (repeat (first | (go_big_quiet_want; refine gate_qload _ _ rfl ?_; refine quiet_mload1 22 _ rfl _ _ rfl 1 H _ (.int .u16 _) rfl rfl (by decide +kernel) ?_; simp only [Act.put, List.setIfInBounds_toArray, List.set_cons_succ, List.set_cons_zero]; go_big_quiet_on) | (go_big_quiet_want; refine gate_qload _ _ rfl ?_; refine quiet_mload1 22 _ rfl _ _ rfl 0 H _ (.int .u16 _) rfl rfl (by decide +kernel) ?_; simp only [Act.put, List.setIfInBounds_toArray, List.set_cons_succ, List.set_cons_zero]; go_big_quiet_on) | go_big_quiet_step ((first | (go_at_call 20; (first | (with_reducible exact Calls.regrown_of (Qs1.out _)) | (with_reducible exact Calls.regrown_of (Qs2.out _)) | (with_reducible exact Calls.regrown_of (Qlo1.out _)) | (with_reducible exact Calls.regrown_of (Qlo2.out _)) | (with_reducible exact Calls.regrown_of (Qhi1.out _)) | (with_reducible exact Calls.regrown_of (Qhi2.out _)) | (with_reducible exact Calls.regrown_of (Qone1.out _)) | (with_reducible exact Calls.regrown_of (Qone2.out _)) | (with_reducible exact Calls.regrown_of (Qtwo1.out _)) | (with_reducible exact Calls.regrown_of (Qtwo2.out _)))) | fail)))); (refine wpQuiet_nil ?_); intro _ hw'; obtain ⟨⟨dq, osq⟩, hw''⟩ := hw'; (subst hw''); replace H := H.next (below_regrown _ dq osq); generalize Go.Sort.grow (redrawn _ dq) osq = wq at *
          go_wp2_with fail
          (try simp only [Act.put, List.setIfInBounds_toArray, List.set_cons_succ, List.set_cons_zero])
          (refine wp_region_quiet_below (by kernel_rfl) (by kernel_rfl) ?_); (repeat (first | (go_big_quiet_want; refine gate_qload _ _ rfl ?_; refine quiet_mload1 22 _ rfl _ _ rfl 1 H _ (.int .u16 _) rfl rfl (by decide +kernel) ?_; simp only [Act.put, List.setIfInBounds_toArray, List.set_cons_succ, List.set_cons_zero]; go_big_quiet_on) | (go_big_quiet_want; refine gate_qload _ _ rfl ?_; refine quiet_mload1 22 _ rfl _ _ rfl 0 H _ (.int .u16 _) rfl rfl (by decide +kernel) ?_; simp only [Act.put, List.setIfInBounds_toArray, List.set_cons_succ, List.set_cons_zero]; go_big_quiet_on) | go_big_quiet_step ((first | (go_at_call 20; (first | (with_reducible exact Calls.regrown_of (Qs1.out _)) | (with_reducible exact Calls.regrown_of (Qs2.out _)) | (with_reducible exact Calls.regrown_of (Qlo1.out _)) | (with_reducible exact Calls.regrown_of (Qlo2.out _)) | (with_reducible exact Calls.regrown_of (Qhi1.out _)) | (with_reducible exact Calls.regrown_of (Qhi2.out _)) | (with_reducible exact Calls.regrown_of (Qone1.out _)) | (with_reducible exact Calls.regrown_of (Qone2.out _)) | (with_reducible exact Calls.regrown_of (Qtwo1.out _)) | (with_reducible exact Calls.regrown_of (Qtwo2.out _)))) | fail)))); (refine wpQuiet_nil ?_); intro _ hw'; obtain ⟨⟨dq, osq⟩, hw''⟩ := hw'; (subst hw''); replace H := H.next (below_regrown _ dq osq); generalize Go.Sort.grow (redrawn _ dq) osq = wq at *
          go_wp2
          go_roundw
          case rel => exact ⟨k + 1, by omega, by go_num, Lib.hid (fun j hj => by
            by_cases e : j = k
            · subst e
              exact HB.out
            · exact HP.out j (by omega)), H⟩
          case measure => simp [intOf]; omega
      · have gs := b2i_ne hs
        have HB : bitsA a b k = false := by rw [HV]; first | rfl | (simp; done) | (simp_all; done)
        have HB := Lib.hid HB
        clear HV
        go_wp2_with fail
        (try simp only [Act.put, List.setIfInBounds_toArray, List.set_cons_succ, List.set_cons_zero])
        (refine wp_region_quiet_below (by kernel_rfl) (by kernel_rfl) ?_); (repeat (first | (go_big_quiet_want; refine gate_qload _ _ rfl ?_; refine quiet_mload1 22 _ rfl _ _ rfl 1 H _ (.int .u16 _) rfl rfl (by decide +kernel) ?_; simp only [Act.put, List.setIfInBounds_toArray, List.set_cons_succ, List.set_cons_zero]; go_big_quiet_on) | (go_big_quiet_want; refine gate_qload _ _ rfl ?_; refine quiet_mload1 22 _ rfl _ _ rfl 0 H _ (.int .u16 _) rfl rfl (by decide +kernel) ?_; simp only [Act.put, List.setIfInBounds_toArray, List.set_cons_succ, List.set_cons_zero]; go_big_quiet_on) | go_big_quiet_step ((first | (go_at_call 20; (first | (with_reducible exact Calls.regrown_of (Qs1.out _)) | (with_reducible exact Calls.regrown_of (Qs2.out _)) | (with_reducible exact Calls.regrown_of (Qlo1.out _)) | (with_reducible exact Calls.regrown_of (Qlo2.out _)) | (with_reducible exact Calls.regrown_of (Qhi1.out _)) | (with_reducible exact Calls.regrown_of (Qhi2.out _)) | (with_reducible exact Calls.regrown_of (Qone1.out _)) | (with_reducible exact Calls.regrown_of (Qone2.out _)) | (with_reducible exact Calls.regrown_of (Qtwo1.out _)) | (with_reducible exact Calls.regrown_of (Qtwo2.out _)))) | fail)))); (refine wpQuiet_nil ?_); intro _ hw'; obtain ⟨⟨dq, osq⟩, hw''⟩ := hw'; (subst hw''); replace H := H.next (below_regrown _ dq osq); generalize Go.Sort.grow (redrawn _ dq) osq = wq at *
        go_wp2
        have hr := alike_no hlt HB.out
        rw [HR.out] at hr
        subst hr
        go_ret
        exact ⟨rfl, H.toBelow⟩
    · obtain rfl : k = 16 := by omega
      have hr := (alike_bits a b).2 HP.out
      rw [HR.out] at hr
      subst hr
      go_wp2
      go_ret
      exact ⟨rfl, H.toBelow⟩
end Go.Proofs.Ytbgclhhhfldphaa
