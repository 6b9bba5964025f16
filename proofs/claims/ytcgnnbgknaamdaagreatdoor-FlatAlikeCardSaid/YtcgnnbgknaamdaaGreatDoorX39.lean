/-
  Several texts in one: what is read and written by the functions on the way to the statements. Conditions stand in each theorem.
-/
import Derived.Test.YtcgnnbgknaamdaaGreatDoorX37
import Derived.Test.YtcgnnbgknaamdaaGreatDoorX30
import Derived.Test.YtcgnnbgknaamdaaGreatDoorX01
namespace Go.Proofs.YtcgnnbgknaamdaaGreatDoor
open Go.RowKit
set_option linter.unusedSimpArgs false
set_option linter.unusedVariables false
set_option maxRecDepth 20000

theorem nat_half (n k : Nat) : ((n / 2 ^ k % 2 = 0) ↔ n.testBit k = false) := by
  rw [Nat.testBit_eq_decide_div_mod_eq]
  have : n / 2 ^ k % 2 < 2 := Nat.mod_lt _ (by decide)
  simp
theorem fa_half {p q s : Nat} (h : ∀ i, s.testBit i = false → (207 : Nat).testBit i = true → p.testBit i = q.testBit i) (hp : p = p &&& 207) (hq : q = q &&& 207) (k : Nat) (hs : s / 2 ^ k % 2 = 0) : p / 2 ^ k % 2 = q / 2 ^ k % 2 := by
  have hs' := (nat_half s k).1 hs
  have e : p.testBit k = q.testBit k := by
    by_cases h2 : (207 : Nat).testBit k = true
    · exact h k hs' h2
    · rw [Bool.not_eq_true] at h2
      rw [hp, hq, Nat.testBit_and, Nat.testBit_and, h2]
      simp
  rw [Nat.testBit_eq_decide_div_mod_eq, Nat.testBit_eq_decide_div_mod_eq] at e
  have l1 : p / 2 ^ k % 2 < 2 := Nat.mod_lt _ (by decide)
  have l2 : q / 2 ^ k % 2 < 2 := Nat.mod_lt _ (by decide)
  have e' := of_decide_eq_true (p := (p / 2 ^ k % 2 = 1) ↔ (q / 2 ^ k % 2 = 1)) (by simpa using e)
  omega
theorem fa_bits {p q s : Int} (h : FA p q s) (p0 : 0 ≤ p) (p1 : p < 256) (q0 : 0 ≤ q) (q1 : q < 256) (s0 : 0 ≤ s) (hp : clr p = p) (hq : clr q = q) (k : Nat) (hs : s / (2 ^ k : Nat) % 2 = 0) : p / (2 ^ k : Nat) % 2 = q / (2 ^ k : Nat) % 2 := by
  have e1 := clr_nat p p0 p1
  have e2 := clr_nat q q0 q1
  rw [hp] at e1
  rw [hq] at e2
  unfold FA at h
  obtain ⟨p, rfl⟩ := Int.eq_ofNat_of_zero_le p0
  obtain ⟨q, rfl⟩ := Int.eq_ofNat_of_zero_le q0
  obtain ⟨s, rfl⟩ := Int.eq_ofNat_of_zero_le s0
  simp only [Int.toNat_natCast] at e1 e2 h
  have hs' : s / 2 ^ k % 2 = 0 := by
    have : ((s / 2 ^ k % 2 : Nat) : Int) = 0 := by rw [Int.natCast_emod, Int.natCast_ediv]; exact hs
    omega
  have := fa_half h e1 e2 k hs'
  have e3 : ((p / 2 ^ k % 2 : Nat) : Int) = ((q / 2 ^ k % 2 : Nat) : Int) := by rw [this]
  rw [Int.natCast_emod, Int.natCast_ediv, Int.natCast_emod, Int.natCast_ediv] at e3
  exact e3
theorem hbe {a b c d : Int} (h : a = b → c = d) : (a = b ∧ c = d ∧ (a == b) = true ∧ (c != d) = false) ∨ (¬ a = b ∧ (a == b) = false) := by
  by_cases e : a = b
  · exact .inl ⟨e, h e, by simp [e], by simp [h e]⟩
  · exact .inr ⟨e, by simp [e]⟩
theorem alike_yes {a b : Int} {s : Bool} (h : s = false → a = b) : alikeB a s b s = true := by cases s <;> simp_all [alikeB]
attribute [local irreducible] wpList
set_option maxHeartbeats 8000000 in
theorem ralike10_ct (z : Bool) (c d : Cp) (h : AC z c d) (p0 : 0 ≤ c.p) (p1 : c.p < 256) (q0 : 0 ≤ d.p) (q1 : d.p < 256) (s0 : 0 ≤ c.ps) (s1 : c.ps < 256) (hp : clr c.p = c.p) (hq : clr d.p = d.p) (w : World) :
    Calls Tryz.prog 15 #[.agg (cpC c), .agg (cpC d)] w fun e w' => e = .returned (.bool true) ∧ Below w.heap.size w w' := by
  have hb := fun k => fa_bits h.fa p0 p1 q0 q1 s0 hp hq k
  obtain ⟨av, ab, xv, xb, yv, yb, sv, sb, p, ps, pc, pcs, op, t, ad, ads, dv, db, cr, intr, nmi, got, pend, ctl, jam⟩ := c
  obtain ⟨av', ab', xv', xb', yv', yb', sv', sb', p', ps', pc', pcs', op', t', ad', ads', dv', db', cr', intr', nmi', got', pend', ctl', jam'⟩ := d
  obtain rfl : ab = ab' := h.ab
  obtain rfl : xb = xb' := h.xb
  obtain rfl : yb = yb' := h.yb
  obtain rfl : sb = sb' := h.sb
  obtain rfl : db = db' := h.db
  obtain rfl : ps = ps' := h.ps
  obtain rfl : pcs = pcs' := h.pcs
  obtain rfl : ads = ads' := h.ads
  obtain rfl : op = op' := h.op
  obtain rfl : t = t' := h.t
  obtain rfl : intr = intr' := h.intr
  obtain rfl : nmi = nmi' := h.nmi
  obtain rfl : got = got' := h.got
  obtain rfl : pend = pend' := h.pend
  obtain rfl : ctl = ctl' := h.ctl
  obtain rfl : jam = jam' := h.jam
  have ha : ab = false → av = av' := h.a
  have hx : xb = false → xv = xv' := h.x
  have hy : yb = false → yv = yv' := h.y
  have hs : sb = false → sv = sv' := h.sx
  have hd : db = false → dv = dv' := h.d
  have hpc : pcs = false → pc = pc' := h.pc
  have had : ads = false → ad = ad' ∧ cr = cr' := fun e => ⟨h.ad e, h.cr e⟩
  clear h
  have QA := Lib.hid (fun wr => ralike_ct av av' ab ab wr)
  rw [alike_yes ha] at QA
  have QX := Lib.hid (fun wr => ralike_ct xv xv' xb xb wr)
  rw [alike_yes hx] at QX
  have QY := Lib.hid (fun wr => ralike_ct yv yv' yb yb wr)
  rw [alike_yes hy] at QY
  have QS := Lib.hid (fun wr => ralike_ct sv sv' sb sb wr)
  rw [alike_yes hs] at QS
  have QD := Lib.hid (fun wr => ralike_ct dv dv' db db wr)
  rw [alike_yes hd] at QD
  have HBB : Hid (∀ k : Nat, ps / (2 ^ k : Nat) % 2 = 0 → p / (2 ^ k : Nat) % 2 = p' / (2 ^ k : Nat) % 2) := hb
  have p0 : 0 ≤ p := p0
  have p1 : p < 256 := p1
  have q0 : 0 ≤ p' := q0
  have q1 : p' < 256 := q1
  have s0 : 0 ≤ ps := s0
  have s1 : ps < 256 := s1
  clear hb ha hx hy hs hd hp hq
  have H := Mem.start w
  have M3 : True := trivial
  have M2 : True := trivial
  go_enter Tryz.func15, Tryz.ntmps15
  go_wp2_with (first | (refine wpList_mboxA rfl _ _ rfl H _ rfl ?_; clear H; (first | (clear M2; intro R2 w1 _ H) | (clear M3; intro R3 w1 _ H))) | (go_at_call 14; (with_reducible refine (QA.out _).mono ?_); rintro e w2 ⟨rfl, hB⟩; replace H := H.next hB; clear hB) | (go_at_call 14; (with_reducible refine (QX.out _).mono ?_); rintro e w2 ⟨rfl, hB⟩; replace H := H.next hB; clear hB) | (go_at_call 14; (with_reducible refine (QY.out _).mono ?_); rintro e w2 ⟨rfl, hB⟩; replace H := H.next hB; clear hB) | (go_at_call 14; (with_reducible refine (QS.out _).mono ?_); rintro e w2 ⟨rfl, hB⟩; replace H := H.next hB; clear hB) | (go_at_call 14; (with_reducible refine (QD.out _).mono ?_); rintro e w2 ⟨rfl, hB⟩; replace H := H.next hB; clear hB) | (refine gate_load _ _ rfl ?_; refine wpList_mload rfl 23 _ rfl _ _ rfl 1 H _ #[.int .u8 _, .bool _] rfl (by decide +kernel) (by kernel_rfl) (part2 rfl rfl) ?_) | (refine gate_load _ _ rfl ?_; refine wpList_mload rfl 23 _ rfl _ _ rfl 0 H _ #[.int .u8 _, .bool _] rfl (by decide +kernel) (by kernel_rfl) (part2 rfl rfl) ?_) | (refine gate_load _ _ rfl ?_; refine wpList_mload1 rfl _ _ rfl _ _ rfl 1 H _ (.int _ _) rfl rfl (by decide +kernel) ?_) | (refine gate_load _ _ rfl ?_; refine wpList_mload1 rfl _ _ rfl _ _ rfl 0 H _ (.int _ _) rfl rfl (by decide +kernel) ?_) | (refine gate_load _ _ rfl ?_; refine wpList_mload1 rfl _ _ rfl _ _ rfl 1 H _ (.bool _) rfl rfl (by decide +kernel) ?_) | (refine gate_load _ _ rfl ?_; refine wpList_mload1 rfl _ _ rfl _ _ rfl 0 H _ (.bool _) rfl rfl (by decide +kernel) ?_) | fail)
  go_loopw [5] (fun i wr => ∃ k : Nat, k ≤ 8 ∧ i = .int .i64 (k : Int) ∧ Mem w.heap.size [] w wr [(R3, cpC ⟨av', ab, xv', xb, yv', yb, sv', sb, p', ps, pc', pcs, op, t, ad', ads, dv', db, cr', intr, nmi, got, pend, ctl, jam⟩), (R2, cpC ⟨av, ab, xv, xb, yv, yb, sv, sb, p, ps, pc, pcs, op, t, ad, ads, dv, db, cr, intr, nmi, got, pend, ctl, jam⟩)]) (fun i _ => 8 - (intOf i).toNat)
  case atStart => exact ⟨0, by omega, rfl, H⟩
  case round =>
    clear H
    obtain ⟨k, hk, rfl, H⟩ := hrel
    by_cases hlt : k < 8
    · have hk8 : (k = 0 ∧ (ps % 2 = 0 → p % 2 = p' % 2)) ∨ (k = 1 ∧ (ps / 2 % 2 = 0 → p / 2 % 2 = p' / 2 % 2)) ∨ (k = 2 ∧ (ps / 4 % 2 = 0 → p / 4 % 2 = p' / 4 % 2)) ∨ (k = 3 ∧ (ps / 8 % 2 = 0 → p / 8 % 2 = p' / 8 % 2)) ∨ (k = 4 ∧ (ps / 16 % 2 = 0 → p / 16 % 2 = p' / 16 % 2)) ∨ (k = 5 ∧ (ps / 32 % 2 = 0 → p / 32 % 2 = p' / 32 % 2)) ∨ (k = 6 ∧ (ps / 64 % 2 = 0 → p / 64 % 2 = p' / 64 % 2)) ∨ (k = 7 ∧ (ps / 128 % 2 = 0 → p / 128 % 2 = p' / 128 % 2)) := by
        rcases (show k = 0 ∨ k = 1 ∨ k = 2 ∨ k = 3 ∨ k = 4 ∨ k = 5 ∨ k = 6 ∨ k = 7 by omega) with rfl | rfl | rfl | rfl | rfl | rfl | rfl | rfl
        · exact .inl ⟨rfl, by have := HBB.out 0; simpa using this⟩
        · exact .inr (.inl ⟨rfl, HBB.out 1⟩)
        · exact .inr (.inr (.inl ⟨rfl, HBB.out 2⟩))
        · exact .inr (.inr (.inr (.inl ⟨rfl, HBB.out 3⟩)))
        · exact .inr (.inr (.inr (.inr (.inl ⟨rfl, HBB.out 4⟩))))
        · exact .inr (.inr (.inr (.inr (.inr (.inl ⟨rfl, HBB.out 5⟩)))))
        · exact .inr (.inr (.inr (.inr (.inr (.inr (.inl ⟨rfl, HBB.out 6⟩))))))
        · exact .inr (.inr (.inr (.inr (.inr (.inr (.inr (⟨rfl, HBB.out 7⟩)))))))
      clear hk hlt HBB
      rcases hk8 with ⟨rfl, hb⟩ | ⟨rfl, hb⟩ | ⟨rfl, hb⟩ | ⟨rfl, hb⟩ | ⟨rfl, hb⟩ | ⟨rfl, hb⟩ | ⟨rfl, hb⟩ | ⟨rfl, hb⟩
      all_goals
        rcases hbe hb with ⟨e, e2, e1, e3⟩ | ⟨e, e1⟩
        all_goals
          clear hb
          go_wp2_with fail
          (try simp only [Act.put, List.setIfInBounds_toArray, List.set_cons_succ, List.set_cons_zero])
          (refine wp_region_quiet_below (by kernel_rfl) (by kernel_rfl) ?_)
          (repeat (first | (go_big_quiet_want; refine gate_qload _ _ rfl ?_; refine quiet_mload1 _ _ rfl _ _ rfl 1 H _ (.int _ _) rfl rfl (by decide +kernel) ?_; simp only [Act.put, List.setIfInBounds_toArray, List.set_cons_succ, List.set_cons_zero]; go_big_quiet_on) | (go_big_quiet_want; refine gate_qload _ _ rfl ?_; refine quiet_mload1 _ _ rfl _ _ rfl 0 H _ (.int _ _) rfl rfl (by decide +kernel) ?_; simp only [Act.put, List.setIfInBounds_toArray, List.set_cons_succ, List.set_cons_zero]; go_big_quiet_on) | go_big_quiet_step (fail)))
          (refine wpQuiet_nil ?_)
          intro _ hw9
          obtain ⟨⟨dq, osq⟩, hw8⟩ := hw9
          subst hw8
          replace H := H.next (below_regrown _ dq osq)
          go_wp2_with fail
          go_roundw
          case rel => first | exact ⟨1, by omega, by go_num, H⟩ | exact ⟨2, by omega, by go_num, H⟩ | exact ⟨3, by omega, by go_num, H⟩ | exact ⟨4, by omega, by go_num, H⟩ | exact ⟨5, by omega, by go_num, H⟩ | exact ⟨6, by omega, by go_num, H⟩ | exact ⟨7, by omega, by go_num, H⟩ | exact ⟨8, by omega, by go_num, H⟩
          case measure => simp [intOf]
    · obtain rfl : k = 8 := by omega
      clear HBB
      cases pcs <;> cases ads
      all_goals
        (try (obtain rfl : pc = pc' := hpc rfl))
        (try (obtain ⟨rfl, rfl⟩ := had rfl))
        clear hpc had
        go_wp2_with (first | (refine gate_load _ _ rfl ?_; refine wpList_mload1 rfl _ _ rfl _ _ rfl 1 H _ (.int _ _) rfl rfl (by decide +kernel) ?_) | (refine gate_load _ _ rfl ?_; refine wpList_mload1 rfl _ _ rfl _ _ rfl 0 H _ (.int _ _) rfl rfl (by decide +kernel) ?_) | (refine gate_load _ _ rfl ?_; refine wpList_mload1 rfl _ _ rfl _ _ rfl 1 H _ (.bool _) rfl rfl (by decide +kernel) ?_) | (refine gate_load _ _ rfl ?_; refine wpList_mload1 rfl _ _ rfl _ _ rfl 0 H _ (.bool _) rfl rfl (by decide +kernel) ?_) | fail)
        go_ret
        exact ⟨rfl, H.toBelow⟩
end Go.Proofs.YtcgnnbgknaamdaaGreatDoor
