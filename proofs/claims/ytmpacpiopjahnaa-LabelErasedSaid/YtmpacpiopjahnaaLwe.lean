/-
  The walk of layer 1's law on erased bytes, over this seat's translation: it returns true, and writes nothing that was there. Each value of a byte is from 0 to 255.
-/
import Derived.Test.YtmpacpiopjahnaaLbn
import Derived.Test.YtmpacpiopjahnaaEin
namespace Go.Proofs.Ytmpacpiopjahnaa
open Go.RowKit

set_option maxHeartbeats 400000 in
theorem erase_ex (v : Int) (s : Bool) (w : World) :
    Calls Try.prog 18 #[.agg #[.int .u8 v, .bool s]] w fun e w' => e = .returned (.agg #[.int .u8 v, .bool false]) ∧ w' = ((w.alloc (.cells #[.int .u8 v, .bool s] 24)).alloc (.cells #[.int .u8 v, .bool false] 24)).alloc (.cells #[.int .u8 v, .bool false] 24) := by
  go_enter Try.func18, Try.ntmps18
  go_wp2
  exact bodyPost_ret (v := .agg #[.int .u8 v, .bool false]) (by simp [results, Try.results11, go_sem]) rfl (by
    go_wp2
    exact bodyPost_ret (v := .agg #[.int .u8 v, .bool false]) (by simp [results, Try.results18, go_sem]) rfl ⟨rfl, rfl⟩)
set_option linter.unusedSimpArgs false in
set_option maxRecDepth 100000 in
set_option maxHeartbeats 8000000 in
theorem erased_walk (a b c x y z i n : Int) (s t u o : Bool) (w : World) (ha : 0 ≤ a ∧ a < 256) (hb : 0 ≤ b ∧ b < 256) :
    Calls Try.prog 7 #[.agg #[.int .u8 a, .bool s, .int .u8 b, .bool t, .int .u8 c, .bool u, .int .u8 x, .int .u8 y, .int .u8 z, .int .i64 i, .int .u16 n, .bool o]] w fun e w' => e = .returned (.bool true) ∧ Below w.heap.size w w' := by
  obtain ⟨a0, a1⟩ := ha
  obtain ⟨b0, b1⟩ := hb
  go_enter Try.func7, Try.ntmps7
  go_upto_region 1 with fail
  go_cut [3, 4, 5, 6] (fun s3 s4 s5 s6 wx => ∃ g h k : Nat, s3 = .pointer (some ⟨g, 0, none⟩) ∧ s4 = .pointer (some ⟨h, 0, none⟩) ∧ s5 = .pointer (some ⟨k, 0, none⟩) ∧ s6 = .int .i64 i ∧ BC wx g a s ∧ BC wx h b t ∧ BC wx k c u ∧ Below w.heap.size w wx)
  case first => as_aux_lemma =>
    go_region_held3 (fun w' => w'.cell? ⟨w.heap.size, 0, none⟩ = some (.int .u8 a) ∧ w'.cell? ⟨w.heap.size, 1, none⟩ = some (.bool s) ∧ w'.cell? ⟨w.heap.size, 2, none⟩ = some (.int .u8 b) ∧ w'.cell? ⟨w.heap.size, 3, none⟩ = some (.bool t) ∧ w'.cell? ⟨w.heap.size, 4, none⟩ = some (.int .u8 c) ∧ w'.cell? ⟨w.heap.size, 5, none⟩ = some (.bool u) ∧ w'.cell? ⟨w.heap.size, 9, none⟩ = some (.int .i64 i)) (go_keep)
      (fail)
    all_goals
      go_wp2_with fail
      go_meet
      exact ⟨_, _, _, rfl, rfl, rfl, rfl, ⟨by simp, by simp [go_sem], by simp [go_sem]⟩, ⟨by simp, by simp [go_sem], by simp [go_sem]⟩, ⟨by simp, by simp [go_sem], by simp [go_sem]⟩, (by repeat' (first | exact Below.refl _ _ | (refine Below.setCell ?_ (by first | (simp; done) | (simp; omega) | omega) _) | (refine Below.drew ?_) | (refine Below.drewN ?_ _) | (refine Below.alloc ?_ (by first | (simp; done) | (simp; omega) | omega) _)))⟩
  case rest =>
    obtain ⟨g, h, k, rfl, rfl, rfl, rfl, kg, kh, kk, hB⟩ := hcut
    obtain ⟨lg, cg, dg⟩ := id kg
    obtain ⟨lh, ch, dh⟩ := id kh
    obtain ⟨lk, ck, dk⟩ := id kk
    go_upto_region 2 with fail
    go_cut [7, 8, 9] (fun s3 s4 s5 wx => ∃ g' h' k' : Nat, s3 = .pointer (some ⟨g', 0, none⟩) ∧ s4 = .pointer (some ⟨h', 0, none⟩) ∧ s5 = .pointer (some ⟨k', 0, none⟩) ∧ BC wx g' a false ∧ BC wx h' b false ∧ BC wx k' c false ∧ Below wc.heap.size wc wx)
    case first => as_aux_lemma =>
      refine wp_region_inv (by kernel_rfl) (fun L ac w' => ∃ v22 v23 v24 v25 v26 v27 v7 v8 v9 : Value, ac = { tmps := #[.agg #[.int .u8 a, .bool s, .int .u8 b, .bool t, .int .u8 c, .bool u, .int .u8 x, .int .u8 y, .int .u8 z, .int .i64 i, .int .u16 n, .bool o], .pointer (some ⟨w.heap.size, 0, none⟩), .bool false, .pointer (some ⟨g, 0, none⟩), .pointer (some ⟨h, 0, none⟩), .pointer (some ⟨k, 0, none⟩), .int .i64 i, v7, v8, v9, undef, undef, undef, undef, u14, u15, u16, u17, u18, u19, u20, u21, v22, v23, v24, v25, v26, v27, u28, u29, u30, u31, u32, u33, u34, u35, u36, u37, u38, u39, u40, u41, u42, u43, u44, u45, u46, u47, u48, u49, u50, u51, u52, u53, u54, u55, u56, u57, u58, u59, u60, u61, u62, u63, u64, u65, u66, u67, u68, u69, u70, u71, u72, u73, u74, u75, u76, u77, u78, u79, u80, u81, u82, u83, u84, u85, u86, u87, u88, u89, u90, u91, u92, u93, u94, u95, u96, u97, u98, u99, u100, u101], defers := [] } ∧ FE wc a b c s t u L w' v22 v23 v24 v25 v26 v27 v7 v8 v9) ?_ ?_ ?_
      · exact ⟨_, _, _, _, _, _, _, _, _, rfl, FE.init _ _ _ _ _ _ _ _ _ _ _ _ _ _ _ _⟩
      · intro L ac w' ix hInv hr
        obtain ⟨v22, v23, v24, v25, v26, v27, v7, v8, v9, rfl, hF⟩ := hInv
        obtain ⟨hi, hnl⟩ := ready_lt hr
        replace hi : ix < 12 := hi
        clear cg dg ch dh ck dk
        have hcs : ix = 0 ∨ ix = 1 ∨ ix = 2 ∨ ix = 3 ∨ ix = 4 ∨ ix = 5 ∨ ix = 6 ∨ ix = 7 ∨ ix = 8 ∨ ix = 9 ∨ ix = 10 ∨ ix = 11 := by omega
        clear hi
        rcases hcs with rfl | rfl | rfl | rfl | rfl | rfl | rfl | rfl | rfl | rfl | rfl | rfl
        · obtain ⟨l1, c1, e1⟩ := kg.next hF.bel
          clear hr hnl
          refine wpOp_cons rfl (fun K' hK => ?_)
          go_simp
          exact hK.out _ _ ⟨_, _, _, _, _, _, _, _, _, rfl, hF.s0 rfl⟩
        · have q0 := ready_dep hr 0 (by kernel_rfl)
          obtain rfl := hF.f0 q0
          clear hr hnl q0
          refine wpOp_cons rfl (fun K' hK => ?_)
          go_simp
          refine (erase_ct _ _ _).mono ?_
          rintro e w1 ⟨rfl, hh⟩
          exact hK.out _ _ ⟨_, _, _, _, _, _, _, _, _, rfl, (hF.world hh).s1 rfl⟩
        · obtain ⟨l1, c1, e1⟩ := kh.next hF.bel
          clear hr hnl
          refine wpOp_cons rfl (fun K' hK => ?_)
          go_simp
          exact hK.out _ _ ⟨_, _, _, _, _, _, _, _, _, rfl, hF.s2 rfl⟩
        · have q0 := ready_dep hr 2 (by kernel_rfl)
          obtain rfl := hF.f2 q0
          clear hr hnl q0
          refine wpOp_cons rfl (fun K' hK => ?_)
          go_simp
          refine (erase_ct _ _ _).mono ?_
          rintro e w1 ⟨rfl, hh⟩
          exact hK.out _ _ ⟨_, _, _, _, _, _, _, _, _, rfl, (hF.world hh).s3 rfl⟩
        · obtain ⟨l1, c1, e1⟩ := kk.next hF.bel
          clear hr hnl
          refine wpOp_cons rfl (fun K' hK => ?_)
          go_simp
          exact hK.out _ _ ⟨_, _, _, _, _, _, _, _, _, rfl, hF.s4 rfl⟩
        · have q0 := ready_dep hr 4 (by kernel_rfl)
          obtain rfl := hF.f4 q0
          clear hr hnl q0
          refine wpOp_cons rfl (fun K' hK => ?_)
          go_simp
          refine (erase_ct _ _ _).mono ?_
          rintro e w1 ⟨rfl, hh⟩
          exact hK.out _ _ ⟨_, _, _, _, _, _, _, _, _, rfl, (hF.world hh).s5 rfl⟩
        · have n9 : ¬ (L.getD 9 false = true) := fun l => not_both hnl (hF.p9 l).1
          have n10 : ¬ (L.getD 10 false = true) := fun l => not_both hnl (hF.p10 l).1
          have n11 : ¬ (L.getD 11 false = true) := fun l => not_both hnl (hF.p11 l).1
          have m7 : L.getD 7 false = true → Value.pointer (some ⟨w'.heap.size, 0, none⟩) ≠ v8 := fun l => by
            obtain ⟨q, h1, h2, _⟩ := hF.f7 l
            rw [h1]
            intro e
            have := ptr_inj e
            have := h2.1
            omega
          have m8 : L.getD 8 false = true → Value.pointer (some ⟨w'.heap.size, 0, none⟩) ≠ v9 := fun l => by
            obtain ⟨q, h1, h2, _⟩ := hF.f8 l
            rw [h1]
            intro e
            have := ptr_inj e
            have := h2.1
            omega
          clear hr hnl
          have hb : ∀ O, Below w'.heap.size w' (w'.alloc O) := fun O => (Below.refl _ _).alloc (Nat.le_refl _) O
          refine wpOp_cons rfl (fun K' hK => ?_)
          go_simp
          exact hK.out _ _ ⟨_, _, _, _, _, _, _, _, _, rfl, (hF.world (hb _)).s6 w'.heap.size rfl ⟨(by first | (simp; done) | (simp; omega) | omega), ⟨.int .u8 0, .bool false, by simp [go_sem], by simp [go_sem]⟩, fun o => (by simp [go_sem])⟩ hF.bel.size m7 m8 n9 n10 n11⟩
        · have n9 : ¬ (L.getD 9 false = true) := fun l => not_both hnl (hF.p9 l).2.1
          have n10 : ¬ (L.getD 10 false = true) := fun l => not_both hnl (hF.p10 l).2.1
          have n11 : ¬ (L.getD 11 false = true) := fun l => not_both hnl (hF.p11 l).2.1
          have m6 : L.getD 6 false = true → Value.pointer (some ⟨w'.heap.size, 0, none⟩) ≠ v7 := fun l => by
            obtain ⟨q, h1, h2, _⟩ := hF.f6 l
            rw [h1]
            intro e
            have := ptr_inj e
            have := h2.1
            omega
          have m8 : L.getD 8 false = true → Value.pointer (some ⟨w'.heap.size, 0, none⟩) ≠ v9 := fun l => by
            obtain ⟨q, h1, h2, _⟩ := hF.f8 l
            rw [h1]
            intro e
            have := ptr_inj e
            have := h2.1
            omega
          clear hr hnl
          have hb : ∀ O, Below w'.heap.size w' (w'.alloc O) := fun O => (Below.refl _ _).alloc (Nat.le_refl _) O
          refine wpOp_cons rfl (fun K' hK => ?_)
          go_simp
          exact hK.out _ _ ⟨_, _, _, _, _, _, _, _, _, rfl, (hF.world (hb _)).s7 w'.heap.size rfl ⟨(by first | (simp; done) | (simp; omega) | omega), ⟨.int .u8 0, .bool false, by simp [go_sem], by simp [go_sem]⟩, fun o => (by simp [go_sem])⟩ hF.bel.size m6 m8 n9 n10 n11⟩
        · have n9 : ¬ (L.getD 9 false = true) := fun l => not_both hnl (hF.p9 l).2.2
          have n10 : ¬ (L.getD 10 false = true) := fun l => not_both hnl (hF.p10 l).2.2
          have n11 : ¬ (L.getD 11 false = true) := fun l => not_both hnl (hF.p11 l).2.2
          have m6 : L.getD 6 false = true → Value.pointer (some ⟨w'.heap.size, 0, none⟩) ≠ v7 := fun l => by
            obtain ⟨q, h1, h2, _⟩ := hF.f6 l
            rw [h1]
            intro e
            have := ptr_inj e
            have := h2.1
            omega
          have m7 : L.getD 7 false = true → Value.pointer (some ⟨w'.heap.size, 0, none⟩) ≠ v8 := fun l => by
            obtain ⟨q, h1, h2, _⟩ := hF.f7 l
            rw [h1]
            intro e
            have := ptr_inj e
            have := h2.1
            omega
          clear hr hnl
          have hb : ∀ O, Below w'.heap.size w' (w'.alloc O) := fun O => (Below.refl _ _).alloc (Nat.le_refl _) O
          refine wpOp_cons rfl (fun K' hK => ?_)
          go_simp
          exact hK.out _ _ ⟨_, _, _, _, _, _, _, _, _, rfl, (hF.world (hb _)).s8 w'.heap.size rfl ⟨(by first | (simp; done) | (simp; omega) | omega), ⟨.int .u8 0, .bool false, by simp [go_sem], by simp [go_sem]⟩, fun o => (by simp [go_sem])⟩ hF.bel.size m6 m7 n9 n10 n11⟩
        · have q6 := ready_dep hr 6 (by kernel_rfl)
          have q7 := ready_dep hr 7 (by kernel_rfl)
          have q8 := ready_dep hr 8 (by kernel_rfl)
          have qv := ready_dep hr 1 (by kernel_rfl)
          obtain rfl := hF.f1 qv
          obtain ⟨p, rfl, ⟨lp, ⟨z1, z2, y1, y2⟩, fz⟩, hp⟩ := hF.f6 q6
          clear hr hnl qv
          refine wpOp_cons rfl (fun K' hK => ?_)
          go_simp
          exact hK.out _ _ ⟨_, _, _, _, _, _, _, _, _, rfl, hF.s9 q6 q7 q8 p rfl⟩
        · have q6 := ready_dep hr 6 (by kernel_rfl)
          have q7 := ready_dep hr 7 (by kernel_rfl)
          have q8 := ready_dep hr 8 (by kernel_rfl)
          have qv := ready_dep hr 3 (by kernel_rfl)
          obtain rfl := hF.f3 qv
          obtain ⟨p, rfl, ⟨lp, ⟨z1, z2, y1, y2⟩, fz⟩, hp⟩ := hF.f7 q7
          clear hr hnl qv
          refine wpOp_cons rfl (fun K' hK => ?_)
          go_simp
          exact hK.out _ _ ⟨_, _, _, _, _, _, _, _, _, rfl, hF.s10 q6 q7 q8 p rfl⟩
        · have q6 := ready_dep hr 6 (by kernel_rfl)
          have q7 := ready_dep hr 7 (by kernel_rfl)
          have q8 := ready_dep hr 8 (by kernel_rfl)
          have qv := ready_dep hr 5 (by kernel_rfl)
          obtain rfl := hF.f5 qv
          obtain ⟨p, rfl, ⟨lp, ⟨z1, z2, y1, y2⟩, fz⟩, hp⟩ := hF.f8 q8
          clear hr hnl qv
          refine wpOp_cons rfl (fun K' hK => ?_)
          go_simp
          exact hK.out _ _ ⟨_, _, _, _, _, _, _, _, _, rfl, hF.s11 q6 q7 q8 p rfl⟩
      · intro L ac w' hInv hr
        obtain ⟨v22, v23, v24, v25, v26, v27, v7, v8, v9, rfl, hF⟩ := hInv
        have l0 := ready_all hr hF.sz 0 rfl (by simp [Region.binds])
        have z0 : L[0]?.getD false = true := by simpa using l0
        have l1 := ready_all hr hF.sz 1 rfl (by simp [Region.binds, z0])
        have z1 : L[1]?.getD false = true := by simpa using l1
        have l2 := ready_all hr hF.sz 2 rfl (by simp [Region.binds, z0, z1])
        have z2 : L[2]?.getD false = true := by simpa using l2
        have l3 := ready_all hr hF.sz 3 rfl (by simp [Region.binds, z0, z1, z2])
        have z3 : L[3]?.getD false = true := by simpa using l3
        have l4 := ready_all hr hF.sz 4 rfl (by simp [Region.binds, z0, z1, z2, z3])
        have z4 : L[4]?.getD false = true := by simpa using l4
        have l5 := ready_all hr hF.sz 5 rfl (by simp [Region.binds, z0, z1, z2, z3, z4])
        have z5 : L[5]?.getD false = true := by simpa using l5
        have l6 := ready_all hr hF.sz 6 rfl (by simp [Region.binds, z0, z1, z2, z3, z4, z5])
        have z6 : L[6]?.getD false = true := by simpa using l6
        have l7 := ready_all hr hF.sz 7 rfl (by simp [Region.binds, z0, z1, z2, z3, z4, z5, z6])
        have z7 : L[7]?.getD false = true := by simpa using l7
        have l8 := ready_all hr hF.sz 8 rfl (by simp [Region.binds, z0, z1, z2, z3, z4, z5, z6, z7])
        have z8 : L[8]?.getD false = true := by simpa using l8
        have l9 := ready_all hr hF.sz 9 rfl (by simp [Region.binds, z0, z1, z2, z3, z4, z5, z6, z7, z8])
        have z9 : L[9]?.getD false = true := by simpa using l9
        have l10 := ready_all hr hF.sz 10 rfl (by simp [Region.binds, z0, z1, z2, z3, z4, z5, z6, z7, z8, z9])
        have z10 : L[10]?.getD false = true := by simpa using l10
        have l11 := ready_all hr hF.sz 11 rfl (by simp [Region.binds, z0, z1, z2, z3, z4, z5, z6, z7, z8, z9, z10])
        have z11 : L[11]?.getD false = true := by simpa using l11
        obtain ⟨g', rfl, k1⟩ := hF.f9 l9
        obtain ⟨h', rfl, k2⟩ := hF.f10 l10
        obtain ⟨k', rfl, k3⟩ := hF.f11 l11
        have hbel := hF.bel
        clear hF hr l0 l1 l2 l3 l4 l5 l6 l7 l8 l9 l10 l11 z0 z1 z2 z3 z4 z5 z6 z7 z8 z9 z10 z11
        go_wp2_with fail
        go_meet
        exact ⟨_, _, _, rfl, rfl, rfl, k1, k2, k3, hbel⟩
    case rest =>
    obtain ⟨g', h', k', rfl, rfl, rfl, kg', kh', kk', hB2⟩ := hcut
    clear lg cg dg lh ch dh lk ck dk
    replace kg := kg.next hB2
    replace kh := kh.next hB2
    replace kk := kk.next hB2
    replace hB := hB.next hB2
    clear hB2
    obtain ⟨lg, cg, dg⟩ := id kg
    obtain ⟨lh, ch, dh⟩ := id kh
    go_wp2_with fail
    refine (word_ct a b s t _ a0 a1 b0 b1).mono ?_
    rintro e w1 ⟨rfl, h1⟩
    clear lg cg dg lh ch dh
    replace kg := kg.next h1
    replace kh := kh.next h1
    replace kk := kk.next h1
    replace kg' := kg'.next h1
    replace kh' := kh'.next h1
    replace kk' := kk'.next h1
    replace hB := hB.next h1
    clear h1
    obtain ⟨lg', cg', dg'⟩ := id kg'
    obtain ⟨lh', ch', dh'⟩ := id kh'
    go_wp2_with fail
    refine (word_ct a b false false _ a0 a1 b0 b1).mono ?_
    rintro e w2 ⟨rfl, h2⟩
    clear lg' cg' dg' lh' ch' dh'
    replace kg := kg.next h2
    replace kh := kh.next h2
    replace kk := kk.next h2
    replace kg' := kg'.next h2
    replace kh' := kh'.next h2
    replace kk' := kk'.next h2
    replace hB := hB.next h2
    clear h2
    obtain ⟨lg, cg, dg⟩ := id kg
    obtain ⟨lh, ch, dh⟩ := id kh
    obtain ⟨lk, ck, dk⟩ := id kk
    obtain ⟨lg', cg', dg'⟩ := id kg'
    obtain ⟨lh', ch', dh'⟩ := id kh'
    obtain ⟨lk', ck', dk'⟩ := id kk'
    clear kg kh kk kg' kh' kk'
    go_upto_region 5 with fail
    go_region_held3 (fun w' => Below w.heap.size w w' ∧ (g < w'.heap.size ∧ w'.cell? ⟨g, 0, none⟩ = some (.int .u8 a) ∧ w'.cell? ⟨g, 1, none⟩ = some (.bool s)) ∧ (h < w'.heap.size ∧ w'.cell? ⟨h, 0, none⟩ = some (.int .u8 b) ∧ w'.cell? ⟨h, 1, none⟩ = some (.bool t)) ∧ (k < w'.heap.size ∧ w'.cell? ⟨k, 0, none⟩ = some (.int .u8 c) ∧ w'.cell? ⟨k, 1, none⟩ = some (.bool u)) ∧ (g' < w'.heap.size ∧ w'.cell? ⟨g', 0, none⟩ = some (.int .u8 a) ∧ w'.cell? ⟨g', 1, none⟩ = some (.bool false)) ∧ (h' < w'.heap.size ∧ w'.cell? ⟨h', 0, none⟩ = some (.int .u8 b) ∧ w'.cell? ⟨h', 1, none⟩ = some (.bool false)) ∧ (k' < w'.heap.size ∧ w'.cell? ⟨k', 0, none⟩ = some (.int .u8 c) ∧ w'.cell? ⟨k', 1, none⟩ = some (.bool false)))
      (first | assumption | (refine And.imp (next0 h1) (And.imp (next1 h1) (And.imp (next1 h1) (And.imp (next1 h1) (And.imp (next1 h1) (And.imp (next1 h1) (next1 h1)))))) ?_; assumption) | exact ⟨hB.drew, ⟨lg, cg, dg⟩, ⟨lh, ch, dh⟩, ⟨lk, ck, dk⟩, ⟨lg', cg', dg'⟩, ⟨lh', ch', dh'⟩, ⟨lk', ck', dk'⟩⟩)
      (first
        | (go_at_call 20; refine (and_ct _ _ _ _ _).mono ?_; rintro e w1 ⟨rfl, h1⟩)
        | (go_at_call 22; refine (or_ct _ _ _ _ _).mono ?_; rintro e w1 ⟨rfl, h1⟩)
        | (go_at_call 23; refine (xor_ct _ _ _ _ _).mono ?_; rintro e w1 ⟨rfl, h1⟩)
        | (go_at_call 24; refine (bit_ct _ _ _ _ a0 a1).mono ?_; rintro e w1 ⟨rfl, h1⟩)
        | (go_at_call 26; refine (mux_ct _ _ _ _ _ _ _).mono ?_; rintro e w1 ⟨rfl, h1⟩)
        | (go_at_call 18; refine (erase_ct _ _ _).mono ?_; rintro e w1 ⟨rfl, h1⟩)
        | (go_at_call 19; refine (awake_ct _).mono ?_; rintro e w1 ⟨rfl, h1⟩))
    obtain ⟨hz, -⟩ := ‹Below w.heap.size w w1 ∧ _›
    go_wp2
    go_ret
    exact ⟨rfl, hz⟩
end Go.Proofs.Ytmpacpiopjahnaa
