/-
  The walk of OpcodeCounts, by what the program's Decode tells. Over this seat's translation; opcodes are from 0 to 255. (Written by gen_op7.py.)
-/
import Derived.Test.YtddeakcipmhobaaDoorOlt
namespace Go.Proofs.YtddeakcipmhobaaDoor
open Go.RowKit
set_option linter.unusedSimpArgs false
set_option linter.unusedVariables false
set_option maxRecDepth 20000

theorem pair_of {α β : Type} (f : α → β) : ∀ (l : List α), (l.map f).Nodup → ∀ a, a ∈ l → ∀ b, b ∈ l → a ≠ b → f a ≠ f b
  | [], _, a, ha, _, _, _ => by cases ha
  | x :: l, hn, a, ha, b, hb, hne => by
    rw [List.map_cons, List.nodup_cons] at hn
    rcases List.mem_cons.1 ha with ea | ha
    · rcases List.mem_cons.1 hb with eb | hb
      · exact absurd (ea.trans eb.symm) hne
      · intro e
        rw [ea] at e
        exact hn.1 (List.mem_map.2 ⟨b, hb, e.symm⟩)
    · rcases List.mem_cons.1 hb with eb | hb
      · intro e
        rw [eb] at e
        exact hn.1 (List.mem_map.2 ⟨a, ha, e⟩)
      · exact pair_of f l hn.2 a ha b hb hne
theorem good_pair (i j : Nat) (hi : i < 256) (hj : j < 256) (gi : goodL i = true) (gj : goodL j = true) (hne : i ≠ j) (hn : nameL i = nameL j) : modeL i ≠ modeL j := fun hm =>
  pair_of (fun n : Nat => (nameL (n : Int), modeL (n : Int))) _ good_once i (List.mem_filter.2 ⟨List.mem_range.2 hi, gi⟩) j (List.mem_filter.2 ⟨List.mem_range.2 hj, gj⟩) hne (by rw [Prod.mk.injEq]; exact ⟨hn, hm⟩)
def gK (k : Nat) : Int := (((List.range k).filter fun n : Nat => goodL (n : Int)).length : Nat)
def jK (k : Nat) : Int := (((List.range k).filter fun n : Nat => modeL (n : Int) == 20).length : Nat)
theorem gK_succ (k : Nat) : gK (k + 1) = gK k + if goodL (k : Int) = true then 1 else 0 := by
  unfold gK
  rw [List.range_succ, List.filter_append, List.length_append]
  by_cases h : goodL (k : Int) = true
  · simp [h]
  · simp [h]
theorem jK_succ (k : Nat) : jK (k + 1) = jK k + if (modeL (k : Int) == 20) = true then 1 else 0 := by
  unfold jK
  rw [List.range_succ, List.filter_append, List.length_append]
  by_cases h : (modeL (k : Int) == 20) = true
  · simp [h]
  · simp [h]
theorem gK_le (k : Nat) : 0 ≤ gK k ∧ gK k ≤ k := by
  unfold gK
  have := List.length_filter_le (fun n : Nat => goodL (n : Int)) (List.range k)
  rw [List.length_range] at this
  omega
theorem jK_le (k : Nat) : 0 ≤ jK k ∧ jK k ≤ k := by
  unfold jK
  have := List.length_filter_le (fun n : Nat => modeL (n : Int) == 20) (List.range k)
  rw [List.length_range] at this
  omega
attribute [local irreducible] wpList
set_option maxHeartbeats 16000000 in
theorem ocounts_walk (KD : KDec) (at_ : Int) (w : World) (G : GlobO w) (a0 : 0 ≤ at_) (a1 : at_ < 256) : Calls Tryd.prog 5 #[.int .u8 at_] w fun e w' => e = .returned (.bool true) ∧ Below w.heap.size w w' := by
  obtain ⟨t, rfl⟩ := Int.eq_ofNat_of_zero_le a0
  have K0 := fun wr (hg : GlobO wr) => KD t wr hg a0 a1
  have KK := Lib.hid KD
  have QA := Lib.hid (fun wr (hg : GlobO wr) => oawake_ct KD wr hg)
  rw [decC_list] at K0
  unfold opC at K0
  have Q0 := Lib.hid K0
  clear K0 KD
  have HZ := Lib.hid alloc_op
  have GG := Lib.hid G
  clear G
  have H := Mem.start w
  go_enter Tryd.func5, Tryd.ntmps5
  go_wp2_with (first
    | (go_at_call 8; (with_reducible refine (Q0.out _ (GG.out.mem H)).mono ?_); rintro e w2 ⟨rfl, hB⟩; replace H := H.next hB; clear hB)
    | (refine gate_store _ _ _ rfl ?_; (refine wpList_mstoreA rfl _ _ _ rfl rfl _ rfl 0 H _ _ rfl rfl (by kernel_rfl) (by kernel_rfl) (by kernel_rfl) ?_); clear H; intro w1 H; simp only [List.set_cons_zero, List.set_cons_succ] at H)
    | (refine wpList_mnew rfl _ rfl H _ HZ.out ?_; clear H; intro R5 w1 _ H) | fail)
  go_loopw [3, 4, 6] (fun g j i wr => ∃ k : Nat, k ≤ 256 ∧ i = .int .i64 k ∧ g = .int .i64 (gK k) ∧ j = .int .i64 (jK k) ∧ Mem w.heap.size [] w wr [(R5, #[.string (nameV t), .int .i64 (modeL t), .int .i64 (useL t), .int .i64 (cyL t), .bool (crL t), .bool (goodL t)])]) (fun _ _ i _ => 256 - (intOf i).toNat)
  case atStart => exact ⟨0, Nat.zero_le _, rfl, rfl, rfl, H⟩
  case round =>
    clear H
    obtain ⟨k, hk, rfl, rfl, rfl, H⟩ := hrel
    obtain ⟨A0, A1⟩ := gK_le k
    obtain ⟨J0, J1⟩ := jK_le k
    by_cases hlt : k < 256
    · have K1 := fun wr (hg : GlobO wr) => KK.out (k : Int) wr hg (by omega) (by omega)
      obtain ⟨jn, jg⟩ := jam_names (k : Int) (by omega) (by omega)
      have hpair := good_pair k t hlt (by omega)
      have hG := gK_succ k
      have hJ := jK_succ k
      have hn1 := nameV_list (k : Int)
      have hn2 := nameV_list (t : Int)
      rw [← hn1] at jn
      rw [← hn1, ← hn2] at hpair
      rw [decC_list] at K1
      unfold opC at K1
      clear hn1 hn2 Q0
      generalize nameV (k : Int) = nm at *
      generalize modeL (k : Int) = m at *
      generalize useL (k : Int) = u at *
      generalize cyL (k : Int) = c at *
      generalize crL (k : Int) = x at *
      generalize goodL (k : Int) = g at *
      generalize nameV (t : Int) = nA at *
      generalize modeL (t : Int) = mA at *
      generalize useL (t : Int) = uA at *
      generalize cyL (t : Int) = cA at *
      generalize crL (t : Int) = xA at *
      generalize goodL (t : Int) = gA at *
      have Q1 := Lib.hid K1
      clear K1
      have HG := Lib.hid hG
      have HJ := Lib.hid hJ
      clear hG hJ
      generalize gK k = A at *
      generalize jK k = J at *
      cases hm : (m == 20)
      · rw [hm] at jn
        cases g
        · clear jg hpair
          by_cases hkt : k = t
          · have e1 : ((k : Int) != (t : Int)) = false := by simp; omega
            clear hkt
            go_wp2_with (first
              | (go_at_call 8; (with_reducible refine (Q1.out _ (GG.out.mem H)).mono ?_); rintro e w2 ⟨rfl, hB⟩; replace H := H.next hB; clear hB)
              | (refine gate_store _ _ _ rfl ?_; (refine wpList_mstoreA rfl _ _ _ rfl rfl _ rfl 0 H _ _ rfl rfl (by kernel_rfl) (by kernel_rfl) (by kernel_rfl) ?_); clear H; intro w1 H; simp only [List.set_cons_zero, List.set_cons_succ] at H; have x0 := H.cell (i := 0) (j := 0) rfl rfl; have x1 := H.cell (i := 0) (j := 1) rfl rfl; have x2 := H.cell (i := 0) (j := 2) rfl rfl; have x3 := H.cell (i := 0) (j := 3) rfl rfl; have x4 := H.cell (i := 0) (j := 4) rfl rfl; have x5 := H.cell (i := 0) (j := 5) rfl rfl; have y0 := H.cell (i := 1) (j := 0) rfl rfl; have y1 := H.cell (i := 1) (j := 1) rfl rfl; have y2 := H.cell (i := 1) (j := 2) rfl rfl; have y3 := H.cell (i := 1) (j := 3) rfl rfl; have y4 := H.cell (i := 1) (j := 4) rfl rfl; have y5 := H.cell (i := 1) (j := 5) rfl rfl)
              | (refine wpList_mnew rfl _ rfl H _ HZ.out ?_; clear H; intro R7 w1 _ H) | fail)
            go_roundw
            case rel => exact ⟨k + 1, by omega, by go_num, by rw [HG.out]; simp, by rw [HJ.out]; simp [hm], H.sub (List.Sublist.cons _ (List.Sublist.refl _))⟩
            case measure => simp [intOf]; omega
          · have e1 : ((k : Int) != (t : Int)) = true := by simp; omega
            go_wp2_with (first
              | (go_at_call 8; (with_reducible refine (Q1.out _ (GG.out.mem H)).mono ?_); rintro e w2 ⟨rfl, hB⟩; replace H := H.next hB; clear hB)
              | (refine gate_store _ _ _ rfl ?_; (refine wpList_mstoreA rfl _ _ _ rfl rfl _ rfl 0 H _ _ rfl rfl (by kernel_rfl) (by kernel_rfl) (by kernel_rfl) ?_); clear H; intro w1 H; simp only [List.set_cons_zero, List.set_cons_succ] at H; have x0 := H.cell (i := 0) (j := 0) rfl rfl; have x1 := H.cell (i := 0) (j := 1) rfl rfl; have x2 := H.cell (i := 0) (j := 2) rfl rfl; have x3 := H.cell (i := 0) (j := 3) rfl rfl; have x4 := H.cell (i := 0) (j := 4) rfl rfl; have x5 := H.cell (i := 0) (j := 5) rfl rfl; have y0 := H.cell (i := 1) (j := 0) rfl rfl; have y1 := H.cell (i := 1) (j := 1) rfl rfl; have y2 := H.cell (i := 1) (j := 2) rfl rfl; have y3 := H.cell (i := 1) (j := 3) rfl rfl; have y4 := H.cell (i := 1) (j := 4) rfl rfl; have y5 := H.cell (i := 1) (j := 5) rfl rfl)
              | (refine wpList_mnew rfl _ rfl H _ HZ.out ?_; clear H; intro R7 w1 _ H) | fail)
            go_roundw
            case rel => exact ⟨k + 1, by omega, by go_num, by rw [HG.out]; simp, by rw [HJ.out]; simp [hm], H.sub (List.Sublist.cons _ (List.Sublist.refl _))⟩
            case measure => simp [intOf]; omega
        · clear jg
          by_cases hkt : k = t
          · have e1 : ((k : Int) != (t : Int)) = false := by simp; omega
            clear hpair hkt
            go_wp2_with (first
              | (go_at_call 8; (with_reducible refine (Q1.out _ (GG.out.mem H)).mono ?_); rintro e w2 ⟨rfl, hB⟩; replace H := H.next hB; clear hB)
              | (refine gate_store _ _ _ rfl ?_; (refine wpList_mstoreA rfl _ _ _ rfl rfl _ rfl 0 H _ _ rfl rfl (by kernel_rfl) (by kernel_rfl) (by kernel_rfl) ?_); clear H; intro w1 H; simp only [List.set_cons_zero, List.set_cons_succ] at H; have x0 := H.cell (i := 0) (j := 0) rfl rfl; have x1 := H.cell (i := 0) (j := 1) rfl rfl; have x2 := H.cell (i := 0) (j := 2) rfl rfl; have x3 := H.cell (i := 0) (j := 3) rfl rfl; have x4 := H.cell (i := 0) (j := 4) rfl rfl; have x5 := H.cell (i := 0) (j := 5) rfl rfl; have y0 := H.cell (i := 1) (j := 0) rfl rfl; have y1 := H.cell (i := 1) (j := 1) rfl rfl; have y2 := H.cell (i := 1) (j := 2) rfl rfl; have y3 := H.cell (i := 1) (j := 3) rfl rfl; have y4 := H.cell (i := 1) (j := 4) rfl rfl; have y5 := H.cell (i := 1) (j := 5) rfl rfl)
              | (refine wpList_mnew rfl _ rfl H _ HZ.out ?_; clear H; intro R7 w1 _ H) | fail)
            go_roundw
            case rel => exact ⟨k + 1, by omega, by go_num, by rw [HG.out]; rfl, by rw [HJ.out]; simp [hm], H.sub (List.Sublist.cons _ (List.Sublist.refl _))⟩
            case measure => simp [intOf]; omega
          · have e1 : ((k : Int) != (t : Int)) = true := by simp; omega
            cases gA
            · clear hpair
              go_wp2_with (first
                | (go_at_call 8; (with_reducible refine (Q1.out _ (GG.out.mem H)).mono ?_); rintro e w2 ⟨rfl, hB⟩; replace H := H.next hB; clear hB)
                | (refine gate_store _ _ _ rfl ?_; (refine wpList_mstoreA rfl _ _ _ rfl rfl _ rfl 0 H _ _ rfl rfl (by kernel_rfl) (by kernel_rfl) (by kernel_rfl) ?_); clear H; intro w1 H; simp only [List.set_cons_zero, List.set_cons_succ] at H; have x0 := H.cell (i := 0) (j := 0) rfl rfl; have x1 := H.cell (i := 0) (j := 1) rfl rfl; have x2 := H.cell (i := 0) (j := 2) rfl rfl; have x3 := H.cell (i := 0) (j := 3) rfl rfl; have x4 := H.cell (i := 0) (j := 4) rfl rfl; have x5 := H.cell (i := 0) (j := 5) rfl rfl; have y0 := H.cell (i := 1) (j := 0) rfl rfl; have y1 := H.cell (i := 1) (j := 1) rfl rfl; have y2 := H.cell (i := 1) (j := 2) rfl rfl; have y3 := H.cell (i := 1) (j := 3) rfl rfl; have y4 := H.cell (i := 1) (j := 4) rfl rfl; have y5 := H.cell (i := 1) (j := 5) rfl rfl)
                | (refine wpList_mnew rfl _ rfl H _ HZ.out ?_; clear H; intro R7 w1 _ H) | fail)
              go_roundw
              case rel => exact ⟨k + 1, by omega, by go_num, by rw [HG.out]; rfl, by rw [HJ.out]; simp [hm], H.sub (List.Sublist.cons _ (List.Sublist.refl _))⟩
              case measure => simp [intOf]; omega
            · cases hn : (nm.toList == nA.toList)
              · clear hpair
                go_wp2_with (first
                  | (go_at_call 8; (with_reducible refine (Q1.out _ (GG.out.mem H)).mono ?_); rintro e w2 ⟨rfl, hB⟩; replace H := H.next hB; clear hB)
                  | (refine gate_store _ _ _ rfl ?_; (refine wpList_mstoreA rfl _ _ _ rfl rfl _ rfl 0 H _ _ rfl rfl (by kernel_rfl) (by kernel_rfl) (by kernel_rfl) ?_); clear H; intro w1 H; simp only [List.set_cons_zero, List.set_cons_succ] at H; have x0 := H.cell (i := 0) (j := 0) rfl rfl; have x1 := H.cell (i := 0) (j := 1) rfl rfl; have x2 := H.cell (i := 0) (j := 2) rfl rfl; have x3 := H.cell (i := 0) (j := 3) rfl rfl; have x4 := H.cell (i := 0) (j := 4) rfl rfl; have x5 := H.cell (i := 0) (j := 5) rfl rfl; have y0 := H.cell (i := 1) (j := 0) rfl rfl; have y1 := H.cell (i := 1) (j := 1) rfl rfl; have y2 := H.cell (i := 1) (j := 2) rfl rfl; have y3 := H.cell (i := 1) (j := 3) rfl rfl; have y4 := H.cell (i := 1) (j := 4) rfl rfl; have y5 := H.cell (i := 1) (j := 5) rfl rfl)
                  | (refine wpList_mnew rfl _ rfl H _ HZ.out ?_; clear H; intro R7 w1 _ H) | fail)
                go_roundw
                case rel => exact ⟨k + 1, by omega, by go_num, by rw [HG.out]; rfl, by rw [HJ.out]; simp [hm], H.sub (List.Sublist.cons _ (List.Sublist.refl _))⟩
                case measure => simp [intOf]; omega
              · have e2 : (m == mA) = false := by
                  have := hpair rfl rfl hkt (by simpa using hn)
                  simpa using this
                clear hpair
                go_wp2_with (first
                  | (go_at_call 8; (with_reducible refine (Q1.out _ (GG.out.mem H)).mono ?_); rintro e w2 ⟨rfl, hB⟩; replace H := H.next hB; clear hB)
                  | (refine gate_store _ _ _ rfl ?_; (refine wpList_mstoreA rfl _ _ _ rfl rfl _ rfl 0 H _ _ rfl rfl (by kernel_rfl) (by kernel_rfl) (by kernel_rfl) ?_); clear H; intro w1 H; simp only [List.set_cons_zero, List.set_cons_succ] at H; have x0 := H.cell (i := 0) (j := 0) rfl rfl; have x1 := H.cell (i := 0) (j := 1) rfl rfl; have x2 := H.cell (i := 0) (j := 2) rfl rfl; have x3 := H.cell (i := 0) (j := 3) rfl rfl; have x4 := H.cell (i := 0) (j := 4) rfl rfl; have x5 := H.cell (i := 0) (j := 5) rfl rfl; have y0 := H.cell (i := 1) (j := 0) rfl rfl; have y1 := H.cell (i := 1) (j := 1) rfl rfl; have y2 := H.cell (i := 1) (j := 2) rfl rfl; have y3 := H.cell (i := 1) (j := 3) rfl rfl; have y4 := H.cell (i := 1) (j := 4) rfl rfl; have y5 := H.cell (i := 1) (j := 5) rfl rfl)
                  | (refine wpList_mnew rfl _ rfl H _ HZ.out ?_; clear H; intro R7 w1 _ H) | fail)
                go_roundw
                case rel => exact ⟨k + 1, by omega, by go_num, by rw [HG.out]; rfl, by rw [HJ.out]; simp [hm], H.sub (List.Sublist.cons _ (List.Sublist.refl _))⟩
                case measure => simp [intOf]; omega
      · rw [hm] at jn
        obtain rfl : g = false := by
          cases g
          · rfl
          · exact absurd (by simpa using hm) (jg rfl)
        clear jg hpair
        by_cases hkt : k = t
        · have e1 : ((k : Int) != (t : Int)) = false := by simp; omega
          clear hkt
          go_wp2_with (first
            | (go_at_call 8; (with_reducible refine (Q1.out _ (GG.out.mem H)).mono ?_); rintro e w2 ⟨rfl, hB⟩; replace H := H.next hB; clear hB)
            | (refine gate_store _ _ _ rfl ?_; (refine wpList_mstoreA rfl _ _ _ rfl rfl _ rfl 0 H _ _ rfl rfl (by kernel_rfl) (by kernel_rfl) (by kernel_rfl) ?_); clear H; intro w1 H; simp only [List.set_cons_zero, List.set_cons_succ] at H; have x0 := H.cell (i := 0) (j := 0) rfl rfl; have x1 := H.cell (i := 0) (j := 1) rfl rfl; have x2 := H.cell (i := 0) (j := 2) rfl rfl; have x3 := H.cell (i := 0) (j := 3) rfl rfl; have x4 := H.cell (i := 0) (j := 4) rfl rfl; have x5 := H.cell (i := 0) (j := 5) rfl rfl; have y0 := H.cell (i := 1) (j := 0) rfl rfl; have y1 := H.cell (i := 1) (j := 1) rfl rfl; have y2 := H.cell (i := 1) (j := 2) rfl rfl; have y3 := H.cell (i := 1) (j := 3) rfl rfl; have y4 := H.cell (i := 1) (j := 4) rfl rfl; have y5 := H.cell (i := 1) (j := 5) rfl rfl)
            | (refine wpList_mnew rfl _ rfl H _ HZ.out ?_; clear H; intro R7 w1 _ H) | fail)
          go_roundw
          case rel => exact ⟨k + 1, by omega, by go_num, by rw [HG.out]; simp, by rw [HJ.out]; simp [hm], H.sub (List.Sublist.cons _ (List.Sublist.refl _))⟩
          case measure => simp [intOf]; omega
        · have e1 : ((k : Int) != (t : Int)) = true := by simp; omega
          go_wp2_with (first
            | (go_at_call 8; (with_reducible refine (Q1.out _ (GG.out.mem H)).mono ?_); rintro e w2 ⟨rfl, hB⟩; replace H := H.next hB; clear hB)
            | (refine gate_store _ _ _ rfl ?_; (refine wpList_mstoreA rfl _ _ _ rfl rfl _ rfl 0 H _ _ rfl rfl (by kernel_rfl) (by kernel_rfl) (by kernel_rfl) ?_); clear H; intro w1 H; simp only [List.set_cons_zero, List.set_cons_succ] at H; have x0 := H.cell (i := 0) (j := 0) rfl rfl; have x1 := H.cell (i := 0) (j := 1) rfl rfl; have x2 := H.cell (i := 0) (j := 2) rfl rfl; have x3 := H.cell (i := 0) (j := 3) rfl rfl; have x4 := H.cell (i := 0) (j := 4) rfl rfl; have x5 := H.cell (i := 0) (j := 5) rfl rfl; have y0 := H.cell (i := 1) (j := 0) rfl rfl; have y1 := H.cell (i := 1) (j := 1) rfl rfl; have y2 := H.cell (i := 1) (j := 2) rfl rfl; have y3 := H.cell (i := 1) (j := 3) rfl rfl; have y4 := H.cell (i := 1) (j := 4) rfl rfl; have y5 := H.cell (i := 1) (j := 5) rfl rfl)
            | (refine wpList_mnew rfl _ rfl H _ HZ.out ?_; clear H; intro R7 w1 _ H) | fail)
          go_roundw
          case rel => exact ⟨k + 1, by omega, by go_num, by rw [HG.out]; simp, by rw [HJ.out]; simp [hm], H.sub (List.Sublist.cons _ (List.Sublist.refl _))⟩
          case measure => simp [intOf]; omega
    · obtain rfl : k = 256 := by omega
      have e1 : gK 256 = 151 := by unfold gK; rw [good_151]; rfl
      have e2 : jK 256 = 12 := by unfold jK; rw [jam_12]; rfl
      rw [e1, e2]
      go_wp2_with (first
        | (go_at_call 12; (with_reducible refine (QA.out _ (GG.out.mem H)).mono ?_); rintro e w2 ⟨rfl, hB⟩; replace H := H.next hB; clear hB) | fail)
      go_ret
      exact ⟨rfl, H.toBelow⟩
end Go.Proofs.YtddeakcipmhobaaDoor
