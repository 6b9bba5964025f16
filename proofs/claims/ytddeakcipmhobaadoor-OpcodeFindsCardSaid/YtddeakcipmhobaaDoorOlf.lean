/-
  The walk of OpcodeFinds. Over this seat's translation.
-/
import Derived.Test.YtddeakcipmhobaaDoorQfi
namespace Go.Proofs.YtddeakcipmhobaaDoor
open Go.RowKit
set_option linter.unusedSimpArgs false
set_option linter.unusedVariables false
set_option maxRecDepth 20000

theorem Mem.cellMid {n : Nat} {X : List Nat} {w0 w : World} {l l' : List (Nat × Array Value)} {R : Nat} {cs : Array Value} (h : Mem n X w0 w (l ++ (R, cs) :: l')) {j : Nat} {v : Value} (hj : cs[j]? = some v) : w.cell? ⟨R, j, none⟩ = some v :=
  h.cell (i := l.length) (by simp) hj
theorem ofM_lt (m : Int) (L : List Nat) (b : Nat) (h : ∀ x ∈ L, x < b) : ∀ x ∈ ofM m L, x < b := fun x hx => h x (List.mem_filter.1 hx).1
theorem ofM_len (m : Int) (L : List Nat) : (ofM m L).length ≤ L.length := List.length_filter_le _ _
theorem ofM_snoc_yes (m : Int) (L : List Nat) (x : Nat) (h : (modeL (x : Int) == m) = true) : ofM m (L ++ [x]) = ofM m L ++ [x] := by
  unfold ofM; rw [List.filter_append]; simp [h]
theorem ofM_snoc_no (m : Int) (L : List Nat) (x : Nat) (h : (modeL (x : Int) == m) = false) : ofM m (L ++ [x]) = ofM m L := by
  unfold ofM; rw [List.filter_append]; simp [h]
/-- What is the best one of those from place q on. -/
def bestF (M : List Nat) (q : Nat) : Nat := (((M.drop q).find? goodN).getD (M.headD 0))
theorem bestF_end (M : List Nat) : bestF M M.length = M.headD 0 := by unfold bestF; rw [List.drop_length]; rfl
theorem bestF_all (M : List Nat) : bestF M 0 = bestN M := rfl
theorem bestF_yes (M : List Nat) (p x : Nat) (hx : M[p]? = some x) (hg : goodN x = true) : bestF M p = x := by
  unfold bestF
  obtain ⟨hp, e⟩ := List.getElem?_eq_some_iff.1 hx
  rw [List.drop_eq_getElem_cons hp, e, List.find?_cons, hg]
  rfl
theorem bestF_no (M : List Nat) (p x : Nat) (hx : M[p]? = some x) (hg : goodN x = false) : bestF M p = bestF M (p + 1) := by
  unfold bestF
  obtain ⟨hp, e⟩ := List.getElem?_eq_some_iff.1 hx
  rw [List.drop_eq_getElem_cons hp, e, List.find?_cons, hg]
theorem field_op5 (nm : ByteArray) (m u c : Int) (x g : Bool) (w : World) : (Instr.field 23 (.agg #[.string nm, .int .i64 m, .int .i64 u, .int .i64 c, .bool x, .bool g]) 5).run Tryd.prog w = .ok (.bool g) w := by kernel_rfl
set_option maxHeartbeats 16000000 in
theorem ofinds_walk (s : ByteArray) (m : Int) (w : World) (G : GlobO w) : Calls Tryd.prog 4 #[.string s, .int .i64 m] w fun e w' => e = .returned (.bool true) ∧ Below w.heap.size w w' := by
  have QA := Lib.hid (fun wr (hg : GlobO wr) => oawake_ct kdec wr hg)
  have QL := Lib.hid (fun wr => qall_ct s wr)
  have QF := Lib.hid (fun wr (hg : GlobO wr) => qfind_ct s m wr hg)
  have KD : Hid (∀ (k : Nat) (wr : World), k < 256 → Calls Tryd.prog 9 #[.int .u8 k] wr fun e w' => e = .returned (.agg #[.string (nameV k), .int .i64 (modeL k), .int .i64 (useL k), .int .i64 (cyL k), .bool (crL k), .bool (goodL k)]) ∧ Below wr.heap.size wr w') := by
    intro k wr hk
    have K1 := rdec_ct (k : Int) wr (by omega) (by omega)
    rw [decC_list] at K1
    unfold opC at K1
    exact K1
  have HZ := Lib.hid alloc_op
  have GG := Lib.hid G
  clear G
  have H := Mem.start w
  go_enter Tryd.func4, Tryd.ntmps4
  go_wp2_with fail
  go_loopw [5, 6, 7] (fun a b i wr => ∃ k : Nat, k ≤ 256 ∧ i = .int .i64 k ∧ ∃ ba bb, Hid (RowAt u8c 1 a (allN s.toList k) ba) ∧ Hid (RowAt u8c 1 b (ofM m (allN s.toList k)) bb) ∧ Mem w.heap.size [] w wr (ba ++ bb)) (fun _ _ i _ => 256 - (intOf i).toNat)
  case atStart => exact ⟨0, Nat.zero_le _, rfl, [], [], RowAt.nil, RowAt.nil, H⟩
  case round =>
    clear H
    obtain ⟨k, hk, rfl, ba, bb, HA, HB, H⟩ := hrel
    have hl1 := allN_len s.toList k
    have hl2 := ofM_len m (allN s.toList k)
    by_cases hlt : k < 256
    · have Q1 := Lib.hid (fun wr => KD.out k wr hlt)
      clear KD
      cases hq : ((nameV (k : Int)).toList == s.toList)
      · have hn := Lib.hid (allN_no s.toList k (by rw [← nameV_list]; exact hq))
        generalize nameV (k : Int) = nx at *
        generalize modeL (k : Int) = mx at *
        generalize useL (k : Int) = ux at *
        generalize cyL (k : Int) = cx at *
        generalize crL (k : Int) = xx at *
        generalize goodL (k : Int) = gx at *
        go_wp2_with (first
          | (go_at_call 9; (with_reducible refine (Q1.out _).mono ?_); rintro e w2 ⟨rfl, hB⟩; replace H := H.next hB; clear hB)
          | (refine gate_store _ _ _ rfl ?_; (refine wpList_mstoreA rfl _ _ _ rfl rfl _ rfl 0 H _ _ rfl rfl (by kernel_rfl) (by kernel_rfl) (by kernel_rfl) ?_); clear H; intro w1 H; simp only [List.set_cons_zero, List.set_cons_succ] at H; have x0 := H.cell (i := 0) (j := 0) rfl rfl; have x1 := H.cell (i := 0) (j := 1) rfl rfl)
          | (refine wpList_mnew rfl _ rfl H _ HZ.out ?_; clear H; intro R7 w1 _ H) | fail)
        go_roundw
        case rel => exact ⟨k + 1, by omega, by go_num, ba, bb, by rw [hn.out]; exact HA, by rw [hn.out]; exact HB, H.sub (List.Sublist.cons _ (List.Sublist.refl _))⟩
        case measure => simp [intOf]; omega
      · have hn := Lib.hid (allN_yes s.toList k (by rw [← nameV_list]; exact hq))
        cases hm : (modeL (k : Int) == m)
        · have ho := Lib.hid (ofM_snoc_no m (allN s.toList k) k hm)
          generalize nameV (k : Int) = nx at *
          generalize modeL (k : Int) = mx at *
          generalize useL (k : Int) = ux at *
          generalize cyL (k : Int) = cx at *
          generalize crL (k : Int) = xx at *
          generalize goodL (k : Int) = gx at *
          go_wp2_with (first
            | (go_at_call 9; (with_reducible refine (Q1.out _).mono ?_); rintro e w2 ⟨rfl, hB⟩; replace H := H.next hB; clear hB)
            | (refine gate_store _ _ _ rfl ?_; (refine wpList_mstoreA rfl _ _ _ rfl rfl _ rfl 0 H _ _ rfl rfl (by kernel_rfl) (by kernel_rfl) (by kernel_rfl) ?_); clear H; intro w1 H; simp only [List.set_cons_zero, List.set_cons_succ] at H; have x0 := H.cell (i := 0) (j := 0) rfl rfl; have x1 := H.cell (i := 0) (j := 1) rfl rfl)
            | (refine wpList_mnew rfl _ rfl H _ HZ.out ?_; clear H; intro R7 w1 _ H)
            | (refine wpList_mrow rfl _ _ _ rfl H _ (by simp only [List.map_toArray, List.map_cons, List.map_nil, Act.eval]; rfl) _ _ (build_o8 k) ?_; clear H; intro R1 w1 H)
            | (refine wpList_mappG rfl _ _ rfl kU8 u8c_len u8c_one HA.out [k] 1 rfl (by decide) (by omega) _ (H.perm (List.Perm.cons _ (List.perm_middle).symm)) rfl rfl rfl ?_; clear H HA; intro v' ba' w1 hA H; have HA := Lib.hid hA; clear hA; have x0 := H.cellMid (j := 0) rfl; have x1 := H.cellMid (j := 1) rfl)
            | fail)
          go_roundw
          case rel => exact ⟨k + 1, by omega, by go_num, ba', bb, by rw [hn.out]; exact HA, by rw [hn.out, ho.out]; exact HB, H.sub (List.Sublist.append (List.Sublist.refl _) (List.Sublist.cons _ (List.Sublist.refl _)))⟩
          case measure => simp [intOf]; omega
        · have M1 : True := trivial
          have ho := Lib.hid (ofM_snoc_yes m (allN s.toList k) k hm)
          generalize nameV (k : Int) = nx at *
          generalize modeL (k : Int) = mx at *
          generalize useL (k : Int) = ux at *
          generalize cyL (k : Int) = cx at *
          generalize crL (k : Int) = xx at *
          generalize goodL (k : Int) = gx at *
          go_wp2_with (first
            | (go_at_call 9; (with_reducible refine (Q1.out _).mono ?_); rintro e w2 ⟨rfl, hB⟩; replace H := H.next hB; clear hB)
            | (refine gate_store _ _ _ rfl ?_; (refine wpList_mstoreA rfl _ _ _ rfl rfl _ rfl 0 H _ _ rfl rfl (by kernel_rfl) (by kernel_rfl) (by kernel_rfl) ?_); clear H; intro w1 H; simp only [List.set_cons_zero, List.set_cons_succ] at H; have x0 := H.cell (i := 0) (j := 0) rfl rfl; have x1 := H.cell (i := 0) (j := 1) rfl rfl)
            | (refine wpList_mnew rfl _ rfl H _ HZ.out ?_; clear H; intro R7 w1 _ H)
            | (refine wpList_mrow rfl _ _ _ rfl H _ (by simp only [List.map_toArray, List.map_cons, List.map_nil, Act.eval]; rfl) _ _ (build_o8 k) ?_; clear H; intro R1 w1 H)
            | (clear M1; refine wpList_mappG rfl _ _ rfl kU8 u8c_len u8c_one HA.out [k] 1 rfl (by decide) (by omega) _ (H.perm (List.Perm.cons _ (List.perm_middle).symm)) rfl rfl rfl ?_; clear H HA; intro v' ba' w1 hA H; have HA := Lib.hid hA; clear hA; have x0 := H.cellMid (j := 0) rfl; have x1 := H.cellMid (j := 1) rfl)
            | (refine wpList_mappG (l := ba' ++ [(R7, #[.string nx, .int .i64 mx, .int .i64 ux, .int .i64 cx, .bool xx, .bool gx])]) rfl _ _ rfl kU8 u8c_len u8c_one HB.out [k] 1 rfl (by decide) (by omega) _ (H.perm (List.Perm.cons _ (by rw [List.append_cons]; exact List.perm_append_comm))) rfl rfl rfl ?_; clear H HB; intro v'' bb' w1 hB H; have HB := Lib.hid hB; clear hB)
            | fail)
          go_roundw
          case rel => exact ⟨k + 1, by omega, by go_num, ba', bb', by rw [hn.out]; exact HA, by rw [hn.out, ho.out]; exact HB, (H.perm List.perm_append_comm).sub (List.Sublist.append (List.sublist_append_left _ _) (List.Sublist.refl _))⟩
          case measure => simp [intOf]; omega
    · obtain rfl : k = 256 := by omega
      have hlt1 := allN_lt s.toList 256
      have hlt2 := ofM_lt m _ 256 hlt1
      generalize allN s.toList 256 = L at *
      generalize hM : ofM m L = M at *
      clear hM hlt hk
      have QG := Lib.hid (fun wr => klong ⟨#[]⟩ m 0 0 false false wr)
      have QH := Lib.hid (fun wr => rlong_ct m wr)
      generalize longV m = lo at *
      have hL1 := Lib.hid hlt1
      have hL2 := Lib.hid hlt2
      clear hlt1 hlt2
      obtain ⟨pa, ca, rfl, hca⟩ := HA.out.shape
      obtain ⟨pb, cb, rfl, hcb⟩ := HB.out.shape
      go_wp2_with (first
        | (go_at_call 13; (with_reducible refine (QL.out _).mono ?_); intro e w2 hB; obtain ⟨vl, bl, rfl, hA, hm⟩ := hB; replace H := H.join hm; clear hm; obtain ⟨pl, cl, rfl, hcl⟩ := hA.shape; have HC := Lib.hid hA; clear hA)
        | fail)
      go_loopw [10] (fun i wr => ∃ j : Nat, j ≤ L.length ∧ i = .int .i64 j ∧ Mem w.heap.size [] w wr (bl ++ (ba ++ bb))) (fun i _ => L.length - (intOf i).toNat)
      case atStart => exact ⟨0, Nat.zero_le _, rfl, H⟩
      case round =>
        clear H
        obtain ⟨j, hj, rfl, H⟩ := hrel
        by_cases hlt : j < L.length
        · obtain ⟨x, hx⟩ : ∃ x, L[j]? = some x := ⟨L[j], List.getElem?_eq_getElem hlt⟩
          obtain ⟨R, cs, cap', ev, rfl, hc1, hc2, hat⟩ := HA.out.elem u8c_len j x hx
          injection ev with e1 e2 e3
          subst e1 e3
          obtain ⟨R2, cs2, cap2, ev2, rfl, hd1, hd2, hat2⟩ := HC.out.elem u8c_len j x hx
          injection ev2 with e1 e2 e3
          subst e1 e3
          have hcell : wr.cell? ⟨R2, j, none⟩ = some (.int .u8 (x : Int)) := H.cell (i := 0) rfl (by have := hat2 0 _ rfl; simpa using this)
          have hcell2 : wr.cell? ⟨R, j, none⟩ = some (.int .u8 (x : Int)) := H.cell (i := 1) rfl (by have := hat 0 _ rfl; simpa using this)
          clear hat hat2 hx QL QF QA
          go_wp2_with fail
          go_region
          go_wp2
          go_roundw
          case rel => exact ⟨j + 1, by omega, by go_num, H.next (Below.drew (Below.refl _ _))⟩
          case measure => simp [intOf]; omega
        · obtain rfl : j = L.length := by omega
          clear hcl hca
          rcases HB.out with ⟨e1, rfl, rfl⟩ | ⟨R, cs, cap', ev, rfl, hG⟩
          · injection e1 with e1 e2 e3
            subst e1 e3
            simp only [List.append_nil] at H
            go_wp2_with (first
              | (go_at_call 14; (with_reducible refine (QF.out _ (GG.out.mem H)).mono ?_); rintro e w2 ⟨rfl, hB⟩; replace H := H.next hB; clear hB)
              | (go_at_call 10; (with_reducible refine (QG.out _).mono ?_); rintro e w2 ⟨rfl, hB⟩; replace H := H.next hB; clear hB)
              | (go_at_call 11; (with_reducible refine (QH.out _).mono ?_); rintro e w2 ⟨rfl, hB⟩; replace H := H.next hB; clear hB)
              | (go_at_call 12; (with_reducible refine (QA.out _ (GG.out.mem H)).mono ?_); rintro e w2 ⟨rfl, hB⟩; replace H := H.next hB; clear hB)
              | fail)
            go_ret
            exact ⟨rfl, H.toBelow⟩
          · injection ev with e1 e2 e3
            subst e1 e3
            cases M with
            | nil =>
              go_wp2_with (first
                | (go_at_call 14; (with_reducible refine (QF.out _ (GG.out.mem H)).mono ?_); rintro e w2 ⟨rfl, hB⟩; replace H := H.next hB; clear hB)
                | (go_at_call 10; (with_reducible refine (QG.out _).mono ?_); rintro e w2 ⟨rfl, hB⟩; replace H := H.next hB; clear hB)
                | (go_at_call 11; (with_reducible refine (QH.out _).mono ?_); rintro e w2 ⟨rfl, hB⟩; replace H := H.next hB; clear hB)
                | (go_at_call 12; (with_reducible refine (QA.out _ (GG.out.mem H)).mono ?_); rintro e w2 ⟨rfl, hB⟩; replace H := H.next hB; clear hB)
                | fail)
              go_ret
              exact ⟨rfl, H.toBelow⟩
            | cons y M' =>
              have hn0 : findE (y :: M') = 0 := rfl
              have hat : ∀ (k : Nat) (z : Nat), (y :: M')[k]? = some z → cs[k]? = some (.int .u8 (z : Int)) := fun k z hz => by
                have h2 := hG.at_ (k * 1) (.int .u8 (z : Int)) (by
                  have := flatG_get u8c_len (y :: M') k z hz 0 (by decide)
                  simpa [u8c] using this)
                simpa using h2
              have hc0 : ∀ wr, Mem w.heap.size [] w wr (bl ++ (ba ++ [(R, cs)])) → ∀ (k : Nat) (z : Nat), (y :: M')[k]? = some z → wr.cell? ⟨R, k, none⟩ = some (.int .u8 (z : Int)) := fun wr H k z hz => by
                rw [← List.append_assoc] at H
                exact H.cellMid (hat k z hz)
              have HCC := Lib.hid hc0
              obtain ⟨N, hN0⟩ : ∃ N, N = M'.length := ⟨_, rfl⟩
              have hlen : (y :: M').length = N + 1 := by rw [hN0]; rfl
              have hN : N < 256 := by omega
              have hmx := hG.max
              clear hat hc0 hG HB hcb
              have hbe := bestF_end (y :: M')
              have hba := bestF_all (y :: M')
              have HY := Lib.hid (bestF_yes (y :: M'))
              have HN := Lib.hid (bestF_no (y :: M'))
              have hy0 : (y :: M')[0]? = some y := rfl
              have hhd : (y :: M').headD 0 = y := rfl
              rw [hhd, hlen] at hbe
              generalize (y :: M') = M at *
              clear hN0
              rw [hlen]
              have cell0 := HCC.out _ H 0 y hy0
              have hz0 : ((N : Int) + 1 == 0) = false := by simp; omega
              go_wp2_with (first
                | (go_at_call 14; (with_reducible refine (QF.out _ (GG.out.mem H)).mono ?_); rintro e w2 ⟨rfl, hB⟩; replace H := H.next hB; clear hB cell0; have cell0 := HCC.out _ H 0 y hy0)
                | (go_at_call 10; (with_reducible refine (QG.out _).mono ?_); rintro e w2 ⟨rfl, hB⟩; replace H := H.next hB; clear hB cell0; have cell0 := HCC.out _ H 0 y hy0)
                | (go_at_call 11; (with_reducible refine (QH.out _).mono ?_); rintro e w2 ⟨rfl, hB⟩; replace H := H.next hB; clear hB cell0; have cell0 := HCC.out _ H 0 y hy0)
                | fail)
              clear QF QG QH QL cell0 hy0
              go_loopw [13, 14] (fun b i wr => ∃ q : Nat, q ≤ N + 1 ∧ i = .int .i64 ((q : Int) - 1) ∧ b = .int .u8 (bestF M q : Nat) ∧ Mem w.heap.size [] w wr (bl ++ (ba ++ [(R, cs)]))) (fun _ i _ => (intOf i + 1).toNat)
              case atStart => exact ⟨N + 1, Nat.le_refl _, by go_num, by rw [hbe], H⟩
              case round =>
                clear H hbe
                obtain ⟨q, hq, rfl, rfl, H⟩ := hrel
                cases q with
                | zero =>
                  rw [hba]
                  go_wp2_with (first
                    | (go_at_call 12; (with_reducible refine (QA.out _ (GG.out.mem H)).mono ?_); rintro e w2 ⟨rfl, hB⟩; replace H := H.next hB; clear hB)
                    | fail)
                  go_ret
                  exact ⟨rfl, H.toBelow⟩
                | succ p =>
                  clear hba
                  rw [show ((p + 1 : Nat) : Int) - 1 = p by omega]
                  have hp : p < M.length := by omega
                  obtain ⟨z, hz⟩ : ∃ z, M[p]? = some z := ⟨M[p], List.getElem?_eq_getElem hp⟩
                  have hz256 := hL2.out z (List.mem_of_getElem? hz)
                  have c1 := HCC.out wr H p z hz
                  have Q1 := Lib.hid (fun wr => KD.out z wr hz256)
                  have hg0 : goodN z = goodL (z : Int) := rfl
                  generalize nameV (z : Int) = nx at *
                  generalize modeL (z : Int) = mx at *
                  generalize useL (z : Int) = ux at *
                  generalize cyL (z : Int) = cx at *
                  generalize crL (z : Int) = xx at *
                  cases hgz : goodL (z : Int)
                  · have hn := Lib.hid (HN.out p z hz (hg0.trans hgz))
                    rw [hgz] at Q1
                    clear hg0 hgz hz
                    go_wp2_with (first
                      | (go_at_call 9; (with_reducible refine (Q1.out _).mono ?_); rintro e w2 ⟨rfl, hB⟩; replace H := H.next hB; replace c1 := (hB.cell (World.block_lt_of_cell? _ _ c1)).trans c1; clear hB)
                      | (refine wpList_mfield rfl _ _ _ rfl _ _ rfl (field_op5 _ _ _ _ _ _) ?_)
                      | fail)
                    go_roundw
                    case rel => exact ⟨p, by omega, by go_num, by rw [hn.out], H⟩
                    case measure => simp [intOf]
                  · have hn := Lib.hid (HY.out p z hz (hg0.trans hgz))
                    rw [hgz] at Q1
                    clear hg0 hgz hz
                    go_wp2_with (first
                      | (go_at_call 9; (with_reducible refine (Q1.out _).mono ?_); rintro e w2 ⟨rfl, hB⟩; replace H := H.next hB; replace c1 := (hB.cell (World.block_lt_of_cell? _ _ c1)).trans c1; clear hB)
                      | (refine wpList_mfield rfl _ _ _ rfl _ _ rfl (field_op5 _ _ _ _ _ _) ?_)
                      | fail)
                    go_roundw
                    case rel => exact ⟨p, by omega, by go_num, by rw [hn.out], H⟩
                    case measure => simp [intOf]
end Go.Proofs.YtddeakcipmhobaaDoor
