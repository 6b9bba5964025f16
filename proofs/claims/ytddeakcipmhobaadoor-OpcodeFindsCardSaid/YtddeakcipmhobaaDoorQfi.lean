/-
  The opcode of a name and a mode, as the program's Find tells it. Over this seat's translation.
-/
import Derived.Test.YtddeakcipmhobaaDoorQfa
import Derived.Test.YtddeakcipmhobaaDoorOlt
namespace Go.Proofs.YtddeakcipmhobaaDoor
open Go.RowKit
set_option linter.unusedSimpArgs false
set_option linter.unusedVariables false
set_option maxRecDepth 20000

def goodN (n : Nat) : Bool := goodL (n : Int)
def ofM (m : Int) (L : List Nat) : List Nat := L.filter fun n : Nat => modeL (n : Int) == m
/-- The first one that is official, or the first one. -/
def bestN (M : List Nat) : Nat := ((M.find? goodN).getD (M.headD 0))
def findE (M : List Nat) : Int := if M.isEmpty = true then 2 else 0
/-- What is known when j of them have been looked at. -/
def FindI (m : Int) (L : List Nat) (j : Nat) (F : Nat) (E : Int) : Prop :=
  (∀ x ∈ ofM m (L.take j), goodN x = false) ∧ ((ofM m (L.take j) = [] ∧ F = 0 ∧ E = 2) ∨ (∃ y t, ofM m (L.take j) = y :: t ∧ F = y ∧ E = 0))
theorem ofM_take (m : Int) (L : List Nat) (j x : Nat) (hx : L[j]? = some x) : ofM m (L.take (j + 1)) = ofM m (L.take j) ++ (if (modeL (x : Int) == m) = true then [x] else []) := by
  unfold ofM
  rw [List.take_add_one, hx, List.filter_append]
  by_cases h : (modeL (x : Int) == m) = true
  · simp [h]
  · simp [h]
theorem FindI.zero (m : Int) (L : List Nat) : FindI m L 0 0 2 := ⟨fun x hx => by simp [ofM] at hx, .inl ⟨by simp [ofM], rfl, rfl⟩⟩
theorem FindI.skip {m : Int} {L : List Nat} {j F : Nat} {E : Int} (h : FindI m L j F E) {x : Nat} (hx : L[j]? = some x) (hm : (modeL (x : Int) == m) = false) : FindI m L (j + 1) F E := by
  unfold FindI at h ⊢
  rw [ofM_take m L j x hx, hm]
  simpa using h
theorem FindI.first {m : Int} {L : List Nat} {j F : Nat} (h : FindI m L j F 2) {x : Nat} (hx : L[j]? = some x) (hm : (modeL (x : Int) == m) = true) (hg : goodN x = false) : FindI m L (j + 1) x 0 := by
  unfold FindI at h ⊢
  rw [ofM_take m L j x hx, hm, if_pos rfl]
  rcases h.2 with ⟨h0, _, _⟩ | ⟨_, _, _, _, h2⟩
  · rw [h0]
    exact ⟨fun y hy => by simp at hy; subst hy; exact hg, .inr ⟨x, [], rfl, rfl, rfl⟩⟩
  · cases h2
theorem FindI.more {m : Int} {L : List Nat} {j F : Nat} (h : FindI m L j F 0) {x : Nat} (hx : L[j]? = some x) (hm : (modeL (x : Int) == m) = true) (hg : goodN x = false) : FindI m L (j + 1) F 0 := by
  unfold FindI at h ⊢
  rw [ofM_take m L j x hx, hm, if_pos rfl]
  rcases h.2 with ⟨_, _, h2⟩ | ⟨y, t, h0, h1, _⟩
  · cases h2
  · refine ⟨fun z hz => ?_, .inr ⟨y, t ++ [x], by rw [h0]; rfl, h1, rfl⟩⟩
    rcases List.mem_append.1 hz with hz | hz
    · exact h.1 z hz
    · simp at hz; subst hz; exact hg
theorem FindI.end_ {m : Int} {L : List Nat} {F : Nat} {E : Int} (h : FindI m L L.length F E) : F = bestN (ofM m L) ∧ E = findE (ofM m L) := by
  unfold FindI at h
  rw [List.take_length] at h
  unfold bestN findE
  have hn : (ofM m L).find? goodN = none := List.find?_eq_none.2 fun x hx => by rw [h.1 x hx]; decide
  rw [hn]
  rcases h.2 with ⟨h0, h1, h2⟩ | ⟨y, t, h0, h1, h2⟩
  · rw [h0, h1, h2]; exact ⟨rfl, rfl⟩
  · rw [h0, h1, h2]; exact ⟨rfl, rfl⟩
theorem FindI.good {m : Int} {L : List Nat} {j F : Nat} {E : Int} (h : FindI m L j F E) {x : Nat} (hx : L[j]? = some x) (hm : (modeL (x : Int) == m) = true) (hg : goodN x = true) : bestN (ofM m L) = x ∧ findE (ofM m L) = 0 := by
  have hs : ofM m L = ofM m (L.take j) ++ (x :: ofM m (L.drop (j + 1))) := by
    have hL : L = L.take (j + 1) ++ L.drop (j + 1) := (List.take_append_drop _ _).symm
    have e : ofM m L = ofM m (L.take (j + 1)) ++ ofM m (L.drop (j + 1)) := by
      unfold ofM
      rw [← List.filter_append, ← hL]
    rw [e, ofM_take m L j x hx, hm, if_pos rfl, List.append_assoc]
    rfl
  have hf : (ofM m L).find? goodN = some x := by
    rw [hs, List.find?_append, List.find?_eq_none.2 fun y hy => by rw [h.1 y hy]; decide, List.find?_cons, hg]
    rfl
  unfold bestN findE
  rw [hf, hs]
  refine ⟨rfl, ?_⟩
  rw [if_neg]
  simp
set_option maxHeartbeats 8000000 in
theorem qfind_ct (nm : ByteArray) (m : Int) (w : World) (G : GlobO w) :
    Calls Tryd.prog 14 #[.string nm, .int .i64 m] w fun e w' => e = .returned (.tuple #[.int .u8 (bestN (ofM m (allN nm.toList 256))), .int .i64 (findE (ofM m (allN nm.toList 256)))]) ∧ Below w.heap.size w w' := by
  have QA := Lib.hid (fun wr => qall_ct nm wr)
  have hlt := allN_lt nm.toList 256
  have hle := allN_len nm.toList 256
  generalize allN nm.toList 256 = L at *
  have HL := Lib.hid hlt
  have HZ := Lib.hid alloc_op
  have GG := Lib.hid G
  clear G hlt
  have H := Mem.start w
  go_enter Tryd.func14, Tryd.ntmps14
  go_wp2_with (first
    | (go_at_call 13; (with_reducible refine (QA.out _).mono ?_); intro e w2 hB; obtain ⟨v, blk, rfl, hA, hm⟩ := hB; replace H := H.join hm; rw [List.append_nil] at H; clear hm; obtain ⟨b, cap, rfl, hcap⟩ := hA.shape; have HA := Lib.hid hA; clear hA)
    | fail)
  go_loopw [6, 7, 14] (fun f e i wr => ∃ (j F : Nat) (E : Int), j ≤ L.length ∧ i = .int .i64 j ∧ f = .int .u8 F ∧ e = .int .i64 E ∧ Hid (FindI m L j F E) ∧ Mem w.heap.size [] w wr blk) (fun _ _ i _ => L.length - (intOf i).toNat)
  case atStart => exact ⟨0, 0, 2, Nat.zero_le _, rfl, rfl, rfl, FindI.zero m L, H⟩
  case round =>
    clear H QA
    obtain ⟨j, F, E, hj, rfl, rfl, rfl, hI, H⟩ := hrel
    by_cases hlt : j < L.length
    · obtain ⟨x, hx⟩ : ∃ x, L[j]? = some x := ⟨L[j], List.getElem?_eq_getElem hlt⟩
      have hx256 := HL.out x (List.mem_of_getElem? hx)
      obtain ⟨R, cs, cap', ev, rfl, hc1, hc2, hat⟩ := HA.out.elem u8c_len j x hx
      injection ev with e1 e2 e3
      subst e1 e3
      have hcell : wr.cell? ⟨R, j, none⟩ = some (.int .u8 (x : Int)) := H.cell (i := 0) rfl (by have := hat 0 _ rfl; simpa using this)
      have K1 := fun wq (hg : GlobO wq) => kdec (x : Int) wq hg (by omega) (by omega)
      rw [decC_list] at K1
      unfold opC at K1
      have HX := Lib.hid hx
      clear hat hx
      have hg0 : goodN x = goodL (x : Int) := rfl
      cases hm : (modeL (x : Int) == m)
      · have hn := Lib.hid (hI.out.skip HX.out hm)
        have hm2 : (modeL (x : Int) != m) = true := by rw [bne, hm]; rfl
        clear hI hg0
        generalize nameV (x : Int) = nx at *
        generalize modeL (x : Int) = mx at *
        generalize useL (x : Int) = ux at *
        generalize cyL (x : Int) = cx at *
        generalize crL (x : Int) = xx at *
        generalize goodL (x : Int) = gx at *
        have Q1 := Lib.hid K1
        clear K1
        go_wp2_with (first
          | (go_at_call 8; (with_reducible refine (Q1.out _ (GG.out.mem H)).mono ?_); rintro e w2 ⟨rfl, hB⟩; replace H := H.next hB; clear hB)
          | (refine gate_store _ _ _ rfl ?_; (refine wpList_mstoreA rfl _ _ _ rfl rfl _ rfl 0 H _ _ rfl rfl (by kernel_rfl) (by kernel_rfl) (by kernel_rfl) ?_); clear H; intro w1 H; simp only [List.set_cons_zero, List.set_cons_succ] at H; have x1 := H.cell (i := 0) (j := 1) rfl rfl; have x5 := H.cell (i := 0) (j := 5) rfl rfl)
          | (refine wpList_mnew rfl _ rfl H _ HZ.out ?_; clear H; intro R7 w1 _ H) | fail)
        go_roundw
        case rel => exact ⟨j + 1, F, E, by omega, by go_num, rfl, rfl, hn.out, H.sub (List.Sublist.cons _ (List.Sublist.refl _))⟩
        case measure => simp [intOf]; omega
      · have hm2 : (modeL (x : Int) != m) = false := by rw [bne, hm]; rfl
        cases hgx : goodL (x : Int)
        · have hE : E = 2 ∨ E = 0 := by rcases hI.out.2 with ⟨_, _, h⟩ | ⟨_, _, _, _, h⟩; exact .inl h; exact .inr h
          rcases hE with rfl | rfl
          · have hn := Lib.hid (hI.out.first HX.out hm (hg0.trans hgx))
            rw [hgx] at K1
            clear hI hg0
            generalize nameV (x : Int) = nx at *
            generalize modeL (x : Int) = mx at *
            generalize useL (x : Int) = ux at *
            generalize cyL (x : Int) = cx at *
            generalize crL (x : Int) = xx at *
            have Q1 := Lib.hid K1
            clear K1 hgx
            go_wp2_with (first
              | (go_at_call 8; (with_reducible refine (Q1.out _ (GG.out.mem H)).mono ?_); rintro e w2 ⟨rfl, hB⟩; replace H := H.next hB; clear hB)
              | (refine gate_store _ _ _ rfl ?_; (refine wpList_mstoreA rfl _ _ _ rfl rfl _ rfl 0 H _ _ rfl rfl (by kernel_rfl) (by kernel_rfl) (by kernel_rfl) ?_); clear H; intro w1 H; simp only [List.set_cons_zero, List.set_cons_succ] at H; have x1 := H.cell (i := 0) (j := 1) rfl rfl; have x5 := H.cell (i := 0) (j := 5) rfl rfl)
              | (refine wpList_mnew rfl _ rfl H _ HZ.out ?_; clear H; intro R7 w1 _ H) | fail)
            go_roundw
            case rel => exact ⟨j + 1, x, 0, by omega, by go_num, rfl, rfl, hn.out, H.sub (List.Sublist.cons _ (List.Sublist.refl _))⟩
            case measure => simp [intOf]; omega
          · have hn := Lib.hid (hI.out.more HX.out hm (hg0.trans hgx))
            rw [hgx] at K1
            clear hI hg0
            generalize nameV (x : Int) = nx at *
            generalize modeL (x : Int) = mx at *
            generalize useL (x : Int) = ux at *
            generalize cyL (x : Int) = cx at *
            generalize crL (x : Int) = xx at *
            have Q1 := Lib.hid K1
            clear K1 hgx
            go_wp2_with (first
              | (go_at_call 8; (with_reducible refine (Q1.out _ (GG.out.mem H)).mono ?_); rintro e w2 ⟨rfl, hB⟩; replace H := H.next hB; clear hB)
              | (refine gate_store _ _ _ rfl ?_; (refine wpList_mstoreA rfl _ _ _ rfl rfl _ rfl 0 H _ _ rfl rfl (by kernel_rfl) (by kernel_rfl) (by kernel_rfl) ?_); clear H; intro w1 H; simp only [List.set_cons_zero, List.set_cons_succ] at H; have x1 := H.cell (i := 0) (j := 1) rfl rfl; have x5 := H.cell (i := 0) (j := 5) rfl rfl)
              | (refine wpList_mnew rfl _ rfl H _ HZ.out ?_; clear H; intro R7 w1 _ H) | fail)
            go_roundw
            case rel => exact ⟨j + 1, F, 0, by omega, by go_num, rfl, rfl, hn.out, H.sub (List.Sublist.cons _ (List.Sublist.refl _))⟩
            case measure => simp [intOf]; omega
        · obtain ⟨r1, r2⟩ := hI.out.good HX.out hm (hg0.trans hgx)
          have hr1 := Lib.hid r1
          have hr2 := Lib.hid r2
          rw [hgx] at K1
          clear hI hg0 r1 r2
          generalize nameV (x : Int) = nx at *
          generalize modeL (x : Int) = mx at *
          generalize useL (x : Int) = ux at *
          generalize cyL (x : Int) = cx at *
          generalize crL (x : Int) = xx at *
          have Q1 := Lib.hid K1
          clear K1 hgx
          go_wp2_with (first
            | (go_at_call 8; (with_reducible refine (Q1.out _ (GG.out.mem H)).mono ?_); rintro e w2 ⟨rfl, hB⟩; replace H := H.next hB; clear hB)
            | (refine gate_store _ _ _ rfl ?_; (refine wpList_mstoreA rfl _ _ _ rfl rfl _ rfl 0 H _ _ rfl rfl (by kernel_rfl) (by kernel_rfl) (by kernel_rfl) ?_); clear H; intro w1 H; simp only [List.set_cons_zero, List.set_cons_succ] at H; have x1 := H.cell (i := 0) (j := 1) rfl rfl; have x5 := H.cell (i := 0) (j := 5) rfl rfl)
            | (refine wpList_mnew rfl _ rfl H _ HZ.out ?_; clear H; intro R7 w1 _ H) | fail)
          go_ret2
          exact ⟨by rw [hr1.out, hr2.out]; rfl, H.toBelow⟩
    · obtain rfl : j = L.length := by omega
      obtain ⟨r1, r2⟩ := hI.out.end_
      have hr1 := Lib.hid r1
      have hr2 := Lib.hid r2
      clear r1 r2 hI
      go_wp2
      go_ret2
      exact ⟨by rw [← hr1.out, ← hr2.out]; rfl, H.toBelow⟩
end Go.Proofs.YtddeakcipmhobaaDoor
