/-
  The walk of SpriteEight. Over this seat's translation; no condition. (Written by gen_sp.py.)
-/
import Derived.Test.YtphnpahjofacfabSlb
namespace Go.Proofs.Ytphnpahjofacfab
open Go.RowKit Go.Sort
set_option linter.unusedSimpArgs false
set_option linter.unusedVariables false
set_option maxRecDepth 20000

/-- Those of m numbers from k on of which p is so. -/
def fromP (p : Nat → Bool) : Nat → Nat → List Nat
  | 0, _ => []
  | n + 1, k => cond (p k) (k :: fromP p n (k + 1)) (fromP p n (k + 1))
theorem fromS_P (l : List (Int × Bool)) (line : Int) (t : Bool) : ∀ m k, fromS l line t m k = fromP (onS l line t) m k
  | 0, _ => rfl
  | m + 1, k => by rw [fromS, fromP, fromS_P l line t m (k + 1)]
theorem fromP_congr (p q : Nat → Bool) : ∀ m k, (∀ i, k ≤ i → i < k + m → p i = q i) → fromP p m k = fromP q m k
  | 0, _, _ => rfl
  | m + 1, k, h => by rw [fromP, fromP, h k (by omega) (by omega), fromP_congr p q m (k + 1) fun i h1 h2 => h i (by omega) (by omega)]
def inRg (a n i : Nat) : Bool := decide (a ≤ i) && decide (i < a + n)
theorem fromP_range (a n : Nat) (ha : a < 30) (hn : n < 30) : fromP (inRg a n) 64 0 = List.range' a n := by
  have h : ∀ a n : Fin 30, fromP (inRg a.val n.val) 64 0 = List.range' a.val n.val := by decide +kernel
  exact h ⟨a, ha⟩ ⟨n, hn⟩
/-- The bytes when k sprites have their first Y; when m of them, from a on, are on the line. -/
def fy1 (c : Int) (k j : Nat) : Int × Bool := if j % 4 = 0 ∧ j / 4 < k then (c, false) else (0, false)
def fy2 (c line : Int) (a m j : Nat) : Int × Bool := if j % 4 = 0 then (if a ≤ j / 4 ∧ j / 4 < a + m then (line, false) else (c, false)) else (0, false)
theorem fy1_next (c : Int) (k j : Nat) : (if j = 4 * k then (c, (fy1 c k (4 * k)).2) else fy1 c k j) = fy1 c (k + 1) j := by
  have e : (fy1 c k (4 * k)).2 = false := by unfold fy1; split <;> rfl
  rw [e]
  unfold fy1
  by_cases h : j = 4 * k
  · rw [if_pos h, if_pos (by omega)]
  · rw [if_neg h]
    by_cases h2 : j % 4 = 0 ∧ j / 4 < k
    · rw [if_pos h2, if_pos (by omega)]
    · rw [if_neg h2, if_neg (by omega)]
theorem f12 (c line : Int) (a j : Nat) (hj : j < 256) : fy1 c 64 j = fy2 c line a 0 j := by
  unfold fy1 fy2
  by_cases h : j % 4 = 0
  · rw [if_pos (by omega), if_pos h, if_neg (by omega)]
  · rw [if_neg (by omega), if_neg h]
theorem fy2_next (c line : Int) (a m j : Nat) : (if j = 4 * (a + m) then (line, (fy2 c line a m (4 * (a + m))).2) else fy2 c line a m j) = fy2 c line a (m + 1) j := by
  have e : (fy2 c line a m (4 * (a + m))).2 = false := by unfold fy2; split; (split <;> rfl); rfl
  rw [e]
  unfold fy2
  by_cases h : j = 4 * (a + m)
  · rw [if_pos h, if_pos (by omega), if_pos (by omega)]
  · rw [if_neg h]
    by_cases h2 : j % 4 = 0
    · rw [if_pos h2, if_pos h2]
      by_cases h3 : a ≤ j / 4 ∧ j / 4 < a + m
      · rw [if_pos h3, if_pos (by omega)]
      · rw [if_neg h3, if_neg (by omega)]
    · rw [if_neg h2, if_neg h2]
theorem f2_ok (c line : Int) (a m : Nat) (c0 : 0 ≤ c) (c1 : c < 256) (l0 : 0 ≤ line) (l1 : line < 256) : bytS (flS 256 (fy2 c line a m)) := by
  intro k hk
  rw [flS_len] at hk
  rw [flS_nth _ _ _ hk]
  unfold fy2
  split
  · split
    · exact ⟨l0, l1⟩
    · exact ⟨c0, c1⟩
  · exact ⟨by decide, by decide⟩
theorem f2_on (c line : Int) (a m : Nat) (t : Bool) (ha : a < 30) (hm : m < 30) (l0 : 0 ≤ line) (l1 : line < 256) (hc : c = (line + 100) % 256) : onL (flS 256 (fy2 c line a m)) line t = List.range' a m := by
  unfold onL
  rw [fromS_P, ← fromP_range a m ha hm]
  refine fromP_congr _ _ 64 0 fun i _ hi => ?_
  have hh := highS_lt t
  unfold onS yS inRg
  rw [flS_nth _ _ _ (by omega)]
  unfold fy2
  rw [if_pos (by omega), show 4 * i / 4 = i by omega]
  by_cases h : a ≤ i ∧ i < a + m
  · rw [if_pos h, decide_eq_true h.1, decide_eq_true h.2]
    show (decide (0 ≤ line - line) && decide (line - line < highS t)) = true
    simp
    omega
  · rw [if_neg h]
    have e : (decide (a ≤ i) && decide (i < a + m)) = false := by simp; omega
    rw [e]
    show (decide (0 ≤ line - c) && decide (line - c < highS t)) = false
    simp
    omega
theorem f2_sec (c line : Int) (a m : Nat) : secY (flS 256 (fy2 c line a m)) = false := by
  have h : ∀ n k, k + n ≤ 64 → secF (flS 256 (fy2 c line a m)) n k = false := by
    intro n
    induction n with
    | zero => intro k _; rfl
    | succ n ih =>
      intro k hk
      rw [secF, ih (k + 1) (by omega), Bool.or_false, flS_nth _ _ _ (by omega)]
      unfold fy2
      split
      · split <;> rfl
      · rfl
  exact h 64 0 (by omega)
theorem range_at (a n k : Nat) (h : k < n) : (List.range' a n)[k]? = some (a + k) := by
  rw [List.getElem?_range' h]
  simp
attribute [local irreducible] wpList
set_option maxHeartbeats 8000000 in
theorem spriteEight_walk (line many from_ : Int) (tall : Bool) (w : World) (bl : 0 ≤ line ∧ line < 256) (bm : 0 ≤ many ∧ many < 256) (bf : 0 ≤ from_ ∧ from_ < 256) : Calls Try.prog 3 #[.agg #[.int .u8 line, .int .u8 many, .int .u8 from_, .bool tall]] w fun e w' => e = .returned (.bool true) ∧ Below w.heap.size w w' := by
  have QW := Lib.hid (fun wr => awake15_ct wr)
  have HM := Lib.hid make_s256
  obtain ⟨l0, l1⟩ := bl
  obtain ⟨c, hc⟩ : ∃ c, (line + 100) % 256 = c := ⟨_, rfl⟩
  have c0 : 0 ≤ c ∧ c < 256 := by omega
  have t1 : (line + 100).tmod 256 = c := by rw [Int.tmod_eq_emod_of_nonneg (by omega), hc]
  obtain ⟨n, hn⟩ : ∃ n : Nat, many % 30 = (n : Int) := ⟨(many % 30).toNat, by omega⟩
  obtain ⟨a, ha⟩ : ∃ a : Nat, from_ % 30 = (a : Int) := ⟨(from_ % 30).toNat, by omega⟩
  have t2 : many.tmod 30 = (n : Int) := by rw [Int.tmod_eq_emod_of_nonneg (by omega), hn]
  have t3 : from_.tmod 30 = (a : Int) := by rw [Int.tmod_eq_emod_of_nonneg (by omega), ha]
  have n30 : n < 30 := by omega
  have a30 : a < 30 := by omega
  have HC := Lib.hid hc.symm
  have H := Mem.start w
  go_enter Try.func3, Try.ntmps3
  go_wp2_with (first | (refine wpList_mboxA rfl _ _ rfl H #[.int .u8 line, .int .u8 many, .int .u8 from_, .bool tall] rfl ?_; clear H; intro Rq w1 _ H) | fail)
  (try simp only [Act.put, List.setIfInBounds_toArray, List.set_cons_succ, List.set_cons_zero])
  (refine wp_region_quiet_below (by kernel_rfl) (by kernel_rfl) ?_); (repeat (first | (go_big_quiet_want; refine gate_qload _ _ rfl ?_; refine quiet_mload1 5 _ rfl _ _ rfl 0 H _ (.int .u8 _) rfl rfl (by decide +kernel) ?_; simp only [Act.put, List.setIfInBounds_toArray, List.set_cons_succ, List.set_cons_zero]; go_big_quiet_on) | (go_big_quiet_want; refine gate_qload _ _ rfl ?_; refine quiet_mload1 4 _ rfl _ _ rfl 0 H _ (.bool _) rfl rfl (by decide +kernel) ?_; simp only [Act.put, List.setIfInBounds_toArray, List.set_cons_succ, List.set_cons_zero]; go_big_quiet_on) | go_big_quiet_step ((first | fail)))); (refine wpQuiet_nil ?_); intro _ hw'; obtain ⟨⟨dq, osq⟩, hw''⟩ := hw'; (subst hw''); replace H := H.next (below_regrown _ dq osq); generalize Go.Sort.grow (redrawn _ dq) osq = wq at *
  go_wp2_with (first | (refine wpList_smk rfl _ _ _ rfl H _ _ rfl rfl HM.out ?_; clear H; intro R w1 _ H) | fail)
  have hg0 := rowS_zero
  rw [flS_zero] at hg0
  generalize zS256 = cs0 at *
  have HG0 := Lib.hid hg0
  clear hg0
  go_loopw [9] (fun i wr => ∃ (k : Nat) (cs : Array Value), k ≤ 64 ∧ i = .int .i64 k ∧ Hid (RowG bcs 2 cs 256 (flS 256 (fy1 c k))) ∧ Mem w.heap.size [] w wr [(R, cs), (Rq, #[.int .u8 line, .int .u8 many, .int .u8 from_, .bool tall])]) (fun i _ => 64 - (intOf i).toNat)
  case atStart => exact ⟨0, cs0, by omega, rfl, Lib.hid (by rw [flS_congr 256 (fy1 c 0) (fun _ => (0, false)) (fun j _ => by unfold fy1; rw [if_neg (by omega)])]; exact HG0.out), H⟩
  case round =>
    clear H HG0
    obtain ⟨k, cs, hk, rfl, HG, H⟩ := hrel
    by_cases hlt : k < 64
    · have hkl : 4 * k < (flS 256 (fy1 c k)).length := by rw [flS_len]; omega
      go_wp2_with (first | (refine gate_store _ _ _ rfl ?_; refine wpList_rst rfl 5 _ _ rfl rfl _ (4 * k) rfl 0 H rfl HG.out (hkl) c rfl (by kernel_rfl) ?_; clear H HG; intro w1 cs2 hg H; simp only [List.set_cons_zero, List.set_cons_succ] at H; have HG := Lib.hid hg; clear hg) | fail)
      go_roundw
      case rel => exact ⟨k + 1, cs2, by omega, by go_num, Lib.hid (by
        have h := HG.out
        rw [flS_nth _ _ _ (by omega), flS_set, flS_congr 256 _ (fy1 c (k + 1)) (fun j _ => fy1_next c k j)] at h
        exact h), H⟩
      case measure => simp [intOf]; omega
    · obtain rfl : k = 64 := by omega
      have HG1 := Lib.hid (show RowG bcs 2 cs 256 (flS 256 (fy2 c line a 0)) by rw [← flS_congr 256 (fy1 c 64) (fy2 c line a 0) (fun j hj => f12 c line a j hj)]; exact HG.out)
      clear HG t1
      go_wp2_with fail
      go_loopw [12] (fun i wr => ∃ (m : Nat) (cs : Array Value), m ≤ n ∧ i = .int .i64 m ∧ Hid (RowG bcs 2 cs 256 (flS 256 (fy2 c line a m))) ∧ Mem w.heap.size [] w wr [(R, cs), (Rq, #[.int .u8 line, .int .u8 many, .int .u8 from_, .bool tall])]) (fun i _ => n - (intOf i).toNat)
      case atStart => exact ⟨0, cs, by omega, rfl, HG1, H⟩
      case round =>
        clear H HG1
        obtain ⟨m, cs, hm, rfl, HG, H⟩ := hrel
        by_cases hlt2 : m < n
        · have hkl : 4 * (a + m) < (flS 256 (fy2 c line a m)).length := by rw [flS_len]; omega
          go_wp2_with (first | (refine gate_store _ _ _ rfl ?_; refine wpList_rst rfl 5 _ _ rfl rfl _ (4 * (a + m)) rfl 0 H rfl HG.out (hkl) line rfl (by kernel_rfl) ?_; clear H HG; intro w1 cs2 hg H; simp only [List.set_cons_zero, List.set_cons_succ] at H; have HG := Lib.hid hg; clear hg) | fail)
          go_roundw
          case rel => exact ⟨m + 1, cs2, by omega, by go_num, Lib.hid (by
            have h := HG.out
            rw [flS_nth _ _ _ (by omega), flS_set, flS_congr 256 _ (fy2 c line a (m + 1)) (fun j _ => fy2_next c line a m j)] at h
            exact h), H⟩
          case measure => simp [intOf]; omega
        · obtain rfl : m = n := by omega
          have hA := f2_on c line a m tall a30 n30 l0 l1 HC.out
          have hS := f2_sec c line a m
          have QA := Lib.hid (fun (g : Nat) wr h => sfind_ct g 0 256 line tall (flS 256 (fy2 c line a m)) wr h (flS_len _ _) (f2_ok c line a m c0.1 c0.2 l0 l1) (by decide) (by simp [maxLen]) l0 l1)
          have hlen : (List.range' a m).length = m := List.length_range'
          have HX := Lib.hid (fun k h => range_at a m k h)
          obtain ⟨A, hAe⟩ : ∃ A, List.range' a m = A := ⟨_, rfl⟩
          rw [hAe] at hA hlen HX
          have HA1 := Lib.hid hA
          have HSS := Lib.hid hS
          have HLN := Lib.hid hlen
          clear hA hS hAe hlen hc t2 t3 hn ha
          by_cases h8 : 8 < m
          · have FM := Lib.hid (fun w w' e (h : FindP (flS 256 (fy2 c line a m)) line tall w e w') => find_more h HA1.out (by rw [HLN.out]; exact h8))
            generalize flS 256 (fy2 c line a m) = lf at *
            go_wp2_with (first | (go_at_call 4; (with_reducible refine (QA.out _ _ (ls_rowG (i := 0) H rfl HG.out)).mono ?_); intro e w2 hF; obtain ⟨ba, bc, blk, rfl, hR, hM⟩ := FM.out _ _ _ hF; replace H := (H.join hM).perm List.perm_append_comm; simp only [List.cons_append, List.nil_append] at H; have HR := Lib.hid hR; rw [HSS.out]; clear hR hM hF) | fail)
            go_loopw [17] (fun i wr => ∃ k : Nat, k ≤ 8 ∧ i = .int .i64 k ∧ Mem w.heap.size [] w wr ((R, cs) :: (Rq, #[.int .u8 line, .int .u8 many, .int .u8 from_, .bool tall]) :: blk)) (fun i _ => 8 - (intOf i).toNat)
            case atStart => exact ⟨0, by omega, rfl, H⟩
            case round =>
              clear H
              obtain ⟨k, hk, rfl, H⟩ := hrel
              by_cases hlt3 : k < 8
              · obtain ⟨R3, cs3, cap3, ev, hbl, hc1, hc2, hat⟩ := HR.out.elem icl_len k (a + k) (by rw [List.getElem?_take, if_pos hlt3]; exact HX.out k (by omega))
                have hcell : wr.cell? ⟨R3, k, none⟩ = some (.int .i64 ((a + k : Nat) : Int)) := by
                  subst hbl
                  exact H.cell (i := 2) rfl (by have := hat 0 _ rfl; simpa using this)
                injection ev with e1 e2 e3
                subst e1
                (try clear e2)
                clear hat hbl e3 hc1 hc2
                rw [Int.natCast_add] at hcell
                go_wp2_with fail
                go_roundw
                case rel => exact ⟨k + 1, by omega, by go_num, H⟩
                case measure => simp [intOf]; omega
              · obtain rfl : k = 8 := by omega
                go_wp2_with (first | (go_at_call 5; (with_reducible refine (QW.out _).mono ?_); rintro e w2 ⟨rfl, hB⟩; replace H := H.next hB; clear hB) | fail)
                go_ret
                exact ⟨rfl, H.toBelow⟩
          · have FM := Lib.hid (fun w w' e (h : FindP (flS 256 (fy2 c line a m)) line tall w e w') => find_all h HA1.out (by rw [HLN.out]; omega))
            rw [HLN.out] at FM
            generalize flS 256 (fy2 c line a m) = lf at *
            go_wp2_with (first | (go_at_call 4; (with_reducible refine (QA.out _ _ (ls_rowG (i := 0) H rfl HG.out)).mono ?_); intro e w2 hF; obtain ⟨ba, bc, blk, rfl, hR, hM⟩ := FM.out _ _ _ hF; replace H := (H.join hM).perm List.perm_append_comm; simp only [List.cons_append, List.nil_append] at H; have HR := Lib.hid hR; rw [HSS.out]; clear hR hM hF) | fail)
            go_loopw [17] (fun i wr => ∃ k : Nat, k ≤ m ∧ i = .int .i64 k ∧ Mem w.heap.size [] w wr ((R, cs) :: (Rq, #[.int .u8 line, .int .u8 many, .int .u8 from_, .bool tall]) :: blk)) (fun i _ => m - (intOf i).toNat)
            case atStart => exact ⟨0, by omega, rfl, H⟩
            case round =>
              clear H
              obtain ⟨k, hk, rfl, H⟩ := hrel
              by_cases hlt3 : k < m
              · obtain ⟨R3, cs3, cap3, ev, hbl, hc1, hc2, hat⟩ := HR.out.elem icl_len k (a + k) (HX.out k hlt3)
                have hcell : wr.cell? ⟨R3, k, none⟩ = some (.int .i64 ((a + k : Nat) : Int)) := by
                  subst hbl
                  exact H.cell (i := 2) rfl (by have := hat 0 _ rfl; simpa using this)
                injection ev with e1 e2 e3
                subst e1
                (try clear e2)
                clear hat hbl e3 hc1 hc2
                rw [Int.natCast_add] at hcell
                go_wp2_with fail
                go_roundw
                case rel => exact ⟨k + 1, by omega, by go_num, H⟩
                case measure => simp [intOf]; omega
              · obtain rfl : k = m := by omega
                go_wp2_with (first | (go_at_call 5; (with_reducible refine (QW.out _).mono ?_); rintro e w2 ⟨rfl, hB⟩; replace H := H.next hB; clear hB) | fail)
                go_ret
                exact ⟨rfl, H.toBelow⟩
end Go.Proofs.Ytphnpahjofacfab
