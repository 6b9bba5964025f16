/-
  slices.Equal at numbers, package policy's Secret, and package script's agree by a closure that tells what is low. Over this seat's translation; no condition but that numbers and ranges read as lists.
-/
import Derived.Test.YtdafilfnmdfacaaSco
import Derived.Test.YtdafilfnmdfacaaClb
import Derived.Test.YtdafilfnmdfacaaTas
namespace Go.Proofs.Ytdafilfnmdfacaa
open Go.RowKit

set_option maxHeartbeats 2000000 in
theorem equali_ct (sv tv : Value) (l m : List Int) (w : World) (hr : Ri w sv l) (hs : Ri w tv m) :
    Calls Try.prog 18 #[sv, tv] w fun e w' => e = .returned (.bool (eqL l m)) ∧ Below w.heap.size w w' := by
  obtain ⟨sa, cap, rfl, hcap, hn, hr⟩ := hr
  obtain ⟨ta, cap2, rfl, hcap2, hn2, hs⟩ := hs
  unfold maxLen at hn hn2
  by_cases hl : l.length = m.length
  · have hw : ∀ k, k < l.length → ∃ b off c off2, sa = some ⟨b, off, none⟩ ∧ ta = some ⟨c, off2, none⟩ ∧ b < w.heap.size ∧ c < w.heap.size ∧ w.cell? ⟨b, off + k, none⟩ = some (.int .i64 (nthI l k)) ∧ w.cell? ⟨c, off2 + k, none⟩ = some (.int .i64 (nthI m k)) := fun k hk => by
      rcases hr with rfl | ⟨b, off, rfl, hb, hc⟩
      · simp at hk
      rcases hs with rfl | ⟨c, off2, rfl, hb2, hc2⟩
      · simp at hl; simp [hl] at hk
      exact ⟨b, off, c, off2, rfl, rfl, hb, hb2, hc k hk, hc2 k (by omega)⟩
    have Hw := Lib.hid hw
    clear hw hr hs
    have Hend := Lib.hid (eqL_end l m 0 hl)
    have Hno := Lib.hid (eqL_no l m 0)
    generalize hres : eqL l m = res at *
    clear hres
    have lm : m.length = l.length := hl.symm
    rw [lm] at hcap2
    simp only [lm]
    clear lm hl
    go_enter Try.func18, Try.ntmps18
    go_wp2
    go_loopw [13] (fun i wr => ∃ (k : Nat), k ≤ l.length ∧ i = .int .i64 k ∧ Hid (∀ j, j < k → l.getD j 0 = m.getD j 0) ∧ Below w.heap.size w wr) (fun i _ => l.length - (intOf i).toNat)
    case atStart => exact ⟨0, Nat.zero_le _, rfl, fun j hj => absurd hj (by omega), Below.refl _ _⟩
    case round =>
      obtain ⟨k, hk, rfl, he, hB⟩ := hrel
      by_cases hlt : k < l.length
      · obtain ⟨b, off, c, off2, rfl, rfl, hb, hb2, h1, g1⟩ := Hw.out k hlt
        rw [← hB.cell hb] at h1
        rw [← hB.cell hb2] at g1
        obtain ⟨x, hx⟩ : ∃ x, nthI l k = x := ⟨_, rfl⟩
        obtain ⟨y, hy⟩ : ∃ x, nthI m k = x := ⟨_, rfl⟩
        rw [hx] at h1
        rw [hy] at g1
        by_cases hq : x = y
        · subst hq
          have He : Hid (∀ j, j < k + 1 → l.getD j 0 = m.getD j 0) := fun j hj => by
            by_cases ej : j = k
            · subst ej; exact hx.trans hy.symm
            · exact he.out j (by omega)
          clear he hx hy Hw Hno Hend
          go_wp2_with fail
          go_quiet (fail)
          go_wp2
          go_roundw
          case rel => exact ⟨k + 1, by omega, by go_num, He, below_drewN hB _⟩
          case measure => simp [intOf]; omega
        · have Hres := Lib.hid (Hno.out k (by rw [show l.getD k 0 = x from hx, show m.getD k 0 = y from hy]; exact hq))
          clear he hx hy Hw Hno Hend
          go_wp2_with fail
          go_quiet (fail)
          go_wp2
          go_ret
          exact ⟨by rw [Hres.out]; rfl, below_drewN hB _⟩
      · have Hs := Lib.hid (Hend.out fun j hj => he.out j (by omega))
        clear Hw he Hno Hend
        go_wp2
        go_ret
        exact ⟨by rw [Hs.out]; rfl, hB⟩
  · rw [eqL_len l m hl]
    clear hr hs
    go_enter Try.func18, Try.ntmps18
    go_wp2
    go_ret
    exact ⟨rfl, (by repeat' (first | exact Below.refl _ _ | (refine Below.setCell ?_ (by first | (simp; done) | (simp; omega) | omega) _) | (refine Below.drew ?_) | (refine Below.drewN ?_ _) | (refine Below.alloc ?_ (by first | (simp; done) | (simp; omega) | omega) _)))⟩
set_option maxHeartbeats 1000000 in
theorem secport_ct (p q : Bool) (sv tv : Value) (k : Nat) (hk : k < 2) (w : World) :
    Calls Try.prog 20 #[polV p q sv tv, .int .i64 0, .int .i64 k] w fun e w' => e = .returned (.bool (if k = 0 then p else q)) ∧ Below w.heap.size w w' := by
  unfold polV
  match k, hk with
  | 0, _ =>
    rw [if_pos rfl]
    go_enter Try.func20, Try.ntmps20
    go_wp2
    go_ret
    exact ⟨rfl, (by repeat' (first | exact Below.refl _ _ | (refine Below.setCell ?_ (by first | (simp; done) | (simp; omega) | omega) _) | (refine Below.drew ?_) | (refine Below.drewN ?_ _) | (refine Below.alloc ?_ (by first | (simp; done) | (simp; omega) | omega) _)))⟩
  | 1, _ =>
    rw [if_neg (by omega)]
    go_enter Try.func20, Try.ntmps20
    go_wp2
    go_ret
    exact ⟨rfl, (by repeat' (first | exact Below.refl _ _ | (refine Below.setCell ?_ (by first | (simp; done) | (simp; omega) | omega) _) | (refine Below.drew ?_) | (refine Below.drewN ?_ _) | (refine Below.alloc ?_ (by first | (simp; done) | (simp; omega) | omega) _)))⟩
set_option maxHeartbeats 1000000 in
theorem secram_ct (p q : Bool) (sv : Value) (tv : Value) (ra : List (Int × Int)) (x : Int) (w : World) (hr : Rg w sv ra) (htv : ∃ a n c, tv = .slice a n c) :
    Calls Try.prog 20 #[polV p q sv tv, .int .i64 1, .int .i64 x] w fun e w' => e = .returned (.bool (inB ra x)) ∧ Below w.heap.size w w' := by
  have Hi := fun o => in_ct sv x ra (w.alloc o) (hr.below ((Below.refl _ _).alloc (Nat.le_refl _) o))
  generalize inB ra x = r at *
  have Hi := Lib.hid Hi
  obtain ⟨a1, c1, rfl, _⟩ := hr
  obtain ⟨a2, n2, c2, rfl⟩ := htv
  generalize ra.length = n1 at *
  unfold polV
  go_enter Try.func20, Try.ntmps20
  go_wp2_with fail
  refine (Hi.out _).mono ?_
  rintro e w1 ⟨rfl, hB⟩
  go_wp2
  go_ret
  exact ⟨rfl, (by repeat' (first | exact Below.refl _ _ | (refine Below.setCell ?_ (by first | (simp; done) | (simp; omega) | omega) _) | (refine Below.drew ?_) | (refine Below.drewN ?_ _) | (refine Below.alloc ?_ (by first | (simp; done) | (simp; omega) | omega) _) | (refine Below.trans ?_ (Below.mono hB (by first | (simp; done) | (simp; omega) | omega)))))⟩
set_option maxHeartbeats 1000000 in
theorem secsave_ct (p q : Bool) (sv : Value) (tv : Value) (ra : List (Int × Int)) (x : Int) (w : World) (hr : Rg w tv ra) (htv : ∃ a n c, sv = .slice a n c) :
    Calls Try.prog 20 #[polV p q sv tv, .int .i64 2, .int .i64 x] w fun e w' => e = .returned (.bool (inB ra x)) ∧ Below w.heap.size w w' := by
  have Hi := fun o => in_ct tv x ra (w.alloc o) (hr.below ((Below.refl _ _).alloc (Nat.le_refl _) o))
  generalize inB ra x = r at *
  have Hi := Lib.hid Hi
  obtain ⟨a1, c1, rfl, _⟩ := hr
  obtain ⟨a2, n2, c2, rfl⟩ := htv
  generalize ra.length = n1 at *
  unfold polV
  go_enter Try.func20, Try.ntmps20
  go_wp2_with fail
  refine (Hi.out _).mono ?_
  rintro e w1 ⟨rfl, hB⟩
  go_wp2
  go_ret
  exact ⟨rfl, (by repeat' (first | exact Below.refl _ _ | (refine Below.setCell ?_ (by first | (simp; done) | (simp; omega) | omega) _) | (refine Below.drew ?_) | (refine Below.drewN ?_ _) | (refine Below.alloc ?_ (by first | (simp; done) | (simp; omega) | omega) _) | (refine Below.trans ?_ (Below.mono hB (by first | (simp; done) | (simp; omega) | omega)))))⟩
set_option maxHeartbeats 2000000 in
theorem agree_pads (B : Nat) (low : Nat → Bool) (x y : ByteArray) (w : World) (hx : x.size ≤ maxLen)
    (hF : ∀ k wr, Below w.heap.size w wr → Calls Try.prog 19 #[.int .i64 ((k : Nat) : Int), .pointer (some ⟨B, 0, none⟩)] wr fun e w' => e = .returned (.bool (low k)) ∧ Below wr.heap.size wr w') :
    Calls Try.prog 23 #[.string x, .string y, .func (.func 19) #[] #[.pointer (some ⟨B, 0, none⟩)]] w fun e w' => e = .returned (.bool (agreeB low x y)) ∧ Below w.heap.size w w' := by
  unfold maxLen at hx
  by_cases hl : x.size = y.size
  · have HF := Lib.hid hF
    have Hno := Lib.hid (agree_no low x y)
    have Hyes := Lib.hid (agree_yes low x y hl)
    generalize agreeB low x y = res at *
    clear hF
    go_enter Try.func23, Try.ntmps23
    go_wp2
    go_loopw [15] (fun i wr => ∃ (k : Nat), k ≤ x.size ∧ i = .int .i64 k ∧ Hid (∀ j, j < k → byteAt x j = byteAt y j ∨ low j = false) ∧ Below w.heap.size w wr) (fun i _ => x.size - (intOf i).toNat)
    case atStart => exact ⟨0, Nat.zero_le _, rfl, fun j hj => absurd hj (by omega), Below.refl _ _⟩
    case round =>
      obtain ⟨k, hk, rfl, he, hB⟩ := hrel
      by_cases hlt : k < x.size
      · have hlt2 : k < y.size := by omega
        by_cases hxy : ((x[k]'hlt).toNat : Int) = ((y[k]'hlt2).toNat : Int)
        · have He : Hid (∀ j, j < k + 1 → byteAt x j = byteAt y j ∨ low j = false) := fun j hj => by
            by_cases ej : j = k
            · subst ej; exact .inl (by rw [byteAt_lt _ _ hlt, byteAt_lt _ _ hlt2]; exact hxy)
            · exact he.out j (by omega)
          clear he Hno Hyes
          go_wp2_with fail
          go_quiet (fail)
          go_wp2
          go_roundw
          case rel => exact ⟨k + 1, by omega, by go_num, He, below_drewN hB _⟩
          case measure => simp [intOf]; omega
        · have hf := fun d os => HF.out k _ (hB.next (below_regrown wr d os))
          cases hlow : low k
          · rw [hlow] at hf
            have He : Hid (∀ j, j < k + 1 → byteAt x j = byteAt y j ∨ low j = false) := fun j hj => by
              by_cases ej : j = k
              · subst ej; exact .inr hlow
              · exact he.out j (by omega)
            have hd : (((x[k]'hlt).toNat : Int) != ((y[k]'hlt2).toNat : Int)) = true := bne_iff_ne.2 hxy
            clear he Hno Hyes HF
            go_wp2_with fail
            (refine wp_region_quiet_below (by kernel_rfl) (by kernel_rfl) ?_); (repeat (go_big_quiet_step (((go_at_call 19; exact Calls.regrown_of (hf _ _)))))); (refine wpQuiet_nil ?_); intro _ hw'; obtain ⟨⟨dq, osq⟩, hw''⟩ := hw'; (subst hw''); have hq := below_regrown wr dq osq; generalize Go.Sort.grow (redrawn wr dq) osq = wq at hq ⊢
            have hBq := hB.next hq
            go_wp2
            go_roundw
            case rel => exact ⟨k + 1, by omega, by go_num, He, hBq⟩
            case measure => simp [intOf]; omega
          · rw [hlow] at hf
            have Hres := Lib.hid (Hno.out k hlt (by rw [byteAt_lt _ _ hlt, byteAt_lt _ _ hlt2]; exact hxy) hlow)
            have hd : (((x[k]'hlt).toNat : Int) != ((y[k]'hlt2).toNat : Int)) = true := bne_iff_ne.2 hxy
            clear he Hno Hyes HF
            go_wp2_with fail
            (refine wp_region_quiet_below (by kernel_rfl) (by kernel_rfl) ?_); (repeat (go_big_quiet_step (((go_at_call 19; exact Calls.regrown_of (hf _ _)))))); (refine wpQuiet_nil ?_); intro _ hw'; obtain ⟨⟨dq, osq⟩, hw''⟩ := hw'; (subst hw''); have hq := below_regrown wr dq osq; generalize Go.Sort.grow (redrawn wr dq) osq = wq at hq ⊢
            have hBq := hB.next hq
            go_wp2
            go_ret
            exact ⟨by rw [Hres.out]; rfl, hBq⟩
      · have Hs := Lib.hid (Hyes.out fun j hj => he.out j (by omega))
        clear he Hno Hyes
        go_wp2
        go_ret
        exact ⟨by rw [Hs.out]; rfl, hB⟩
  · rw [agree_len low x y hl]
    clear hF
    go_enter Try.func23, Try.ntmps23
    go_wp2
    go_ret
    exact ⟨rfl, (by repeat' (first | exact Below.refl _ _ | (refine Below.setCell ?_ (by first | (simp; done) | (simp; omega) | omega) _) | (refine Below.drew ?_) | (refine Below.drewN ?_ _) | (refine Below.alloc ?_ (by first | (simp; done) | (simp; omega) | omega) _)))⟩
set_option maxHeartbeats 2000000 in
theorem agree_save (B : Nat) (low : Nat → Bool) (x y : ByteArray) (w : World) (hx : x.size ≤ maxLen)
    (hF : ∀ k wr, Below w.heap.size w wr → Calls Try.prog 21 #[.int .i64 ((k : Nat) : Int), .pointer (some ⟨B, 0, none⟩)] wr fun e w' => e = .returned (.bool (low k)) ∧ Below wr.heap.size wr w') :
    Calls Try.prog 23 #[.string x, .string y, .func (.func 21) #[] #[.pointer (some ⟨B, 0, none⟩)]] w fun e w' => e = .returned (.bool (agreeB low x y)) ∧ Below w.heap.size w w' := by
  unfold maxLen at hx
  by_cases hl : x.size = y.size
  · have HF := Lib.hid hF
    have Hno := Lib.hid (agree_no low x y)
    have Hyes := Lib.hid (agree_yes low x y hl)
    generalize agreeB low x y = res at *
    clear hF
    go_enter Try.func23, Try.ntmps23
    go_wp2
    go_loopw [15] (fun i wr => ∃ (k : Nat), k ≤ x.size ∧ i = .int .i64 k ∧ Hid (∀ j, j < k → byteAt x j = byteAt y j ∨ low j = false) ∧ Below w.heap.size w wr) (fun i _ => x.size - (intOf i).toNat)
    case atStart => exact ⟨0, Nat.zero_le _, rfl, fun j hj => absurd hj (by omega), Below.refl _ _⟩
    case round =>
      obtain ⟨k, hk, rfl, he, hB⟩ := hrel
      by_cases hlt : k < x.size
      · have hlt2 : k < y.size := by omega
        by_cases hxy : ((x[k]'hlt).toNat : Int) = ((y[k]'hlt2).toNat : Int)
        · have He : Hid (∀ j, j < k + 1 → byteAt x j = byteAt y j ∨ low j = false) := fun j hj => by
            by_cases ej : j = k
            · subst ej; exact .inl (by rw [byteAt_lt _ _ hlt, byteAt_lt _ _ hlt2]; exact hxy)
            · exact he.out j (by omega)
          clear he Hno Hyes
          go_wp2_with fail
          go_quiet (fail)
          go_wp2
          go_roundw
          case rel => exact ⟨k + 1, by omega, by go_num, He, below_drewN hB _⟩
          case measure => simp [intOf]; omega
        · have hf := fun d os => HF.out k _ (hB.next (below_regrown wr d os))
          cases hlow : low k
          · rw [hlow] at hf
            have He : Hid (∀ j, j < k + 1 → byteAt x j = byteAt y j ∨ low j = false) := fun j hj => by
              by_cases ej : j = k
              · subst ej; exact .inr hlow
              · exact he.out j (by omega)
            have hd : (((x[k]'hlt).toNat : Int) != ((y[k]'hlt2).toNat : Int)) = true := bne_iff_ne.2 hxy
            clear he Hno Hyes HF
            go_wp2_with fail
            (refine wp_region_quiet_below (by kernel_rfl) (by kernel_rfl) ?_); (repeat (go_big_quiet_step (((go_at_call 21; exact Calls.regrown_of (hf _ _)))))); (refine wpQuiet_nil ?_); intro _ hw'; obtain ⟨⟨dq, osq⟩, hw''⟩ := hw'; (subst hw''); have hq := below_regrown wr dq osq; generalize Go.Sort.grow (redrawn wr dq) osq = wq at hq ⊢
            have hBq := hB.next hq
            go_wp2
            go_roundw
            case rel => exact ⟨k + 1, by omega, by go_num, He, hBq⟩
            case measure => simp [intOf]; omega
          · rw [hlow] at hf
            have Hres := Lib.hid (Hno.out k hlt (by rw [byteAt_lt _ _ hlt, byteAt_lt _ _ hlt2]; exact hxy) hlow)
            have hd : (((x[k]'hlt).toNat : Int) != ((y[k]'hlt2).toNat : Int)) = true := bne_iff_ne.2 hxy
            clear he Hno Hyes HF
            go_wp2_with fail
            (refine wp_region_quiet_below (by kernel_rfl) (by kernel_rfl) ?_); (repeat (go_big_quiet_step (((go_at_call 21; exact Calls.regrown_of (hf _ _)))))); (refine wpQuiet_nil ?_); intro _ hw'; obtain ⟨⟨dq, osq⟩, hw''⟩ := hw'; (subst hw''); have hq := below_regrown wr dq osq; generalize Go.Sort.grow (redrawn wr dq) osq = wq at hq ⊢
            have hBq := hB.next hq
            go_wp2
            go_ret
            exact ⟨by rw [Hres.out]; rfl, hBq⟩
      · have Hs := Lib.hid (Hyes.out fun j hj => he.out j (by omega))
        clear he Hno Hyes
        go_wp2
        go_ret
        exact ⟨by rw [Hs.out]; rfl, hB⟩
  · rw [agree_len low x y hl]
    clear hF
    go_enter Try.func23, Try.ntmps23
    go_wp2
    go_ret
    exact ⟨rfl, (by repeat' (first | exact Below.refl _ _ | (refine Below.setCell ?_ (by first | (simp; done) | (simp; omega) | omega) _) | (refine Below.drew ?_) | (refine Below.drewN ?_ _) | (refine Below.alloc ?_ (by first | (simp; done) | (simp; omega) | omega) _)))⟩
set_option maxHeartbeats 2000000 in
theorem agree_ram (B : Nat) (low : Nat → Bool) (x y : ByteArray) (w : World) (hx : x.size ≤ maxLen)
    (hF : ∀ k wr, Below w.heap.size w wr → Calls Try.prog 22 #[.int .i64 ((k : Nat) : Int), .pointer (some ⟨B, 0, none⟩)] wr fun e w' => e = .returned (.bool (low k)) ∧ Below wr.heap.size wr w') :
    Calls Try.prog 23 #[.string x, .string y, .func (.func 22) #[] #[.pointer (some ⟨B, 0, none⟩)]] w fun e w' => e = .returned (.bool (agreeB low x y)) ∧ Below w.heap.size w w' := by
  unfold maxLen at hx
  by_cases hl : x.size = y.size
  · have HF := Lib.hid hF
    have Hno := Lib.hid (agree_no low x y)
    have Hyes := Lib.hid (agree_yes low x y hl)
    generalize agreeB low x y = res at *
    clear hF
    go_enter Try.func23, Try.ntmps23
    go_wp2
    go_loopw [15] (fun i wr => ∃ (k : Nat), k ≤ x.size ∧ i = .int .i64 k ∧ Hid (∀ j, j < k → byteAt x j = byteAt y j ∨ low j = false) ∧ Below w.heap.size w wr) (fun i _ => x.size - (intOf i).toNat)
    case atStart => exact ⟨0, Nat.zero_le _, rfl, fun j hj => absurd hj (by omega), Below.refl _ _⟩
    case round =>
      obtain ⟨k, hk, rfl, he, hB⟩ := hrel
      by_cases hlt : k < x.size
      · have hlt2 : k < y.size := by omega
        by_cases hxy : ((x[k]'hlt).toNat : Int) = ((y[k]'hlt2).toNat : Int)
        · have He : Hid (∀ j, j < k + 1 → byteAt x j = byteAt y j ∨ low j = false) := fun j hj => by
            by_cases ej : j = k
            · subst ej; exact .inl (by rw [byteAt_lt _ _ hlt, byteAt_lt _ _ hlt2]; exact hxy)
            · exact he.out j (by omega)
          clear he Hno Hyes
          go_wp2_with fail
          go_quiet (fail)
          go_wp2
          go_roundw
          case rel => exact ⟨k + 1, by omega, by go_num, He, below_drewN hB _⟩
          case measure => simp [intOf]; omega
        · have hf := fun d os => HF.out k _ (hB.next (below_regrown wr d os))
          cases hlow : low k
          · rw [hlow] at hf
            have He : Hid (∀ j, j < k + 1 → byteAt x j = byteAt y j ∨ low j = false) := fun j hj => by
              by_cases ej : j = k
              · subst ej; exact .inr hlow
              · exact he.out j (by omega)
            have hd : (((x[k]'hlt).toNat : Int) != ((y[k]'hlt2).toNat : Int)) = true := bne_iff_ne.2 hxy
            clear he Hno Hyes HF
            go_wp2_with fail
            (refine wp_region_quiet_below (by kernel_rfl) (by kernel_rfl) ?_); (repeat (go_big_quiet_step (((go_at_call 22; exact Calls.regrown_of (hf _ _)))))); (refine wpQuiet_nil ?_); intro _ hw'; obtain ⟨⟨dq, osq⟩, hw''⟩ := hw'; (subst hw''); have hq := below_regrown wr dq osq; generalize Go.Sort.grow (redrawn wr dq) osq = wq at hq ⊢
            have hBq := hB.next hq
            go_wp2
            go_roundw
            case rel => exact ⟨k + 1, by omega, by go_num, He, hBq⟩
            case measure => simp [intOf]; omega
          · rw [hlow] at hf
            have Hres := Lib.hid (Hno.out k hlt (by rw [byteAt_lt _ _ hlt, byteAt_lt _ _ hlt2]; exact hxy) hlow)
            have hd : (((x[k]'hlt).toNat : Int) != ((y[k]'hlt2).toNat : Int)) = true := bne_iff_ne.2 hxy
            clear he Hno Hyes HF
            go_wp2_with fail
            (refine wp_region_quiet_below (by kernel_rfl) (by kernel_rfl) ?_); (repeat (go_big_quiet_step (((go_at_call 22; exact Calls.regrown_of (hf _ _)))))); (refine wpQuiet_nil ?_); intro _ hw'; obtain ⟨⟨dq, osq⟩, hw''⟩ := hw'; (subst hw''); have hq := below_regrown wr dq osq; generalize Go.Sort.grow (redrawn wr dq) osq = wq at hq ⊢
            have hBq := hB.next hq
            go_wp2
            go_ret
            exact ⟨by rw [Hres.out]; rfl, hBq⟩
      · have Hs := Lib.hid (Hyes.out fun j hj => he.out j (by omega))
        clear he Hno Hyes
        go_wp2
        go_ret
        exact ⟨by rw [Hs.out]; rfl, hB⟩
  · rw [agree_len low x y hl]
    clear hF
    go_enter Try.func23, Try.ntmps23
    go_wp2
    go_ret
    exact ⟨rfl, (by repeat' (first | exact Below.refl _ _ | (refine Below.setCell ?_ (by first | (simp; done) | (simp; omega) | omega) _) | (refine Below.drew ?_) | (refine Below.drewN ?_ _) | (refine Below.alloc ?_ (by first | (simp; done) | (simp; omega) | omega) _)))⟩
end Go.Proofs.Ytdafilfnmdfacaa
