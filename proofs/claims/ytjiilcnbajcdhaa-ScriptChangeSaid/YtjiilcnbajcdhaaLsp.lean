/-
  ScriptPads' walk. Over this seat's translation.
-/
import Derived.Test.YtjiilcnbajcdhaaScw
import Derived.Test.YtjiilcnbajcdhaaScx
import Derived.Test.YtjiilcnbajcdhaaBx4
namespace Go.Proofs.Ytjiilcnbajcdhaa
open Go.RowKit

theorem cutB_len (n : Nat) (s : ByteArray) (hn : n ≤ maxLen) : (cutB n s).size ≤ maxLen := Nat.le_trans (cutB_size n s) hn
theorem scrMay_iff {a s m : ByteArray} {l : List Int} (h : scrMay a l s m = true) : a.size % 2 = 0 ∧ a.size ≤ 1200 ∧ s.size ≤ 8192 ∧ m.size ≤ 2048 ∧ risesB ((a.size / 2 : Nat) : Int) 0 l = true := by
  unfold scrMay sizesB at h
  simp only [Bool.and_eq_true, decide_eq_true_eq] at h
  exact ⟨h.1.1, h.1.2.1, h.1.2.2.1, h.1.2.2.2, h.2⟩
set_option maxRecDepth 100000 in
set_option maxHeartbeats 2500000 in
theorem pads_walk (a s m : ByteArray) (rv : Value) (l : List Int) (w : World) (hr : Ri w rv l) (ha : a.size ≤ maxLen) (hs : s.size ≤ maxLen) (hm : m.size ≤ maxLen) :
    Calls Try.prog 7 #[scrV a rv s m] w fun e w' => e = .returned (.bool true) ∧ Below w.heap.size w w' := by
  have KF : Hid (∀ wr, Below w.heap.size w wr → Calls Try.prog 9 #[scrV a rv s m] wr fun e w' => e = .returned (scrV (cutB 1201 a) (cut20 rv) (cutB 8193 s) (cutB 2049 m)) ∧ Below wr.heap.size wr w') := fun wr h => sfew_ct a s m rv l wr (hr.below h) ha hs hm
  have hR := ri_cut20 hr
  have hA := cutB_len 1201 a (by decide)
  have hS := cutB_len 8193 s (by decide)
  have hM := cutB_len 2049 m (by decide)
  obtain ⟨ra, rc, rfl, _⟩ := hr
  rw [cut20_slice] at KF hR
  obtain ⟨rn, hrn⟩ : ∃ n, l.length = n := ⟨_, rfl⟩
  obtain ⟨L, hL⟩ : ∃ x, l.take 20 = x := ⟨_, rfl⟩
  obtain ⟨A, hA'⟩ : ∃ x, cutB 1201 a = x := ⟨_, rfl⟩
  obtain ⟨S, hS'⟩ : ∃ x, cutB 8193 s = x := ⟨_, rfl⟩
  obtain ⟨M, hM'⟩ : ∃ x, cutB 2049 m = x := ⟨_, rfl⟩
  rw [hA', hS', hM'] at KF
  rw [hA'] at hA
  rw [hS'] at hS
  rw [hM'] at hM
  rw [hL] at hR
  have hlen : min l.length 20 = L.length := by rw [← hL, List.length_take, Nat.min_comm]
  have h20 : L.length ≤ 20 := by rw [← hL]; exact List.length_take_le _ _
  rw [hlen] at KF hR
  rw [hrn] at KF ⊢
  clear hrn hL hA' hS' hM' hlen
  obtain ⟨N, hN⟩ : ∃ n, L.length = n := ⟨_, rfl⟩
  have KC : Hid (∀ wr, Below w.heap.size w wr → Calls Try.prog 24 #[scrV A (.slice ra L.length rc) S M] wr fun e w' => e = .returned (.int .i64 (okS (scrMay A L S M))) ∧ Below wr.heap.size wr w') := fun wr h => scheck_ct A S M _ L wr (hR.below h) hA hS hM
  have KR : Hid (∀ x wr, Below w.heap.size w wr → Calls Try.prog 26 #[scrV A (.slice ra L.length rc) S M, .int .i64 x] wr fun e w' => e = .returned (.bool (L.contains x)) ∧ Below wr.heap.size wr w') := fun x wr h => reset_ct A S M _ x L wr (hR.below h)
  have KN : Hid (∀ wr, Calls Try.prog 25 #[scrV A (.slice ra L.length rc) S M] wr fun e w' => e = .returned (.int .i64 ((A.size / 2 : Nat) : Int)) ∧ Below wr.heap.size wr w') := fun wr => frames_ct A S M ra _ rc wr hA
  have KP : Hid (∀ f p wr, Calls Try.prog 20 #[scrV A (.slice ra L.length rc) S M, .int .i64 f, .int .i64 p] wr fun e w' => e = .returned (.int .u8 (padS A f p)) ∧ Below wr.heap.size wr w') := fun f p wr => pad_ct A S M ra _ rc f p wr hA
  have KA : Hid (∀ wr, Calls Try.prog 14 #[] wr fun e w' => e = .returned (.bool true) ∧ Below wr.heap.size wr w') := fun wr => sawake_ct wr
  rw [hN] at KF KC KR KN KP h20
  unfold scrV at KF KC KR KN KP ⊢
  clear hR hS hM ha hs hm
  unfold maxLen at hA
  go_enter Try.func7, Try.ntmps7
  go_upto_region 1 with fail
  go_cut [] (fun wx => BX wx w.heap.size 28 (.string A) (.slice ra N rc) (.string S) (.string M) ∧ Below w.heap.size w wx)
  case first => as_aux_lemma =>
    go_wp2_with fail
    ((with_reducible refine (KF.out _ (by repeat' (first | exact Below.refl _ _ | (refine Below.setCell ?_ (by first | (simp; done) | (simp; omega) | omega) _) | (refine Below.drew ?_) | (refine Below.drewN ?_ _) | (refine Below.alloc ?_ (by first | (simp; done) | (simp; omega) | omega) _)))).mono ?_))
    rintro e w1 ⟨rfl, hB⟩
    have hb1 : Below w.heap.size w w1 := (by repeat' (first | exact Below.refl _ _ | (refine Below.setCell ?_ (by first | (simp; done) | (simp; omega) | omega) _) | (refine Below.drew ?_) | (refine Below.drewN ?_ _) | (refine Below.alloc ?_ (by first | (simp; done) | (simp; omega) | omega) _) | (refine Below.trans ?_ (Below.mono hB (by first | (simp; done) | (simp; omega) | omega)))))
    have hz1 := hB.size
    simp at hz1
    obtain ⟨hc, hf⟩ := bcell hB
    simp at hc hf
    have HX := (BX.new w 28 (.string a) (.slice ra rn rc) (.string s) (.string m)).next hB
    clear hB
    go_wp2_with fail
    go_meet
    exact ⟨HX.set _ _ _ _, (by repeat' (first | exact Below.refl _ _ | (refine Below.setCell ?_ (by first | (simp; done) | (simp; omega) | omega) _) | (refine Below.drew ?_) | (refine Below.drewN ?_ _) | (refine Below.alloc ?_ (by first | (simp; done) | (simp; omega) | omega) _) | (refine Below.trans ?_ (Below.mono hb1 (by first | (simp; done) | (simp; omega) | omega)))))⟩
  case rest =>
  obtain ⟨X0, B0⟩ := hcut
  have z0 := X0.lt
  have c0 := X0.c0
  have c1 := X0.c1
  have c2 := X0.c2
  have c3 := X0.c3
  clear KF
  cases hmay : scrMay A L S M
  · rw [hmay] at KC
    go_wp2_with fail
    ((with_reducible refine (KC.out _ B0).mono ?_))
    rintro e w1 ⟨rfl, hB⟩
    have B1 := B0.next hB
    clear hB
    simp only [okS]
    go_wp2_with fail
    ((with_reducible refine (KA.out _).mono ?_))
    rintro e w2 ⟨rfl, hB⟩
    have B2 := B1.next hB
    go_wp2
    go_ret
    exact ⟨rfl, B2⟩
  rw [hmay] at KC
  obtain ⟨ev, hA2, _, _, hri⟩ := scrMay_iff hmay
  obtain ⟨n, hn⟩ : ∃ n, A.size / 2 = n := ⟨_, rfl⟩
  rw [hn] at KN hri
  have hAn : A.size = 2 * n := by omega
  have hn6 : n ≤ 600 := by omega
  clear hmay ev hA2 hA
  go_wp2_with fail
  ((with_reducible refine (KC.out _ B0).mono ?_))
  rintro e w1 ⟨rfl, hB⟩
  have X1 := X0.next hB
  have B1 := B0.next hB
  clear hB X0 c0 c1 c2 c3 z0
  have z0 := X1.lt
  have c0 := X1.c0
  have c1 := X1.c1
  have c2 := X1.c2
  have c3 := X1.c3
  simp only [okS]
  go_wp2_with fail
  ((with_reducible refine (KN.out _).mono ?_))
  rintro e w2 ⟨rfl, hB⟩
  have X2 := X1.next hB
  have B2 := B1.next hB
  clear hB X1 c0 c1 c2 c3 z0
  have z0 := X2.lt
  have c0 := X2.c0
  have c1 := X2.c1
  have c2 := X2.c2
  have c3 := X2.c3
  go_wp2
  have HAn := Lib.hid hAn
  clear hAn hn
  go_loopw [4] (fun i wr => ∃ (k : Nat), k ≤ n ∧ i = .int .i64 k ∧ Below w2.heap.size w2 wr) (fun i _ => n - (intOf i).toNat)
  case atStart => exact ⟨0, Nat.zero_le _, rfl, Below.refl _ _⟩
  case round =>
    obtain ⟨k, hk, rfl, hB⟩ := hrel
    have X3 := X2.next hB
    clear c0 c1 c2 c3 z0
    have z0 := X3.lt
    have c0 := X3.c0
    have c1 := X3.c1
    have c2 := X3.c2
    have c3 := X3.c3
    by_cases hlt : k < n
    · have l0 : 2 * k < A.size := by rw [HAn.out]; omega
      have l1 : 2 * k + 1 < A.size := by rw [HAn.out]; omega
      have l2 : ¬ n + k < A.size / 2 := by rw [HAn.out]; omega
      have l3 : k < A.size / 2 := by rw [HAn.out]; omega
      have t0 : (2 * (k : Int)).toNat = 2 * k := by omega
      have t1 : (2 * (k : Int) + 1).toNat = 2 * k + 1 := by omega
      have i0 : 0 ≤ 2 * (k : Int) := by omega
      have i1 : 2 * (k : Int) < (A.size : Int) := by omega
      have i2 : 0 ≤ 2 * (k : Int) + 1 := by omega
      have i3 : 2 * (k : Int) + 1 < (A.size : Int) := by omega
      have e0 : padS A (k : Int) 0 = ((A[2 * k]'l0).toNat : Int) := padS_yes A k 0 (by omega) (by omega) l0
      have e1 : padS A (k : Int) 1 = ((A[2 * k + 1]'l1).toNat : Int) := padS_yes A k 1 (by omega) (by omega) l1
      have hp0 := fun wr => KP.out (k : Int) 0 wr
      have hp1 := fun wr => KP.out (k : Int) 1 wr
      have hp2 := fun wr => KP.out (k : Int) 2 wr
      have hp3 := fun wr => KP.out (-1 - (k : Int)) 0 wr
      have hp4 := fun wr => KP.out ((n : Int) + (k : Int)) 1 wr
      rw [e0] at hp0
      rw [e1] at hp1
      rw [padS_no A _ _ (by omega)] at hp2 hp3 hp4
      have q0 := cell_regrown c0
      have q1 := cell_regrown c1
      have q2 := cell_regrown c2
      have q3 := cell_regrown c3
      clear e0 e1 KP l2 l3
      go_wp2_with fail
      (refine wp_region_quiet_below (by kernel_rfl) (by kernel_rfl) ?_); (repeat (go_big_quiet_step ((go_at_call 20; first | (with_reducible exact Calls.regrown_of (hp0 _)) | (with_reducible exact Calls.regrown_of (hp1 _)) | (with_reducible exact Calls.regrown_of (hp2 _)) | (with_reducible exact Calls.regrown_of (hp3 _)) | (with_reducible exact Calls.regrown_of (hp4 _)))))); (refine wpQuiet_nil ?_); intro _ hw'; obtain ⟨⟨dq, osq⟩, hw''⟩ := hw'; (subst hw''); have hq := below_regrown wr dq osq; generalize Go.Sort.grow (redrawn wr dq) osq = wq at hq ⊢
      have hBq := hB.next hq
      go_wp2
      go_roundw
      case rel => exact ⟨k + 1, by omega, by go_num, hBq⟩
      case measure => simp [intOf]; omega
    · have B3 := B2.next hB
      have Hri := Lib.hid hri
      clear X2 B2 hB KP hri
      go_wp2
      go_loopw [5, 6] (fun u i wr' => ∃ (k : Nat), k ≤ n ∧ i = .int .i64 k ∧ u = .int .i64 (cntB L k : Nat) ∧ Below wr.heap.size wr wr') (fun _ i _ => n - (intOf i).toNat)
      case atStart => exact ⟨0, Nat.zero_le _, rfl, by rw [cnt_none L ((0 : Nat) : Int) (fun x hx => (rises_mem _ L _ Hri.out x hx).1)]; rfl, Below.refl _ _⟩
      case round =>
        obtain ⟨k, hk, rfl, rfl, hB⟩ := hrel
        have X4 := X3.next hB
        have B4 := B3.next hB
        clear c0 c1 c2 c3 z0
        have z0 := X4.lt
        have c0 := X4.c0
        have c1 := X4.c1
        have c2 := X4.c2
        have c3 := X4.c3
        by_cases hlt : k < n
        · have hcn := cnt_next _ L 0 (k : Int) Hri.out
          have hkr := fun wr h => KR.out (k : Int) wr h
          have hle : cntB L k ≤ L.length := List.length_filter_le _ _
          generalize cntB L (k : Int) = m1 at *
          cases hct : L.contains (k : Int)
          · rw [hct] at hcn hkr
            have Hkr := Lib.hid hkr
            rw [if_neg (by simp)] at hcn
            have Hcn := Lib.hid hcn
            clear hct hcn hkr KR
            go_wp2_with fail
            ((with_reducible refine (Hkr.out _ B4).mono ?_))
            rintro e w5 ⟨rfl, hB5⟩
            have B5 := hB.next hB5
            go_wp2
            go_roundw
            case rel => exact ⟨k + 1, by omega, by go_num, by rw [show ((k + 1 : Nat) : Int) = (k : Int) + 1 by omega, Hcn.out]; simp, B5⟩
            case measure => simp [intOf]; omega
          · rw [hct] at hcn hkr
            have Hkr := Lib.hid hkr
            rw [if_pos rfl] at hcn
            have Hcn := Lib.hid hcn
            clear hct hcn hkr KR
            go_wp2_with fail
            ((with_reducible refine (Hkr.out _ B4).mono ?_))
            rintro e w5 ⟨rfl, hB5⟩
            have B5 := hB.next hB5
            go_wp2
            go_roundw
            case rel => exact ⟨k + 1, by omega, by go_num, by rw [show ((k + 1 : Nat) : Int) = (k : Int) + 1 by omega, Hcn.out]; go_num, B5⟩
            case measure => simp [intOf]; omega
        · obtain rfl : k = n := by omega
          have hce : cntB L (k : Int) = N := (cnt_all L _ (fun x hx => (rises_mem _ L _ Hri.out x hx).2)).trans hN
          rw [hce]
          have hk1 := fun wr h => KR.out (k : Int) wr h
          have hk2 := fun wr h => KR.out (-1 : Int) wr h
          have d1 : L.contains (k : Int) = false := by
            rw [Bool.eq_false_iff]
            intro hc
            have := rises_mem _ L _ Hri.out _ (List.contains_iff_mem.1 hc)
            omega
          have d2 : L.contains (-1 : Int) = false := by
            rw [Bool.eq_false_iff]
            intro hc
            have := rises_mem _ L _ Hri.out _ (List.contains_iff_mem.1 hc)
            omega
          rw [d1] at hk1
          rw [d2] at hk2
          have Hk1 := Lib.hid hk1
          have Hk2 := Lib.hid hk2
          clear d1 d2 hk1 hk2 KR hce hlt
          go_wp2_with fail
          ((with_reducible refine (Hk1.out _ B4).mono ?_))
          rintro e w5 ⟨rfl, hB5⟩
          have X5 := X4.next hB5
          have B5 := B4.next hB5
          clear c0 c1 c2 c3 z0 hB5
          have z0 := X5.lt
          have c0 := X5.c0
          have c1 := X5.c1
          have c2 := X5.c2
          have c3 := X5.c3
          go_wp2_with fail
          ((with_reducible refine (Hk2.out _ B5).mono ?_))
          rintro e w6 ⟨rfl, hB6⟩
          have B6 := B5.next hB6
          go_wp2_with fail
          ((with_reducible refine (KA.out _).mono ?_))
          rintro e w7 ⟨rfl, hB7⟩
          have B7 := B6.next hB7
          go_wp2
          go_ret
          exact ⟨rfl, B7⟩
end Go.Proofs.Ytjiilcnbajcdhaa
