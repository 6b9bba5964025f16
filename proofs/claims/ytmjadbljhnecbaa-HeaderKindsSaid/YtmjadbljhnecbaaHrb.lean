/-
  The document's Check. Contract over this seat's translation; no condition.
-/
import Derived.Test.YtmjadbljhnecbaaHra
namespace Go.Proofs.Ytmjadbljhnecbaa
open Go.RowKit

theorem prg_step {x : Int} (h : prgOk x = true) (h2 : x < 524288) : prgOk (2 * x) = true := by rw [prgOk_iff] at h ⊢; omega
theorem chr_step {x : Int} (h : chrOk x = true) (h2 : x < 262144) : chrOk (2 * x) = true := by rw [chrOk_iff] at h ⊢; omega
theorem prg_end {x p : Int} (h : prgOk x = true) (h1 : x = 16384 ∨ x / 2 < p) (h2 : ¬ x < p ∨ ¬ x < 524288) : decide (x = p) = prgOk p := by
  rw [Bool.eq_iff_iff, decide_eq_true_eq, prgOk_iff]
  rw [prgOk_iff] at h
  omega
theorem chr_end {x p : Int} (h : chrOk x = true) (h1 : x = 8192 ∨ x / 2 < p) (h2 : ¬ x < p ∨ ¬ x < 262144) : decide (x = p) = chrOk p := by
  rw [Bool.eq_iff_iff, decide_eq_true_eq, chrOk_iff]
  rw [chrOk_iff] at h
  omega
theorem siz_end {n p q k : Int} {o : Bool} (h1 : decide (n = p) = prgOk p) (h2 : decide (q = k) = chrOk k) : sizOk p k o = (decide (n = p) && decide (q = k) && (!o || decide (k = 8192))) := by
  unfold sizOk
  rw [h1, h2]
set_option maxRecDepth 100000 in
set_option maxHeartbeats 8000000 in
theorem rcheck_ct (c : Crt) (w : World) : Calls Try.prog 16 #[crtV c] w fun e w' => e = .returned (.int .i64 (chkN c)) ∧ Below w.heap.size w w' := by
  obtain ⟨m, s, p, k, b, f, v, t0, o⟩ := c
  unfold crtV chkN chkV
  simp only []
  cases hm : mapOk m
  · have hn : ¬ (m = 0 ∨ m = 1 ∨ m = 2 ∨ m = 3 ∨ m = 4 ∨ m = 7) := fun h => by rw [mapOk_iff.2 h] at hm; cases hm
    have n0 : (m == 0) = false := by rw [beq_eq_false_iff_ne]; omega
    have n1 : (m == 1) = false := by rw [beq_eq_false_iff_ne]; omega
    have n2 : (m == 2) = false := by rw [beq_eq_false_iff_ne]; omega
    have n3 : (m == 3) = false := by rw [beq_eq_false_iff_ne]; omega
    have n4 : (m == 4) = false := by rw [beq_eq_false_iff_ne]; omega
    have n7 : (m == 7) = false := by rw [beq_eq_false_iff_ne]; omega
    have u0 : (m != 0) = true := by simp; omega
    have u1 : (m != 1) = true := by simp; omega
    have u2 : (m != 2) = true := by simp; omega
    have u3 : (m != 3) = true := by simp; omega
    have u4 : (m != 4) = true := by simp; omega
    have u7 : (m != 7) = true := by simp; omega
    clear hm hn
    go_enter Try.func16, Try.ntmps16
    go_wp2
    go_ret
    exact ⟨rfl, (by repeat' (first | exact Below.refl _ _ | (refine Below.setCell ?_ (by first | (simp; done) | (simp; omega) | omega) _) | (refine Below.drew ?_) | (refine Below.drewN ?_ _) | (refine Below.alloc ?_ (by first | (simp; done) | (simp; omega) | omega) _)))⟩
  · have hn := mapOk_iff.1 hm
    have HN := Lib.hid hn
    simp only [if_true]
    obtain ⟨E, hE⟩ : ∃ E, (if sizOk p k o = true then subN s t0 else 5) = E := ⟨_, rfl⟩
    rw [hE]
    have HE := Lib.hid hE
    clear hm hn hE
    go_enter Try.func16, Try.ntmps16
    go_upto_region 1 with fail
    go_cut [32] (fun t wx => t = .bool false ∧ CX wx w.heap.size ⟨m, s, p, k, b, f, v, t0, o⟩ ∧ Below w.heap.size w wx)
    case first => as_aux_lemma =>
      have X := CX.new w ⟨m, s, p, k, b, f, v, t0, o⟩
      rcases HN.out with rfl | rfl | rfl | rfl | rfl | rfl
      all_goals
        go_wp2
        go_meet
        exact ⟨rfl, X, (by repeat' (first | exact Below.refl _ _ | (refine Below.setCell ?_ (by first | (simp; done) | (simp; omega) | omega) _) | (refine Below.drew ?_) | (refine Below.drewN ?_ _) | (refine Below.alloc ?_ (by first | (simp; done) | (simp; omega) | omega) _)))⟩
    case rest =>
    obtain ⟨rfl, X, B⟩ := hcut
    have HX := Lib.hid X
    have HB := Lib.hid B
    (skip); have Xz := X.lt; have X0 := X.c0; have X1 := X.c1; have X2 := X.c2; have X3 := X.c3; have X4 := X.c4; have X5 := X.c5; have X6 := X.c6; have X7 := X.c7; have X8 := X.c8; (try dsimp only at X0 X1 X2 X3 X4 X5 X6 X7 X8)
    clear X B
    go_wp2
    go_loopw [3] (fun x wr => ∃ n : Int, x = .int .i64 n ∧ Hid (prgOk n = true) ∧ (16384 ≤ n ∧ n ≤ 524288) ∧ Hid (n = 16384 ∨ n / 2 < p) ∧ wr = wc) (fun x _ => (524288 - intOf x).toNat)
    case atStart => exact ⟨16384, rfl, Lib.hid (by decide), by omega, Lib.hid (.inl rfl), rfl⟩
    case round =>
      obtain ⟨n, rfl, hn, hb, hh, rfl⟩ := hrel
      by_cases h1 : n < p
      · by_cases h2 : n < 524288
        · go_wp2
          go_roundw
          case rel => exact ⟨2 * n, rfl, Lib.hid (prg_step hn.out h2), (by have := prgOk_iff.1 hn.out; omega), Lib.hid (.inr (by omega)), by first | rfl | trivial⟩
          case measure => simp [intOf]; omega
        · have he := prg_end hn.out hh.out (.inr h2)
          have He := Lib.hid he
          clear he hn hh
          go_wp2
          go_loopw [4] (fun x wr' => ∃ q : Int, x = .int .i64 q ∧ Hid (chrOk q = true) ∧ (8192 ≤ q ∧ q ≤ 262144) ∧ Hid (q = 8192 ∨ q / 2 < k) ∧ wr' = wr) (fun x _ => (262144 - intOf x).toNat)
          case atStart => exact ⟨8192, rfl, Lib.hid (by decide), by omega, Lib.hid (.inl rfl), rfl⟩
          case round =>
            obtain ⟨q, rfl, hn', hb', hh', rfl⟩ := hrel
            by_cases g1 : q < k
            · by_cases g2 : q < 262144
              · go_wp2
                go_roundw
                case rel => exact ⟨2 * q, rfl, Lib.hid (chr_step hn'.out g2), (by have := chrOk_iff.1 hn'.out; omega), Lib.hid (.inr (by omega)), by first | rfl | trivial⟩
                case measure => simp [intOf]; omega
              · have hz := siz_end (o := o) He.out (chr_end hn'.out hh'.out (.inr g2))
                have Hz := Lib.hid hz
                clear hz hn' hh'
                cases o <;> cases t0
                all_goals
                  go_wp2
                  all_goals
                    go_ret
                    refine ⟨ret_i ?_, HB.out⟩
                    rw [← HE.out, Hz.out]
                    (first | (simp_all [subN]; done) | (simp_all [subN]; omega) | (unfold subN; split <;> simp_all <;> omega))
            · have hz := siz_end (o := o) He.out (chr_end hn'.out hh'.out (.inl g1))
              have Hz := Lib.hid hz
              clear hz hn' hh'
              cases o <;> cases t0
              all_goals
                go_wp2
                all_goals
                  go_ret
                  refine ⟨ret_i ?_, HB.out⟩
                  rw [← HE.out, Hz.out]
                  (first | (simp_all [subN]; done) | (simp_all [subN]; omega) | (unfold subN; split <;> simp_all <;> omega))
      · have he := prg_end hn.out hh.out (.inl h1)
        have He := Lib.hid he
        clear he hn hh
        go_wp2
        go_loopw [4] (fun x wr' => ∃ q : Int, x = .int .i64 q ∧ Hid (chrOk q = true) ∧ (8192 ≤ q ∧ q ≤ 262144) ∧ Hid (q = 8192 ∨ q / 2 < k) ∧ wr' = wr) (fun x _ => (262144 - intOf x).toNat)
        case atStart => exact ⟨8192, rfl, Lib.hid (by decide), by omega, Lib.hid (.inl rfl), rfl⟩
        case round =>
          obtain ⟨q, rfl, hn', hb', hh', rfl⟩ := hrel
          by_cases g1 : q < k
          · by_cases g2 : q < 262144
            · go_wp2
              go_roundw
              case rel => exact ⟨2 * q, rfl, Lib.hid (chr_step hn'.out g2), (by have := chrOk_iff.1 hn'.out; omega), Lib.hid (.inr (by omega)), by first | rfl | trivial⟩
              case measure => simp [intOf]; omega
            · have hz := siz_end (o := o) He.out (chr_end hn'.out hh'.out (.inr g2))
              have Hz := Lib.hid hz
              clear hz hn' hh'
              cases o <;> cases t0
              all_goals
                go_wp2
                all_goals
                  go_ret
                  refine ⟨ret_i ?_, HB.out⟩
                  rw [← HE.out, Hz.out]
                  (first | (simp_all [subN]; done) | (simp_all [subN]; omega) | (unfold subN; split <;> simp_all <;> omega))
          · have hz := siz_end (o := o) He.out (chr_end hn'.out hh'.out (.inl g1))
            have Hz := Lib.hid hz
            clear hz hn' hh'
            cases o <;> cases t0
            all_goals
              go_wp2
              all_goals
                go_ret
                refine ⟨ret_i ?_, HB.out⟩
                rw [← HE.out, Hz.out]
                (first | (simp_all [subN]; done) | (simp_all [subN]; omega) | (unfold subN; split <;> simp_all <;> omega))
end Go.Proofs.Ytmjadbljhnecbaa
