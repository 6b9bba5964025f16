/-
  Package script's Frames, Check, Pad and Reset. Over this seat's translation; no condition but that numbers read as a list, and that a text is no longer than a slice may be.
-/
import Derived.Test.YtdafilfnmdfacaaScv
namespace Go.Proofs.Ytdafilfnmdfacaa
open Go.RowKit

set_option maxHeartbeats 1000000 in
theorem frames_ct (a s m : ByteArray) (ra : Option Addr) (rl rc : Nat) (w : World) (ha : a.size ≤ maxLen) :
    Calls Try.prog 15 #[scrV a (.slice ra rl rc) s m] w fun e w' => e = .returned (.int .i64 ((a.size / 2 : Nat) : Int)) ∧ Below w.heap.size w w' := by
  unfold maxLen at ha
  have e1 : Int.tdiv (a.size : Int) 2 = ((a.size / 2 : Nat) : Int) := by
    rw [Int.tdiv_eq_ediv_of_nonneg (by omega)]; omega
  unfold scrV
  go_enter Try.func15, Try.ntmps15
  go_wp2
  go_ret
  exact ⟨rfl, (by repeat' (first | exact Below.refl _ _ | (refine Below.setCell ?_ (by first | (simp; done) | (simp; omega) | omega) _) | (refine Below.drew ?_) | (refine Below.drewN ?_ _) | (refine Below.alloc ?_ (by first | (simp; done) | (simp; omega) | omega) _)))⟩
/-- What Check tells: 0, or 8. -/
def okS (b : Bool) : Int := if b then 0 else 8
theorem scrMay_no {a s m : ByteArray} {l : List Int} (h : sizesB a s m = false) : scrMay a l s m = false := by simp [scrMay, h]
theorem scrMay_yes {a s m : ByteArray} {l : List Int} (h : sizesB a s m = true) : scrMay a l s m = risesB ((a.size / 2 : Nat) : Int) 0 l := by simp [scrMay, h]
set_option maxHeartbeats 2000000 in
theorem scheck_no (a s m : ByteArray) (ra : Option Addr) (rl rc : Nat) (w : World) (ha : a.size ≤ maxLen) (hs : s.size ≤ maxLen) (hm : m.size ≤ maxLen) (h : sizesB a s m = false) :
    Calls Try.prog 16 #[scrV a (.slice ra rl rc) s m] w fun e w' => e = .returned (.int .i64 8) ∧ Below w.heap.size w w' := by
  have HF := Lib.hid (fun W => frames_ct a s m ra rl rc W ha)
  unfold maxLen at ha hs hm
  unfold sizesB at h
  have e1 : Int.tmod (a.size : Int) 2 = ((a.size % 2 : Nat) : Int) := by
    rw [Int.tmod_eq_emod_of_nonneg (by omega)]; omega
  unfold scrV at HF ⊢
  by_cases h1 : a.size % 2 = 0
  · by_cases h2 : a.size ≤ 1200
    · have h2' : (a.size / 2 : Nat) ≤ 600 := by omega
      obtain ⟨n, hn⟩ : ∃ n, (a.size / 2 : Nat) = n := ⟨_, rfl⟩
      rw [hn] at HF h2'
      by_cases h3 : s.size ≤ 8192
      · have h4 : ¬ m.size ≤ 2048 := by
          intro h4
          simp [h1, h2, h3, h4] at h
        clear h
        go_enter Try.func16, Try.ntmps16
        go_wp2_with fail
        refine (HF.out _).mono ?_
        rintro e w1 ⟨rfl, hB⟩
        obtain ⟨hc, hf⟩ := bcell hB
        simp at hc hf
        go_wp2
        go_ret
        exact ⟨rfl, (by repeat' (first | exact Below.refl _ _ | (refine Below.setCell ?_ (by first | (simp; done) | (simp; omega) | omega) _) | (refine Below.drew ?_) | (refine Below.drewN ?_ _) | (refine Below.alloc ?_ (by first | (simp; done) | (simp; omega) | omega) _) | (refine Below.trans ?_ (Below.mono hB (by first | (simp; done) | (simp; omega) | omega)))))⟩
      · clear h
        go_enter Try.func16, Try.ntmps16
        go_wp2_with fail
        refine (HF.out _).mono ?_
        rintro e w1 ⟨rfl, hB⟩
        obtain ⟨hc, hf⟩ := bcell hB
        simp at hc hf
        go_wp2
        go_ret
        exact ⟨rfl, (by repeat' (first | exact Below.refl _ _ | (refine Below.setCell ?_ (by first | (simp; done) | (simp; omega) | omega) _) | (refine Below.drew ?_) | (refine Below.drewN ?_ _) | (refine Below.alloc ?_ (by first | (simp; done) | (simp; omega) | omega) _) | (refine Below.trans ?_ (Below.mono hB (by first | (simp; done) | (simp; omega) | omega)))))⟩
    · have h2' : ¬ (a.size / 2 : Nat) ≤ 600 := by omega
      obtain ⟨n, hn⟩ : ∃ n, (a.size / 2 : Nat) = n := ⟨_, rfl⟩
      rw [hn] at HF h2'
      clear h
      go_enter Try.func16, Try.ntmps16
      go_wp2_with fail
      refine (HF.out _).mono ?_
      rintro e w1 ⟨rfl, hB⟩
      obtain ⟨hc, hf⟩ := bcell hB
      simp at hc hf
      go_wp2
      go_ret
      exact ⟨rfl, (by repeat' (first | exact Below.refl _ _ | (refine Below.setCell ?_ (by first | (simp; done) | (simp; omega) | omega) _) | (refine Below.drew ?_) | (refine Below.drewN ?_ _) | (refine Below.alloc ?_ (by first | (simp; done) | (simp; omega) | omega) _) | (refine Below.trans ?_ (Below.mono hB (by first | (simp; done) | (simp; omega) | omega)))))⟩
  · clear h
    go_enter Try.func16, Try.ntmps16
    go_wp2
    go_ret
    exact ⟨rfl, (by repeat' (first | exact Below.refl _ _ | (refine Below.setCell ?_ (by first | (simp; done) | (simp; omega) | omega) _) | (refine Below.drew ?_) | (refine Below.drewN ?_ _) | (refine Below.alloc ?_ (by first | (simp; done) | (simp; omega) | omega) _)))⟩
set_option maxHeartbeats 2000000 in
theorem scheck_yes (a s m : ByteArray) (rv : Value) (l : List Int) (w : World) (hr : Ri w rv l) (ha : a.size ≤ maxLen) (h : sizesB a s m = true) :
    Calls Try.prog 16 #[scrV a rv s m] w fun e w' => e = .returned (.int .i64 (okS (risesB ((a.size / 2 : Nat) : Int) 0 l))) ∧ Below w.heap.size w w' := by
  obtain ⟨ra, rc, rfl, hcap, hn, hr⟩ := hr
  have HF := Lib.hid (fun W => frames_ct a s m ra l.length rc W ha)
  have hw : ∀ k, k < l.length → ∃ b off, ra = some ⟨b, off, none⟩ ∧ b < w.heap.size ∧ w.cell? ⟨b, off + k, none⟩ = some (.int .i64 (nthI l k)) := fun k hk => by
    rcases hr with rfl | ⟨b, off, rfl, hb, hc⟩
    · simp at hk
    exact ⟨b, off, rfl, hb, hc k hk⟩
  have Hw := Lib.hid hw
  clear hw hr
  unfold maxLen at ha hn
  unfold sizesB at h
  simp only [Bool.and_eq_true, decide_eq_true_eq] at h
  obtain ⟨h1, h2, h3, h4⟩ := h
  have e1 : Int.tmod (a.size : Int) 2 = ((a.size % 2 : Nat) : Int) := by
    rw [Int.tmod_eq_emod_of_nonneg (by omega)]; omega
  have h2' : (a.size / 2 : Nat) ≤ 600 := by omega
  obtain ⟨n, hnn⟩ : ∃ n, (a.size / 2 : Nat) = n := ⟨_, rfl⟩
  rw [hnn] at HF h2' ⊢
  have Hdr := Lib.hid (fun least k (hk : k < l.length) => rises_drop (n : Int) least l k hk)
  have Hend := Lib.hid (fun least k (hk : l.length ≤ k) => rises_end (n : Int) least l k hk)
  have H0 : Hid (risesB n 0 l = risesB n 0 (l.drop 0)) := rfl
  generalize hres : risesB n 0 l = res at *
  clear hres
  unfold scrV at HF ⊢
  go_enter Try.func16, Try.ntmps16
  go_wp2_with fail
  refine (HF.out _).mono ?_
  rintro e w1 ⟨rfl, hB⟩
  have hB0 : Below w.heap.size w w1 := (by repeat' (first | exact Below.refl _ _ | (refine Below.setCell ?_ (by first | (simp; done) | (simp; omega) | omega) _) | (refine Below.drew ?_) | (refine Below.drewN ?_ _) | (refine Below.alloc ?_ (by first | (simp; done) | (simp; omega) | omega) _) | (refine Below.trans ?_ (Below.mono hB (by first | (simp; done) | (simp; omega) | omega)))))
  have hz0 : w.heap.size < w1.heap.size := by have := hB.size; simp at this; omega
  have hm := (hB.block w.heap.size (by simp)).trans (World.alloc_heap_new w _)
  have c0 : w1.cell? ⟨w.heap.size, 0, none⟩ = some (.string a) := by rw [Lib.cell_of_heap hm]; rfl
  have c1 : w1.cell? ⟨w.heap.size, 1, none⟩ = some (.slice ra l.length rc) := by rw [Lib.cell_of_heap hm]; rfl
  have c2 : w1.cell? ⟨w.heap.size, 2, none⟩ = some (.string s) := by rw [Lib.cell_of_heap hm]; rfl
  have c3 : w1.cell? ⟨w.heap.size, 3, none⟩ = some (.string m) := by rw [Lib.cell_of_heap hm]; rfl
  clear hm hB
  go_wp2
  go_loopw [3, 31] (fun u i wr => ∃ (k : Nat) (least : Int), k ≤ l.length ∧ i = .int .i64 k ∧ u = .int .i64 least ∧ 0 ≤ least ∧ Hid (res = risesB n least (l.drop k)) ∧ Below w1.heap.size w1 wr) (fun _ i _ => l.length - (intOf i).toNat)
  case atStart => exact ⟨0, 0, Nat.zero_le _, rfl, rfl, Int.le_refl _, H0, Below.refl _ _⟩
  case round =>
    obtain ⟨k, least, hk, rfl, rfl, hle, he, hB⟩ := hrel
    have hB2 := hB0.next hB
    by_cases hlt : k < l.length
    · obtain ⟨b, off, rfl, hb, hx⟩ := Hw.out k hlt
      rw [← hB2.cell hb] at hx
      have hd := Hdr.out least k hlt
      obtain ⟨hc, hf⟩ := bcell hB
      generalize nthI l k = x at *
      have HB2 := Lib.hid hB
      clear hB hB2
      by_cases g1 : least ≤ x
      · by_cases g2 : x < n
        · rw [decide_eq_true g1, decide_eq_true g2, Bool.true_and, Bool.true_and] at hd
          have Hd : Hid (res = risesB n (x + 1) (l.drop (k + 1))) := he.out.trans hd
          have g3 : 0 ≤ x + 1 := by omega
          clear he hd Hdr Hw Hend H0
          go_wp2_with fail
          refine (HF.out _).mono ?_
          rintro e w2 ⟨rfl, hB3⟩
          have hB4 := HB2.out.next hB3
          go_wp2
          go_roundw
          case rel => exact ⟨k + 1, x + 1, by omega, by go_num, by go_num, g3, Hd, hB4⟩
          case measure => simp [intOf]; omega
        · rw [decide_eq_false g2, Bool.false_and, Bool.and_false] at hd
          have Hd : Hid (res = false) := he.out.trans hd
          clear he hd Hdr Hw Hend H0
          go_wp2_with fail
          refine (HF.out _).mono ?_
          rintro e w2 ⟨rfl, hB3⟩
          have hB4 := hB0.next (HB2.out.next hB3)
          go_wp2
          go_ret
          exact ⟨by rw [Hd.out]; rfl, hB4⟩
      · rw [decide_eq_false g1, Bool.false_and] at hd
        have Hd : Hid (res = false) := he.out.trans hd
        clear he hd Hdr Hw Hend H0
        go_wp2
        go_ret
        exact ⟨by rw [Hd.out]; rfl, hB0.next HB2.out⟩
    · have Hd : Hid (res = true) := he.out.trans (Hend.out least k (by omega))
      clear he Hdr Hw Hend H0
      go_wp2
      go_ret
      exact ⟨by rw [Hd.out]; rfl, hB2⟩
theorem scheck_ct (a s m : ByteArray) (rv : Value) (l : List Int) (w : World) (hr : Ri w rv l) (ha : a.size ≤ maxLen) (hs : s.size ≤ maxLen) (hm : m.size ≤ maxLen) :
    Calls Try.prog 16 #[scrV a rv s m] w fun e w' => e = .returned (.int .i64 (okS (scrMay a l s m))) ∧ Below w.heap.size w w' := by
  cases h : sizesB a s m
  · rw [scrMay_no h]
    obtain ⟨ra, rc, rfl, _⟩ := hr
    exact scheck_no a s m ra _ rc w ha hs hm h
  · rw [scrMay_yes h]
    exact scheck_yes a s m rv l w hr ha h
theorem padS_no (a : ByteArray) (f p : Int) (h : ¬ (0 ≤ f ∧ f < ((a.size / 2 : Nat) : Int) ∧ 0 ≤ p ∧ p < 2)) : padS a f p = 0 := by
  unfold padS; rw [if_neg h]
theorem padS_yes (a : ByteArray) (i j : Nat) (hi : i < a.size / 2) (hj : j < 2) (hlt : 2 * i + j < a.size) : padS a i j = ((a[2 * i + j]'hlt).toNat : Int) := by
  unfold padS
  rw [if_pos (by omega), show (2 * (i : Int) + (j : Int)).toNat = 2 * i + j by omega, byteAt_lt _ _ hlt]
set_option maxHeartbeats 2000000 in
theorem pad_ct (a s m : ByteArray) (ra : Option Addr) (rl rc : Nat) (f p : Int) (w : World) (ha : a.size ≤ maxLen) :
    Calls Try.prog 14 #[scrV a (.slice ra rl rc) s m, .int .i64 f, .int .i64 p] w fun e w' => e = .returned (.int .u8 (padS a f p)) ∧ Below w.heap.size w w' := by
  have HF := Lib.hid (fun W => frames_ct a s m ra rl rc W ha)
  unfold maxLen at ha
  unfold scrV at HF ⊢
  by_cases h1 : 0 ≤ f
  · obtain ⟨i, rfl⟩ := Int.eq_ofNat_of_zero_le h1
    by_cases h2 : i < a.size / 2
    · by_cases h3 : 0 ≤ p
      · obtain ⟨j, rfl⟩ := Int.eq_ofNat_of_zero_le h3
        by_cases h4 : j < 2
        · have hlt : 2 * i + j < a.size := by omega
          rw [padS_yes a i j h2 h4 hlt]
          obtain ⟨n, hn⟩ : ∃ n, a.size / 2 = n := ⟨_, rfl⟩
          rw [hn] at HF h2
          have hn2 : n ≤ a.size := by omega
          clear hn
          go_enter Try.func14, Try.ntmps14
          go_wp2_with fail
          refine (HF.out _).mono ?_
          rintro e w1 ⟨rfl, hB⟩
          obtain ⟨hc, hf⟩ := bcell hB
          simp at hc hf
          go_wp2
          go_ret
          exact ⟨rfl, (by repeat' (first | exact Below.refl _ _ | (refine Below.setCell ?_ (by first | (simp; done) | (simp; omega) | omega) _) | (refine Below.drew ?_) | (refine Below.drewN ?_ _) | (refine Below.alloc ?_ (by first | (simp; done) | (simp; omega) | omega) _) | (refine Below.trans ?_ (Below.mono hB (by first | (simp; done) | (simp; omega) | omega)))))⟩
        · rw [padS_no _ _ _ (by omega)]
          obtain ⟨n, hn⟩ : ∃ n, a.size / 2 = n := ⟨_, rfl⟩
          rw [hn] at HF h2
          clear hn
          go_enter Try.func14, Try.ntmps14
          go_wp2_with fail
          refine (HF.out _).mono ?_
          rintro e w1 ⟨rfl, hB⟩
          go_wp2
          go_ret
          exact ⟨rfl, (by repeat' (first | exact Below.refl _ _ | (refine Below.setCell ?_ (by first | (simp; done) | (simp; omega) | omega) _) | (refine Below.drew ?_) | (refine Below.drewN ?_ _) | (refine Below.alloc ?_ (by first | (simp; done) | (simp; omega) | omega) _) | (refine Below.trans ?_ (Below.mono hB (by first | (simp; done) | (simp; omega) | omega)))))⟩
      · rw [padS_no _ _ _ (by omega)]
        obtain ⟨n, hn⟩ : ∃ n, a.size / 2 = n := ⟨_, rfl⟩
        rw [hn] at HF h2
        clear hn
        go_enter Try.func14, Try.ntmps14
        go_wp2_with fail
        refine (HF.out _).mono ?_
        rintro e w1 ⟨rfl, hB⟩
        go_wp2
        go_ret
        exact ⟨rfl, (by repeat' (first | exact Below.refl _ _ | (refine Below.setCell ?_ (by first | (simp; done) | (simp; omega) | omega) _) | (refine Below.drew ?_) | (refine Below.drewN ?_ _) | (refine Below.alloc ?_ (by first | (simp; done) | (simp; omega) | omega) _) | (refine Below.trans ?_ (Below.mono hB (by first | (simp; done) | (simp; omega) | omega)))))⟩
    · rw [padS_no _ _ _ (by omega)]
      obtain ⟨n, hn⟩ : ∃ n, a.size / 2 = n := ⟨_, rfl⟩
      rw [hn] at HF h2
      clear hn
      go_enter Try.func14, Try.ntmps14
      go_wp2_with fail
      refine (HF.out _).mono ?_
      rintro e w1 ⟨rfl, hB⟩
      go_wp2
      go_ret
      exact ⟨rfl, (by repeat' (first | exact Below.refl _ _ | (refine Below.setCell ?_ (by first | (simp; done) | (simp; omega) | omega) _) | (refine Below.drew ?_) | (refine Below.drewN ?_ _) | (refine Below.alloc ?_ (by first | (simp; done) | (simp; omega) | omega) _) | (refine Below.trans ?_ (Below.mono hB (by first | (simp; done) | (simp; omega) | omega)))))⟩
  · rw [padS_no _ _ _ (by omega)]
    go_enter Try.func14, Try.ntmps14
    go_wp2
    go_ret
    exact ⟨rfl, (by repeat' (first | exact Below.refl _ _ | (refine Below.setCell ?_ (by first | (simp; done) | (simp; omega) | omega) _) | (refine Below.drew ?_) | (refine Below.drewN ?_ _) | (refine Below.alloc ?_ (by first | (simp; done) | (simp; omega) | omega) _)))⟩
end Go.Proofs.Ytdafilfnmdfacaa
