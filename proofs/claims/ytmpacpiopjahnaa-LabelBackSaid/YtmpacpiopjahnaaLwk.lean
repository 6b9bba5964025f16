/-
  The walk of layer 1's law on a byte's eight bits, over this seat's translation: it returns true, and writes nothing that was there. Each value of a byte is from 0 to 255.
-/
import Derived.Test.YtmpacpiopjahnaaLbn
namespace Go.Proofs.Ytmpacpiopjahnaa
open Go.RowKit

/-- What k bits make together. -/
def lowBits (a : Int) (k : Nat) : Int := a % 2 ^ k
theorem lowBits_zero (a : Int) : lowBits a 0 = 0 := by simp [lowBits, Int.emod_one]
theorem lowBits_bounds (a : Int) (k : Nat) (h : k ≤ 8) : 0 ≤ lowBits a k ∧ lowBits a k < 256 := by
  have hp : (0 : Int) < 2 ^ k := Int.pow_pos (by omega)
  have h2 : (2 : Int) ^ k ≤ 256 := (pw_bounds k h).2
  have := Int.emod_nonneg a (Int.ne_of_gt hp)
  have := Int.emod_lt_of_pos a hp
  unfold lowBits
  omega
theorem lowBits_end (a : Int) (h0 : 0 ≤ a) (h1 : a < 256) : lowBits a 8 = a := Int.emod_eq_of_lt h0 h1
theorem lowBits_succ_nat (a k : Nat) (hk : k < 8) : (a % 2 ^ k) ||| ((a / 2 ^ k % 2) * 2 ^ k % 256) = a % 2 ^ (k + 1) := by
  have hp : 2 ^ k ≤ 128 := by
    have : 2 ^ k ≤ 2 ^ 7 := Nat.pow_le_pow_right (by omega) (by omega)
    omega
  have hb : a / 2 ^ k % 2 < 2 := Nat.mod_lt _ (by omega)
  have hs : (a / 2 ^ k % 2) * 2 ^ k < 256 := by
    have : (a / 2 ^ k % 2) * 2 ^ k ≤ 1 * 2 ^ k := Nat.mul_le_mul_right _ (by omega)
    omega
  rw [Nat.mod_eq_of_lt hs, Nat.mod_pow_succ, Nat.or_comm]
  have := Nat.shiftLeft_add_eq_or_of_lt (a := a / 2 ^ k % 2) (b := a % 2 ^ k) (i := k) (Nat.mod_lt _ (Nat.pow_pos (by omega)))
  rw [Nat.shiftLeft_eq] at this
  rw [← this, Nat.add_comm, Nat.mul_comm]
theorem lowBits_or (a : Int) (k : Nat) (hk : k < 8) (h0 : 0 ≤ a) (h1 : a < 256) : bits .or .u8 (lowBits a k) (bitV a k * 2 ^ k % 256) = lowBits a (k + 1) := by
  obtain ⟨n, rfl⟩ := Int.eq_ofNat_of_zero_le h0
  have e1 : lowBits n k = ((n % 2 ^ k : Nat) : Int) := by unfold lowBits; simp
  have e2 : bitV n k * 2 ^ k % 256 = ((n / 2 ^ k % 2 * 2 ^ k % 256 : Nat) : Int) := by
    rw [bitV, if_pos (by omega), Int.toNat_natCast]; simp
  have e3 : lowBits n (k + 1) = ((n % 2 ^ (k + 1) : Nat) : Int) := by unfold lowBits; simp
  have hb := lowBits_bounds n k (by omega)
  rw [e1] at hb
  rw [e1, e2, e3, u8_or_nat _ _ (by omega) (Nat.mod_lt _ (by omega)), lowBits_succ_nat n k hk]
theorem xor255 (a : Int) (h0 : 0 ≤ a) (h1 : a < 256) : ∃ x, bits .xor .u8 a 255 = x ∧ bits .and .u8 a x = 0 ∧ bits .or .u8 a x = 255 ∧ bits .xor .u8 a a = 0 := by
  obtain ⟨n, rfl⟩ := Int.eq_ofNat_of_zero_le h0
  have hn : n < 256 := by omega
  have e : bits .xor .u8 (n : Int) 255 = ((n ^^^ 255 : Nat) : Int) := u8_xor_nat n 255 hn (by omega)
  have hl : n ^^^ 255 < 256 := Nat.xor_lt_two_pow (n := 8) hn (by omega)
  refine ⟨_, e, ?_, ?_, ?_⟩
  · rw [u8_and_nat _ _ hn hl]
    have : ∀ m : Fin 256, m.val &&& (m.val ^^^ 255) = 0 := by decide +kernel
    rw [this ⟨n, hn⟩]; rfl
  · rw [u8_or_nat _ _ hn hl]
    have : ∀ m : Fin 256, m.val ||| (m.val ^^^ 255) = 255 := by decide +kernel
    rw [this ⟨n, hn⟩]; rfl
  · rw [u8_xor_nat _ _ hn hn, Nat.xor_self]; rfl
theorem BC.put {w : World} {g : Nat} {a : Int} {s : Bool} (h : BC w g a s) (x : Int) (y : Bool) : BC ((w.setCell ⟨g, 0, none⟩ (.int .u8 x)).setCell ⟨g, 1, none⟩ (.bool y)) g x y := by
  obtain ⟨h1, h2, h3⟩ := h
  refine ⟨by simpa [World.setCell] using h1, ?_, ?_⟩
  · rw [World.cell?_setCell_other _ _ _ _ (by simp)]
    exact World.cell?_setCell_same _ _ _ h2
  · refine World.cell?_setCell_same _ _ _ (u := .bool s) ?_
    rw [World.cell?_setCell_other _ _ _ _ (by simp)]
    exact h3
theorem BC.off {w : World} {g g' : Nat} {a : Int} {s : Bool} (h : BC w g a s) (hn : g' ≠ g) (o : Nat) (v : Value) : BC (w.setCell ⟨g', o, none⟩ v) g a s := by
  obtain ⟨h1, h2, h3⟩ := h
  refine ⟨by simpa [World.setCell] using h1, ?_, ?_⟩
  · rw [World.cell?_setCell_far _ _ _ _ hn]; exact h2
  · rw [World.cell?_setCell_far _ _ _ _ hn]; exact h3
set_option maxRecDepth 100000 in
set_option maxHeartbeats 4000000 in
theorem back_walk (a : Int) (s : Bool) (w : World) (ha : 0 ≤ a ∧ a < 256) :
    Calls Try.prog 9 #[.agg #[.int .u8 a, .bool s]] w fun e w' => e = .returned (.bool true) ∧ Below w.heap.size w w' := by
  obtain ⟨a0, a1⟩ := ha
  go_enter Try.func9, Try.ntmps9
  go_wp2_with fail
  have kz : BC ((w.alloc (.cells #[.int .u8 a, .bool s] 24)).alloc (.cells #[.int .u8 0, .bool false] 24)) w.heap.size a s := ⟨(by first | (simp; done) | (simp; omega) | omega), (by simp [go_sem]), (by simp [go_sem])⟩
  have ky : BC ((w.alloc (.cells #[.int .u8 a, .bool s] 24)).alloc (.cells #[.int .u8 0, .bool false] 24)) (w.heap.size + 1) 0 false := ⟨(by first | (simp; done) | (simp; omega) | omega), (by simp [go_sem]), (by simp [go_sem])⟩
  have fy : ∀ o, ((w.alloc (.cells #[.int .u8 a, .bool s] 24)).alloc (.cells #[.int .u8 0, .bool false] 24)).frozen? ⟨w.heap.size + 1, o, none⟩ = false := fun o => (by simp [go_sem])
  have hB : Below w.heap.size w ((w.alloc (.cells #[.int .u8 a, .bool s] 24)).alloc (.cells #[.int .u8 0, .bool false] 24)) := (by repeat' (first | exact Below.refl _ _ | (refine Below.setCell ?_ (by first | (simp; done) | (simp; omega) | omega) _) | (refine Below.drew ?_) | (refine Below.drewN ?_ _) | (refine Below.alloc ?_ (by first | (simp; done) | (simp; omega) | omega) _)))
  generalize ((w.alloc (.cells #[.int .u8 a, .bool s] 24)).alloc (.cells #[.int .u8 0, .bool false] 24)) = wz at *
  obtain ⟨g, hg⟩ : ∃ g, g = w.heap.size := ⟨_, rfl⟩
  obtain ⟨h, hh⟩ : ∃ h, h = w.heap.size + 1 := ⟨_, rfl⟩
  rw [← hh] at ky fy ⊢
  rw [← hg] at kz
  rw [show (Value.pointer (some ⟨w.heap.size, 0, none⟩)) = .pointer (some ⟨g, 0, none⟩) from by rw [hg]]
  have n1 : h ≠ g := by omega
  have m2 : w.heap.size ≤ h := by omega
  clear hg hh
  go_loopw [4] (fun i wr => ∃ k : Nat, k ≤ 8 ∧ i = .int .i64 k ∧ BC wr g a s ∧ BC wr h (lowBits a k) (decide (0 < k) && s) ∧ (∀ o, wr.frozen? ⟨h, o, none⟩ = false) ∧ Below w.heap.size w wr) (fun i _ => 8 - (intOf i).toNat)
  case atStart => exact ⟨0, by omega, rfl, kz, by rw [lowBits_zero]; exact ky, fy, hB⟩
  case round =>
    obtain ⟨k, hk, rfl, kg, kh, fh, hB⟩ := hrel
    by_cases hlt : k < 8
    · obtain ⟨lg, cg, dg⟩ := id kg
      have hb2 : 0 ≤ bitV a k ∧ bitV a k ≤ 1 := by unfold bitV; split <;> omega
      obtain ⟨v0, v1⟩ := hb2
      have zh : h < wr.heap.size := kh.1
      go_wp2_with fail
      refine (bit_ct a k s _ a0 a1).mono ?_
      rintro e w1 ⟨rfl, h1⟩
      clear lg cg dg
      replace kg := kg.next h1
      replace kh := kh.next h1
      replace hB := hB.next h1
      obtain ⟨lh, ch, dh⟩ := id kh
      have fh1 : ∀ o, w1.frozen? ⟨h, o, none⟩ = false := fun o => by rw [(bcell h1).2 h o zh]; exact fh o
      have hval := lowBits_or a k hlt a0 a1
      have Hval := Lib.hid hval
      clear hval
      go_wp2_with fail
      refine (or_ct _ _ _ _ _).mono ?_
      rintro e w2 ⟨rfl, h2⟩
      have hn : Below w1.heap.size w1 w2 := (by repeat' (first | exact Below.refl _ _ | (refine Below.setCell ?_ (by first | (simp; done) | (simp; omega) | omega) _) | (refine Below.drew ?_) | (refine Below.drewN ?_ _) | (refine Below.alloc ?_ (by first | (simp; done) | (simp; omega) | omega) _) | (refine Below.trans ?_ (Below.mono h2 (by first | (simp; done) | (simp; omega) | omega)))))
      have fh2 : ∀ o, w2.frozen? ⟨h, o, none⟩ = false := fun o => by rw [(bcell hn).2 h o lh]; exact fh1 o
      clear lh ch dh fh fh1
      replace kg := kg.next hn
      replace kh := kh.next hn
      replace hB := hB.next hn
      obtain ⟨lh, ch, dh⟩ := id kh
      clear h1 h2 hn
      rw [Hval.out]
      have hlab : (decide (0 < k) && s || s) = (decide (0 < k + 1) && s) := by cases s <;> simp
      rw [hlab]
      clear hlab
      go_wp2
      go_roundw
      case rel => exact ⟨k + 1, by omega, by go_num, (kg.off n1 0 _).off n1 1 _, kh.put _ _, fun o => by simp [fh2], (hB.setCell m2 _).setCell m2 _⟩
      case measure => simp [intOf]; omega
    · obtain rfl : k = 8 := by omega
      rw [lowBits_end a a0 a1] at kh
      have e8 : (decide (0 < 8) && s) = s := by simp
      rw [e8] at kh
      clear e8 kz ky fy fh hlt hk n1 m2
      obtain ⟨x, hx, e1, e2, e3⟩ := xor255 a a0 a1
      have Hx := Lib.hid hx
      have E1 := Lib.hid e1
      have E2 := Lib.hid e2
      have E3 := Lib.hid e3
      clear hx e1 e2 e3
      obtain ⟨lg, cg, dg⟩ := id kg
      obtain ⟨lh, ch, dh⟩ := id kh
      go_upto_region 10 with fail
      go_cut [6] (fun s6 wx => ∃ j : Nat, s6 = .pointer (some ⟨j, 0, none⟩) ∧ BC wx j x s ∧ BC wx g a s ∧ BC wx h a s ∧ Below w.heap.size w wx)
      case first =>
        go_region_held3 (fun w' => Below w.heap.size w w' ∧ (g < w'.heap.size ∧ w'.cell? ⟨g, 0, none⟩ = some (.int .u8 a) ∧ w'.cell? ⟨g, 1, none⟩ = some (.bool s)) ∧ (h < w'.heap.size ∧ w'.cell? ⟨h, 0, none⟩ = some (.int .u8 a) ∧ w'.cell? ⟨h, 1, none⟩ = some (.bool s)))
          (exact ⟨next0 (w := wr) (by repeat' (first | exact Below.refl _ _ | (refine Below.setCell ?_ (by first | (simp; done) | (simp; omega) | omega) _) | (refine Below.drew ?_) | (refine Below.drewN ?_ _) | (refine Below.alloc ?_ (by first | (simp; done) | (simp; omega) | omega) _) | (refine Below.trans ?_ (Below.mono hx1 (by first | (simp; done) | (simp; omega) | omega))) | (refine Below.trans ?_ (Below.mono hl (by first | (simp; done) | (simp; omega) | omega))))) hB, next1 (w := wr) (by repeat' (first | exact Below.refl _ _ | (refine Below.setCell ?_ (by first | (simp; done) | (simp; omega) | omega) _) | (refine Below.drew ?_) | (refine Below.drewN ?_ _) | (refine Below.alloc ?_ (by first | (simp; done) | (simp; omega) | omega) _) | (refine Below.trans ?_ (Below.mono hx1 (by first | (simp; done) | (simp; omega) | omega))) | (refine Below.trans ?_ (Below.mono hl (by first | (simp; done) | (simp; omega) | omega))))) ⟨lg, cg, dg⟩, next1 (w := wr) (by repeat' (first | exact Below.refl _ _ | (refine Below.setCell ?_ (by first | (simp; done) | (simp; omega) | omega) _) | (refine Below.drew ?_) | (refine Below.drewN ?_ _) | (refine Below.alloc ?_ (by first | (simp; done) | (simp; omega) | omega) _) | (refine Below.trans ?_ (Below.mono hx1 (by first | (simp; done) | (simp; omega) | omega))) | (refine Below.trans ?_ (Below.mono hl (by first | (simp; done) | (simp; omega) | omega))))) ⟨lh, ch, dh⟩⟩)
          (first
            | (go_at_call 11; refine (low_ct _ _).mono ?_; rintro e wl1 ⟨rfl, hl⟩; obtain ⟨hcl, hfl⟩ := bcell hl; have zl := hl.size; simp at hcl hfl; try simp at zl)
            | (go_at_call 23; refine (xor_ct _ _ _ _ _).mono ?_; rintro e w1 ⟨rfl, hx1⟩; obtain ⟨hcx, hfx⟩ := bcell hx1; have zx := hx1.size; (try simp at hcx hfx); (try simp at zx); (try have y0 := hcx wr.heap.size 0 (by omega)); (try have y1 := hcx wr.heap.size 1 (by omega)); (try have y2 := fun o => hfx wr.heap.size o (by omega)); (try have u0 := hcl wr.heap.size 0 (by omega)); (try have u1 := hcl wr.heap.size 1 (by omega)); (try have u2 := fun o => hfl wr.heap.size o (by omega)); rw [Hx.out, Bool.or_false]))
        all_goals
          go_wp2_with fail
          go_meet
          refine ⟨_, rfl, ?_, kg.next (by repeat' (first | exact Below.refl _ _ | (refine Below.setCell ?_ (by first | (simp; done) | (simp; omega) | omega) _) | (refine Below.drew ?_) | (refine Below.drewN ?_ _) | (refine Below.alloc ?_ (by first | (simp; done) | (simp; omega) | omega) _) | (refine Below.trans ?_ (Below.mono hx1 (by first | (simp; done) | (simp; omega) | omega))) | (refine Below.trans ?_ (Below.mono hl (by first | (simp; done) | (simp; omega) | omega))))), kh.next (by repeat' (first | exact Below.refl _ _ | (refine Below.setCell ?_ (by first | (simp; done) | (simp; omega) | omega) _) | (refine Below.drew ?_) | (refine Below.drewN ?_ _) | (refine Below.alloc ?_ (by first | (simp; done) | (simp; omega) | omega) _) | (refine Below.trans ?_ (Below.mono hx1 (by first | (simp; done) | (simp; omega) | omega))) | (refine Below.trans ?_ (Below.mono hl (by first | (simp; done) | (simp; omega) | omega))))), hB.next (by repeat' (first | exact Below.refl _ _ | (refine Below.setCell ?_ (by first | (simp; done) | (simp; omega) | omega) _) | (refine Below.drew ?_) | (refine Below.drewN ?_ _) | (refine Below.alloc ?_ (by first | (simp; done) | (simp; omega) | omega) _) | (refine Below.trans ?_ (Below.mono hx1 (by first | (simp; done) | (simp; omega) | omega))) | (refine Below.trans ?_ (Below.mono hl (by first | (simp; done) | (simp; omega) | omega)))))⟩
          first
            | exact ⟨(by first | (simp; done) | (simp; omega) | omega), (by simp [go_sem]), (by simp [go_sem])⟩
            | exact BC.put (a := 0) (s := false) ⟨by omega, by rw [hcx _ _ (by omega)]; simp [go_sem], by rw [hcx _ _ (by omega)]; simp [go_sem]⟩ x s
            | exact BC.put (a := 0) (s := false) ⟨by omega, by rw [y0, u0]; simp [go_sem], by rw [y1, u1]; simp [go_sem]⟩ x s
      case rest =>
      clear kg kh hB lg cg dg lh ch dh
      obtain ⟨j, rfl, ⟨lj, cj, dj⟩, ⟨lg, cg, dg⟩, ⟨lh, ch, dh⟩, hB⟩ := hcut
      go_upto_region 11 with fail
      go_region_held3 (fun w' => Below w.heap.size w w' ∧ (j < w'.heap.size ∧ w'.cell? ⟨j, 0, none⟩ = some (.int .u8 x) ∧ w'.cell? ⟨j, 1, none⟩ = some (.bool s)) ∧ (g < w'.heap.size ∧ w'.cell? ⟨g, 0, none⟩ = some (.int .u8 a) ∧ w'.cell? ⟨g, 1, none⟩ = some (.bool s)) ∧ (h < w'.heap.size ∧ w'.cell? ⟨h, 0, none⟩ = some (.int .u8 a) ∧ w'.cell? ⟨h, 1, none⟩ = some (.bool s)))
        (first | assumption | (refine And.imp (next0 h1) (And.imp (next1 h1) (And.imp (next1 h1) (next1 h1))) ?_; assumption) | exact ⟨hB.drew, ⟨lj, cj, dj⟩, ⟨lg, cg, dg⟩, ⟨lh, ch, dh⟩⟩)
        (first
          | (go_at_call 20; refine (and_ct _ _ _ _ _).mono ?_; rintro e w1 ⟨rfl, h1⟩; rw [E1.out, Bool.or_self])
          | (go_at_call 22; refine (or_ct _ _ _ _ _).mono ?_; rintro e w1 ⟨rfl, h1⟩; rw [E2.out, Bool.or_self])
          | (go_at_call 23; refine (xor_ct _ _ _ _ _).mono ?_; rintro e w1 ⟨rfl, h1⟩; rw [E3.out, Bool.or_self])
          | (go_at_call 19; refine (awake_ct _).mono ?_; rintro e w1 ⟨rfl, h1⟩))
      obtain ⟨hz, -⟩ := ‹Below w.heap.size w w1 ∧ _›
      go_wp2
      go_ret
      exact ⟨rfl, hz⟩
end Go.Proofs.Ytmpacpiopjahnaa
