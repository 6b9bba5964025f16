/-
  The walk of layer 1's law on bits, over this seat's translation: it returns true, and writes nothing that was there. Each value of a byte is from 0 to 255.
-/
import Derived.Test.YtmpacpiopjahnaaLbn
namespace Go.Proofs.Ytmpacpiopjahnaa
open Go.RowKit
set_option maxRecDepth 100000 in
set_option maxHeartbeats 4000000 in
theorem bits_walk (a b c x y z i n : Int) (s t u o : Bool) (w : World) (ha : 0 ≤ a ∧ a < 256) (hb : 0 ≤ b ∧ b < 256) :
    Calls Try.prog 4 #[.agg #[.int .u8 a, .bool s, .int .u8 b, .bool t, .int .u8 c, .bool u, .int .u8 x, .int .u8 y, .int .u8 z, .int .i64 i, .int .u16 n, .bool o]] w fun e w' => e = .returned (.bool true) ∧ Below w.heap.size w w' := by
  obtain ⟨a0, a1⟩ := ha
  obtain ⟨b0, b1⟩ := hb
  go_enter Try.func4, Try.ntmps4
  go_upto_region 1 with fail
  go_cut [3, 4, 5, 6] (fun s3 s4 s5 s6 wx => ∃ g h k : Nat, s3 = .pointer (some ⟨g, 0, none⟩) ∧ s4 = .pointer (some ⟨h, 0, none⟩) ∧ s5 = .pointer (some ⟨k, 0, none⟩) ∧ s6 = .int .i64 i ∧ BC wx g a s ∧ BC wx h b t ∧ BC wx k c u ∧ Below w.heap.size w wx)
  case first =>
    go_region_held3 (fun w' => w'.cell? ⟨w.heap.size, 0, none⟩ = some (.int .u8 a) ∧ w'.cell? ⟨w.heap.size, 1, none⟩ = some (.bool s) ∧ w'.cell? ⟨w.heap.size, 2, none⟩ = some (.int .u8 b) ∧ w'.cell? ⟨w.heap.size, 3, none⟩ = some (.bool t) ∧ w'.cell? ⟨w.heap.size, 4, none⟩ = some (.int .u8 c) ∧ w'.cell? ⟨w.heap.size, 5, none⟩ = some (.bool u) ∧ w'.cell? ⟨w.heap.size, 9, none⟩ = some (.int .i64 i)) (go_keep)
      (fail)
    all_goals
      go_wp2_with fail
      go_meet
      exact ⟨_, _, _, rfl, rfl, rfl, rfl, ⟨by simp, by simp [go_sem], by simp [go_sem]⟩, ⟨by simp, by simp [go_sem], by simp [go_sem]⟩, ⟨by simp, by simp [go_sem], by simp [go_sem]⟩, (by repeat' (first | exact Below.refl _ _ | (refine Below.setCell ?_ (by first | (simp; done) | (simp; omega) | omega) _) | (refine Below.drew ?_) | (refine Below.drewN ?_ _) | (refine Below.alloc ?_ (by first | (simp; done) | (simp; omega) | omega) _)))⟩
  case rest =>
    obtain ⟨g, h, k, rfl, rfl, rfl, rfl, kg, kh, kk, hB⟩ := hcut
    obtain ⟨lg, cg, dg⟩ := id kg
    obtain ⟨lh, ch, dh⟩ := id kh
    obtain ⟨lk, ck, dk⟩ := id kk
    go_upto_region 2 with fail
    go_cut [7] (fun s7 wx => s7 = .bool (s || t) ∧ wx = wc)
    case first =>
      cases s <;> cases t
      all_goals
        go_wp2_with fail
        go_meet
        exact ⟨rfl, rfl⟩
    case rest =>
    obtain ⟨rfl, rfl⟩ := hcut
    go_upto_region 3 with fail
    go_cut [8] (fun s8 wx => s8 = .pointer (some ⟨wc.heap.size, 0, none⟩) ∧ wx = wc.alloc (.cells #[.int .u8 b, .bool (u || (s || t))] 24))
    case first =>
      have e : ((s || t) || u) = (u || (s || t)) := Bool.or_comm _ _
      generalize (s || t) = st at *
      cases st <;> cases u
      all_goals
        go_wp2_with fail
        go_meet
        exact ⟨rfl, rfl⟩
    case rest =>
    obtain ⟨rfl, rfl⟩ := hcut
    go_upto_region 4 with fail
    go_cut [33] (fun s33 wx => s33 = .bool (c == 0) ∧ wx = wc.alloc (.cells #[.int .u8 b, .bool (u || (s || t))] 24))
    case first =>
      go_wp2_with fail
      go_meet
      exact ⟨rfl, rfl⟩
    case rest =>
    obtain ⟨rfl, rfl⟩ := hcut
    go_upto_if 33 with fail
    go_cut [8] (fun s8 wx => s8 = .pointer (some ⟨wc.heap.size, 0, none⟩) ∧ wx = wc.alloc (.cells #[.int .u8 (muxV c a b), .bool (u || (s || t))] 24))
    case first =>
      by_cases hc : c = 0
      · have e : muxV c a b = a := by rw [muxV, if_pos hc]
        have E := Lib.hid e
        have hc' : (c == 0) = true := by simpa using hc
        clear hc e
        go_wp2_with fail
        go_meet
        exact ⟨rfl, by rw [E.out]⟩
      · have e : muxV c a b = b := by rw [muxV, if_neg hc]
        have E := Lib.hid e
        have hc' : (c == 0) = false := by simpa using hc
        clear hc e
        go_wp2_with fail
        go_meet
        exact ⟨rfl, by rw [E.out]⟩
    case rest =>
    obtain ⟨rfl, rfl⟩ := hcut
    have kj : BC (wc.alloc (.cells #[.int .u8 (muxV c a b), .bool (u || (s || t))] 24)) wc.heap.size (muxV c a b) (u || (s || t)) := ⟨by simp, by simp [go_sem], by simp [go_sem]⟩
    have hn := (Below.refl wc.heap.size wc).alloc (Nat.le_refl _) (.cells #[.int .u8 (muxV c a b), .bool (u || (s || t))] 24)
    replace kg := kg.next hn
    replace kh := kh.next hn
    replace kk := kk.next hn
    replace hB := hB.next hn
    clear lg lh lk cg dg ch dh ck dk hn
    generalize wc.alloc (.cells #[.int .u8 (muxV c a b), .bool (u || (s || t))] 24) = wm at *
    generalize wc.heap.size = j at *
    obtain ⟨lg, cg, dg⟩ := kg
    obtain ⟨lh, ch, dh⟩ := kh
    obtain ⟨lk, ck, dk⟩ := kk
    obtain ⟨lj, cj, dj⟩ := kj
    go_upto_region 6 with fail
    go_region_held3 (fun w' => Below w.heap.size w w' ∧ (g < w'.heap.size ∧ w'.cell? ⟨g, 0, none⟩ = some (.int .u8 a) ∧ w'.cell? ⟨g, 1, none⟩ = some (.bool s)) ∧ (h < w'.heap.size ∧ w'.cell? ⟨h, 0, none⟩ = some (.int .u8 b) ∧ w'.cell? ⟨h, 1, none⟩ = some (.bool t)) ∧ (k < w'.heap.size ∧ w'.cell? ⟨k, 0, none⟩ = some (.int .u8 c) ∧ w'.cell? ⟨k, 1, none⟩ = some (.bool u)) ∧ (j < w'.heap.size ∧ w'.cell? ⟨j, 0, none⟩ = some (.int .u8 (muxV c a b)) ∧ w'.cell? ⟨j, 1, none⟩ = some (.bool (u || (s || t)))))
      (first | assumption | (refine And.imp (next0 h1) (And.imp (next1 h1) (And.imp (next1 h1) (And.imp (next1 h1) (next1 h1)))) ?_; assumption) | exact ⟨hB.drew, ⟨lg, cg, dg⟩, ⟨lh, ch, dh⟩, ⟨lk, ck, dk⟩, ⟨lj, cj, dj⟩⟩)
      (first
        | (go_at_call 20; refine (and_ct _ _ _ _ _).mono ?_; rintro e w1 ⟨rfl, h1⟩)
        | (go_at_call 22; refine (or_ct _ _ _ _ _).mono ?_; rintro e w1 ⟨rfl, h1⟩)
        | (go_at_call 23; refine (xor_ct _ _ _ _ _).mono ?_; rintro e w1 ⟨rfl, h1⟩)
        | (go_at_call_of 21 (Value.int .i64 0); refine (rbits0_ct _ _ _ a0 a1 b0 b1).mono ?_; rintro e w1 ⟨rfl, rfl⟩)
        | (go_at_call_of 21 (Value.int .i64 1); refine (rbits1_ct _ _ _ a0 a1 b0 b1).mono ?_; rintro e w1 ⟨rfl, rfl⟩)
        | (go_at_call_of 21 (Value.int .i64 2); refine (rbits2_ct _ _ _ a0 a1 b0 b1).mono ?_; rintro e w1 ⟨rfl, rfl⟩)
        | (go_at_call 24; refine (bit_ct _ _ _ _ a0 a1).mono ?_; rintro e w1 ⟨rfl, h1⟩)
        | (go_at_call 25; refine (rbit_ct _ _ _ _ a0 a1).mono ?_; rintro e w1 ⟨rfl, h1⟩)
        | (go_at_call 26; refine (mux_ct _ _ _ _ _ _ _).mono ?_; rintro e w1 ⟨rfl, h1⟩)
        | (go_at_call 19; refine (awake_ct _).mono ?_; rintro e w1 ⟨rfl, h1⟩))
    obtain ⟨hz, -⟩ := ‹Below w.heap.size w w1 ∧ _›
    go_wp2
    go_ret
    exact ⟨rfl, hz⟩
end Go.Proofs.Ytmpacpiopjahnaa
