/-
  The walks of layer 1's laws, over this seat's translation: each returns true, and writes nothing that was there. Each value of a byte is from 0 to 255.
-/
import Derived.Test.YtmpacpiopjahnaaLbn
namespace Go.Proofs.Ytmpacpiopjahnaa
open Go.RowKit
set_option maxRecDepth 100000 in
set_option maxHeartbeats 2000000 in
theorem words_walk (a b c x y z i n : Int) (s t u o : Bool) (w : World) (ha : 0 ≤ a ∧ a < 256) (hb : 0 ≤ b ∧ b < 256) (hn : 0 ≤ n ∧ n < 65536) :
    Calls Try.prog 5 #[.agg #[.int .u8 a, .bool s, .int .u8 b, .bool t, .int .u8 c, .bool u, .int .u8 x, .int .u8 y, .int .u8 z, .int .i64 i, .int .u16 n, .bool o]] w fun e w' => e = .returned (.bool true) ∧ Below w.heap.size w w' := by
  obtain ⟨a0, a1⟩ := ha
  obtain ⟨b0, b1⟩ := hb
  obtain ⟨n0, n1⟩ := hn
  go_enter Try.func5, Try.ntmps5
  go_upto_region 1 with fail
  go_cut [3, 4, 5, 6] (fun s3 s4 s5 s6 wx => ∃ g h : Nat, s3 = .pointer (some ⟨g, 0, none⟩) ∧ s4 = .pointer (some ⟨h, 0, none⟩) ∧ s5 = .int .u16 n ∧ s6 = .bool o ∧ BC wx g a s ∧ BC wx h b t ∧ Below w.heap.size w wx)
  case first =>
    go_region_held3 (fun w' => w'.cell? ⟨w.heap.size, 0, none⟩ = some (.int .u8 a) ∧ w'.cell? ⟨w.heap.size, 1, none⟩ = some (.bool s) ∧ w'.cell? ⟨w.heap.size, 2, none⟩ = some (.int .u8 b) ∧ w'.cell? ⟨w.heap.size, 3, none⟩ = some (.bool t) ∧ w'.cell? ⟨w.heap.size, 10, none⟩ = some (.int .u16 n) ∧ w'.cell? ⟨w.heap.size, 11, none⟩ = some (.bool o)) (go_keep)
      (fail)
    all_goals
      go_wp2_with fail
      go_meet
      exact ⟨_, _, rfl, rfl, rfl, rfl, ⟨by simp, by simp [go_sem], by simp [go_sem]⟩, ⟨by simp, by simp [go_sem], by simp [go_sem]⟩, (by repeat' (first | exact Below.refl _ _ | (refine Below.setCell ?_ (by first | (simp; done) | (simp; omega) | omega) _) | (refine Below.drew ?_) | (refine Below.drewN ?_ _) | (refine Below.alloc ?_ (by first | (simp; done) | (simp; omega) | omega) _)))⟩
  case rest =>
    obtain ⟨g, h, rfl, rfl, rfl, rfl, kg, kh, hB⟩ := hcut
    obtain ⟨lg, cg, dg⟩ := id kg
    obtain ⟨lh, ch, dh⟩ := id kh
    go_wp2_with fail
    refine (word_ct a b s t _ a0 a1 b0 b1).mono ?_
    rintro e w1 ⟨rfl, h1⟩
    clear cg dg ch dh
    obtain ⟨lg, cg, dg⟩ := kg.next h1
    obtain ⟨lh, ch, dh⟩ := kh.next h1
    go_wp2_with fail
    refine (rword_ct a b s t _ a0 a1 b0 b1).mono ?_
    rintro e w2 ⟨rfl, h2⟩
    clear cg dg ch dh lg lh kg kh
    go_wp2_with fail
    refine (split_ct n o _ n0 n1).mono ?_
    rintro e w3 ⟨rfl, h3⟩
    go_wp2_with fail
    refine (word_ct (n % 256) (n / 256) o o _ (by omega) (by omega) (by omega) (by omega)).mono ?_
    rintro e w4 ⟨rfl, h4⟩
    obtain ⟨hc, hf⟩ := bcell h4
    simp at hc hf
    rw [show n % 256 + 256 * (n / 256) = n from by omega, Bool.or_self]
    go_wp2_with fail
    refine (awake_ct _).mono ?_
    rintro e w5 ⟨rfl, h5⟩
    go_wp2
    go_ret
    have q0 := hB.size; have q1 := h1.size; have q2 := h2.size; have q3 := h3.size; have q4 := h4.size
    simp at q4
    exact ⟨rfl, (by repeat' (first | exact Below.refl _ _ | (refine Below.setCell ?_ (by first | (simp; done) | (simp; omega) | omega) _) | (refine Below.drew ?_) | (refine Below.drewN ?_ _) | (refine Below.alloc ?_ (by first | (simp; done) | (simp; omega) | omega) _) | (refine Below.trans ?_ (Below.mono h5 (by first | (simp; done) | (simp; omega) | omega))) | (refine Below.trans ?_ (Below.mono h4 (by first | (simp; done) | (simp; omega) | omega))) | (refine Below.trans ?_ (Below.mono h3 (by first | (simp; done) | (simp; omega) | omega))) | (refine Below.trans ?_ (Below.mono h2 (by first | (simp; done) | (simp; omega) | omega))) | (refine Below.trans ?_ (Below.mono h1 (by first | (simp; done) | (simp; omega) | omega))) | (refine Below.trans ?_ (Below.mono hB (by first | (simp; done) | (simp; omega) | omega)))))⟩
end Go.Proofs.Ytmpacpiopjahnaa
