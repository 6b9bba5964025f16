/-
  Contracts of package label's functions, second part, and of the document's plain answers: one bit, one of two by a third, two as a number, and back; the law's own helpers. Each value of a byte is from 0 to 255.
-/
import Derived.Test.YtckfjiacnjjopaaLbx
namespace Go.Proofs.Ytckfjiacnjjopaa
open Go.RowKit

theorem rd1c {w : World} {b : Nat} {a : Int} {s : Bool} (hb : b < w.heap.size) (h1 : w.cell? ⟨b, 0, none⟩ = some (.int .u8 a)) (h2 : w.cell? ⟨b, 1, none⟩ = some (.bool s)) :
    Rd w (.slice (some ⟨b, 0, none⟩) 1 1) [(a, s)] := by
  refine ⟨_, _, rfl, by simp, by simp [maxLen], .inr ⟨_, _, rfl, hb, fun k hk => ?_⟩⟩
  match k, hk with
  | 0, _ => exact ⟨h1, h2⟩
theorem rd2c {w : World} {b : Nat} {a c : Int} {s t : Bool} (hb : b < w.heap.size) (h1 : w.cell? ⟨b, 0, none⟩ = some (.int .u8 a)) (h2 : w.cell? ⟨b, 1, none⟩ = some (.bool s)) (h3 : w.cell? ⟨b, 2, none⟩ = some (.int .u8 c)) (h4 : w.cell? ⟨b, 3, none⟩ = some (.bool t)) :
    Rd w (.slice (some ⟨b, 0, none⟩) 2 2) [(a, s), (c, t)] := by
  refine ⟨_, _, rfl, by simp, by simp [maxLen], .inr ⟨_, _, rfl, hb, fun k hk => ?_⟩⟩
  match k, hk with
  | 0, _ => exact ⟨h1, h2⟩
  | 1, _ => exact ⟨h3, h4⟩

/-- A variable of a byte: where it lies, and what it holds. -/
def BC (w : World) (g : Nat) (a : Int) (s : Bool) : Prop := g < w.heap.size ∧ w.cell? ⟨g, 0, none⟩ = some (.int .u8 a) ∧ w.cell? ⟨g, 1, none⟩ = some (.bool s)
theorem BC.next {w w' : World} {g : Nat} {a : Int} {s : Bool} (h : BC w g a s) (hb : Below w.heap.size w w') : BC w' g a s :=
  ⟨Nat.lt_of_lt_of_le h.1 hb.size, by rw [hb.cell (p := ⟨g, 0, none⟩) h.1]; exact h.2.1, by rw [hb.cell (p := ⟨g, 1, none⟩) h.1]; exact h.2.2⟩

theorem next1 {w w' : World} {g : Nat} {x y : Value} (hb : Below w.heap.size w w') (h : g < w.heap.size ∧ w.cell? ⟨g, 0, none⟩ = some x ∧ w.cell? ⟨g, 1, none⟩ = some y) : g < w'.heap.size ∧ w'.cell? ⟨g, 0, none⟩ = some x ∧ w'.cell? ⟨g, 1, none⟩ = some y :=
  ⟨Nat.lt_of_lt_of_le h.1 hb.size, by rw [hb.cell (p := ⟨g, 0, none⟩) h.1]; exact h.2.1, by rw [hb.cell (p := ⟨g, 1, none⟩) h.1]; exact h.2.2⟩
theorem next0 {W w w' : World} (hb : Below w.heap.size w w') (h : Below W.heap.size W w) : Below W.heap.size W w' := h.next hb

/-! ### one bit -/
def bitV (a i : Int) : Int := if 0 ≤ i ∧ i ≤ 7 then a / 2 ^ i.toNat % 2 else 0
theorem shr_bounds (a : Int) (k : Nat) (h0 : 0 ≤ a) (h1 : a < 256) : 0 ≤ a / 2 ^ k ∧ a / 2 ^ k < 256 := by
  have hp : (0 : Int) < 2 ^ k := Int.pow_pos (by omega)
  refine ⟨Int.ediv_nonneg h0 (Int.le_of_lt hp), ?_⟩
  have : a / 2 ^ k ≤ a := Int.ediv_le_self _ h0
  omega
theorem and_one (x : Int) (h0 : 0 ≤ x) (h1 : x < 256) : bits .and .u8 x 1 = x % 2 := by
  rw [u8_and x 1 h0 h1 (by omega) (by omega)]
  have : (1 : Int).toNat = 1 := rfl
  rw [this, Nat.and_one_is_mod]
  omega
set_option maxHeartbeats 400000 in
theorem bit_in (a i : Int) (s : Bool) (w : World) (h0 : 0 ≤ i) (h7 : i ≤ 7) (a0 : 0 ≤ a) (a1 : a < 256) :
    Calls Try.prog 46 #[.agg #[.int .u8 a, .bool s], .int .i64 i] w fun e w' => e = .returned (.agg #[.int .u8 (bitV a i), .bool s]) ∧ Below w.heap.size w w' := by
  have hv : bitV a i = bits .and .u8 (a / 2 ^ i.toNat) 1 := by
    rw [and_one _ (shr_bounds a _ a0 a1).1 (shr_bounds a _ a0 a1).2, bitV, if_pos ⟨h0, h7⟩]
  rw [hv]
  clear hv a0 a1
  have hd : (decide (i < 0) || decide (7 < i)) = false := by simp; omega
  go_enter Try.func46, Try.ntmps46
  go_wp2_with fail
  go_region_held3 (fun w' => w'.cell? ⟨w.heap.size, 0, none⟩ = some (.int .u8 a) ∧ w'.cell? ⟨w.heap.size, 1, none⟩ = some (.bool s)) (((repeat' apply And.intro) <;> (first | go_keep | (simp (disch := omega) only [hc]; go_keep))))
    ((go_at_call 47; refine (of_ct _ _ [(a, s)] _ (rd1c (by simp) (by simp [go_sem]) (by simp [go_sem]))).mono ?_; rintro e w1 ⟨rfl, hB⟩; rw [anyS_one]; obtain ⟨hc, hf⟩ := bcell hB; simp at hc hf))
  go_wp2
  exact bodyPost_ret (v := .agg #[.int .u8 (bits .and .u8 (a / 2 ^ i.toNat) 1), .bool s]) (by simp [results, Try.results46, go_sem, hc]) rfl ⟨rfl, (by repeat' (first | exact Below.refl _ _ | (refine Below.setCell ?_ (by first | (simp; done) | (simp; omega) | omega) _) | (refine Below.drew ?_) | (refine Below.drewN ?_ _) | (refine Below.alloc ?_ (by first | (simp; done) | (simp; omega) | omega) _) | (refine Below.trans ?_ (Below.mono hB (by first | (simp; done) | (simp; omega) | omega)))))⟩
set_option maxHeartbeats 400000 in
theorem bit_out (a i : Int) (s : Bool) (w : World) (h : i < 0 ∨ 7 < i) :
    Calls Try.prog 46 #[.agg #[.int .u8 a, .bool s], .int .i64 i] w fun e w' => e = .returned (.agg #[.int .u8 (bitV a i), .bool s]) ∧ Below w.heap.size w w' := by
  have hv : bitV a i = 0 := by rw [bitV, if_neg (by omega)]
  rw [hv]
  clear hv
  rcases h with h | h
  · go_enter Try.func46, Try.ntmps46
    go_wp2_with fail
    refine (of_ct _ _ [(a, s)] _ (rd1 (by simp) _ _ _)).mono ?_
    rintro e w1 ⟨rfl, hB⟩
    obtain ⟨hc, hf⟩ := bcell hB
    simp at hc hf
    rw [anyS_one]
    go_wp2
    exact bodyPost_ret (v := .agg #[.int .u8 0, .bool s]) (by simp [results, Try.results46, go_sem, hc]) rfl ⟨rfl, (by repeat' (first | exact Below.refl _ _ | (refine Below.setCell ?_ (by first | (simp; done) | (simp; omega) | omega) _) | (refine Below.drew ?_) | (refine Below.drewN ?_ _) | (refine Below.alloc ?_ (by first | (simp; done) | (simp; omega) | omega) _) | (refine Below.trans ?_ (Below.mono hB (by first | (simp; done) | (simp; omega) | omega)))))⟩
  · have h0 : ¬ i < 0 := by omega
    go_enter Try.func46, Try.ntmps46
    go_wp2_with fail
    refine (of_ct _ _ [(a, s)] _ (rd1 (by simp) _ _ _)).mono ?_
    rintro e w1 ⟨rfl, hB⟩
    obtain ⟨hc, hf⟩ := bcell hB
    simp at hc hf
    rw [anyS_one]
    go_wp2
    exact bodyPost_ret (v := .agg #[.int .u8 0, .bool s]) (by simp [results, Try.results46, go_sem, hc]) rfl ⟨rfl, (by repeat' (first | exact Below.refl _ _ | (refine Below.setCell ?_ (by first | (simp; done) | (simp; omega) | omega) _) | (refine Below.drew ?_) | (refine Below.drewN ?_ _) | (refine Below.alloc ?_ (by first | (simp; done) | (simp; omega) | omega) _) | (refine Below.trans ?_ (Below.mono hB (by first | (simp; done) | (simp; omega) | omega)))))⟩
theorem bit_ct (a i : Int) (s : Bool) (w : World) (a0 : 0 ≤ a) (a1 : a < 256) :
    Calls Try.prog 46 #[.agg #[.int .u8 a, .bool s], .int .i64 i] w fun e w' => e = .returned (.agg #[.int .u8 (bitV a i), .bool s]) ∧ Below w.heap.size w w' := by
  by_cases h : i < 0 ∨ 7 < i
  · exact bit_out a i s w h
  · exact bit_in a i s w (by omega) (by omega) a0 a1

/-! ### one of two -/
def muxV (c a b : Int) : Int := if c = 0 then a else b
/-! ### two as a number, and back -/
theorem or_add (a b : Int) (h0 : 0 ≤ a) (h7 : a < 256) (g0 : 0 ≤ b) (g7 : b < 256) : bits .or .u16 a (b * 256) = a + 256 * b := by
  rw [u16_or a (b * 256) h0 (by omega) (by omega) (by omega)]
  obtain ⟨x, rfl⟩ := Int.eq_ofNat_of_zero_le h0
  obtain ⟨y, rfl⟩ := Int.eq_ofNat_of_zero_le g0
  have e : ((y : Int) * 256).toNat = y * 256 := by omega
  rw [e, Int.toNat_natCast, Nat.or_comm]
  have : y * 256 ||| x = y * 256 + x := by
    have := Nat.shiftLeft_add_eq_or_of_lt (a := y) (b := x) (i := 8) (by omega)
    rw [Nat.shiftLeft_eq] at this
    exact this.symm
  rw [this]
  omega
theorem or_comm16 (a b : Int) (h0 : 0 ≤ a) (h7 : a < 65536) (g0 : 0 ≤ b) (g7 : b < 65536) : bits .or .u16 a b = bits .or .u16 b a := by
  rw [u16_or a b h0 h7 g0 g7, u16_or b a g0 g7 h0 h7, Nat.or_comm]
/-! ### the document's answers -/
end Go.Proofs.Ytckfjiacnjjopaa
