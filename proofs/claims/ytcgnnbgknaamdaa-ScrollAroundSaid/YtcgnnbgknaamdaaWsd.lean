/-
  A scroll without any world: whether it may be, what is done to it, where its tile and its colours are; what follows of that. No condition but that numbers are in range.
-/
import Derived.Test.YtcgnnbgknaamdaaWsm
namespace Go.Proofs.Ytcgnnbgknaamdaa
set_option linter.unusedVariables false
set_option linter.unusedSectionVars false

structure Sc where
  v : Int
  t : Int
  x : Int
  w : Bool
def scC (s : Sc) : Array Value := #[.int .u16 s.v, .int .u16 s.t, .int .u8 s.x, .bool s.w]
def Sc.oct (s : Sc) : Prop := (0 ≤ s.v ∧ s.v < 65536) ∧ (0 ≤ s.t ∧ s.t < 65536) ∧ (0 ≤ s.x ∧ s.x < 256)
def scMay (s : Sc) : Bool := decide (s.v < 32768) && decide (s.t < 32768) && decide (s.x < 8)
/-- In range, and it may be. -/
def Sc.ok (s : Sc) : Prop := (0 ≤ s.v ∧ s.v < 32768) ∧ (0 ≤ s.t ∧ s.t < 32768) ∧ (0 ≤ s.x ∧ s.x < 8)
theorem Sc.ok_of {s : Sc} (h : s.oct) (hm : scMay s = true) : s.ok := by
  obtain ⟨⟨a, _⟩, ⟨c, _⟩, e, _⟩ := h
  simp only [scMay, Bool.and_eq_true, decide_eq_true_eq] at hm
  exact ⟨⟨a, hm.1.1⟩, ⟨c, hm.1.2⟩, e, hm.2⟩
theorem Sc.ok.oct {s : Sc} (h : s.ok) : s.oct := by
  obtain ⟨⟨a, b⟩, ⟨c, d⟩, e, f⟩ := h
  exact ⟨⟨a, by omega⟩, ⟨c, by omega⟩, e, by omega⟩
theorem Sc.ok.may {s : Sc} (h : s.ok) : scMay s = true := by
  obtain ⟨⟨a, b⟩, ⟨c, d⟩, e, f⟩ := h
  simp [scMay, b, d, f]
def rightS (v : Int) : Int := if v % 32 = 31 then v / 32 * 32 + 1024 - v / 1024 % 2 * 2048 else v + 1
def belowS (v : Int) : Int := if v / 32 % 32 = 29 then v % 32 + v / 1024 * 1024 + 2048 - v / 2048 % 2 * 4096 else if v / 32 % 32 = 31 then v % 32 + v / 1024 * 1024 else v + 32
def downS (v : Int) : Int := if v / 4096 % 8 = 7 then belowS (v % 4096) else v + 4096
def acrossS (v t : Int) : Int := t % 32 + v / 32 % 32 * 32 + t / 1024 % 2 * 1024 + v / 2048 * 2048
def topS (v t : Int) : Int := v % 32 + t / 32 % 32 * 32 + v / 1024 % 2 * 1024 + t / 2048 % 16 * 2048
def doS (s : Sc) (k : Nat) (v : Int) : Sc :=
  match k with
  | 0 => { s with t := s.t % 1024 + v % 4 * 1024 + s.t / 4096 * 4096 }
  | 1 => if s.w = true then { s with t := s.t % 32 + v / 8 * 32 + s.t / 1024 % 4 * 1024 + v % 8 * 4096, w := false } else { s with t := v / 8 + s.t / 32 * 32, x := v % 8, w := true }
  | 2 => if s.w = true then { s with v := v + s.t / 256 * 256, t := v + s.t / 256 * 256, w := false } else { s with t := s.t % 256 + v % 64 * 256, w := true }
  | 3 => { s with w := false }
  | 4 => { s with v := (s.v + 1) % 32768 }
  | 5 => { s with v := (s.v + 32) % 32768 }
  | 6 => { s with v := rightS s.v }
  | 7 => { s with v := downS s.v }
  | 8 => { s with v := acrossS s.v s.t }
  | _ => { s with v := topS s.v s.t }
def tileS (s : Sc) : Int := 8192 + s.v % 4096
def tintS (s : Sc) : Int := 9152 + s.v / 1024 % 4 * 1024 + s.v / 128 % 8 * 8 + s.v / 4 % 8
def shiftS (s : Sc) : Int := s.v / 64 % 2 * 4 + s.v / 2 % 2 * 2
def rowS (s : Sc) : Int := s.v / 4096

theorem rightS_in {v : Int} (h0 : 0 ≤ v) (h1 : v < 32768) : 0 ≤ rightS v ∧ rightS v < 32768 := by unfold rightS; split <;> omega
theorem belowS_in {v : Int} (h0 : 0 ≤ v) (h1 : v < 4096) : 0 ≤ belowS v ∧ belowS v < 4096 := by unfold belowS; split <;> (try split) <;> omega
theorem downS_in {v : Int} (h0 : 0 ≤ v) (h1 : v < 32768) : 0 ≤ downS v ∧ downS v < 32768 := by
  unfold downS
  split
  · have := belowS_in (v := v % 4096) (by omega) (by omega); omega
  · omega
theorem acrossS_in {v t : Int} (h0 : 0 ≤ v) (h1 : v < 32768) : 0 ≤ acrossS v t ∧ acrossS v t < 32768 := by unfold acrossS; omega
theorem topS_in {v t : Int} : 0 ≤ topS v t ∧ topS v t < 32768 := by unfold topS; omega
/-- A scroll that may be stays one. -/
theorem doS_ok {s : Sc} (h : s.ok) (k : Nat) {v : Int} (v0 : 0 ≤ v) (v1 : v < 256) : (doS s k v).ok := by
  obtain ⟨⟨a, b⟩, ⟨c, d⟩, e, f⟩ := h
  have r := rightS_in a b
  have dn := downS_in a b
  have ac := acrossS_in (t := s.t) a b
  have tp := topS_in (v := s.v) (t := s.t)
  unfold doS Sc.ok
  split
  · exact ⟨⟨a, b⟩, ⟨by dsimp only; omega, by dsimp only; omega⟩, e, f⟩
  · split
    · exact ⟨⟨a, b⟩, ⟨by dsimp only; omega, by dsimp only; omega⟩, e, f⟩
    · exact ⟨⟨a, b⟩, ⟨by dsimp only; omega, by dsimp only; omega⟩, by dsimp only; omega, by dsimp only; omega⟩
  · split
    · exact ⟨⟨by dsimp only; omega, by dsimp only; omega⟩, ⟨by dsimp only; omega, by dsimp only; omega⟩, e, f⟩
    · exact ⟨⟨a, b⟩, ⟨by dsimp only; omega, by dsimp only; omega⟩, e, f⟩
  · exact ⟨⟨a, b⟩, ⟨c, d⟩, e, f⟩
  · exact ⟨⟨by dsimp only; omega, by dsimp only; omega⟩, ⟨c, d⟩, e, f⟩
  · exact ⟨⟨by dsimp only; omega, by dsimp only; omega⟩, ⟨c, d⟩, e, f⟩
  · exact ⟨r, ⟨c, d⟩, e, f⟩
  · exact ⟨dn, ⟨c, d⟩, e, f⟩
  · exact ⟨ac, ⟨c, d⟩, e, f⟩
  · exact ⟨tp, ⟨c, d⟩, e, f⟩
theorem tileS_in {s : Sc} (h : s.ok) : 8192 ≤ tileS s ∧ tileS s < 12288 := by unfold tileS; omega
theorem tintS_in {s : Sc} (h : s.ok) : 9152 ≤ tintS s ∧ tintS s < 12288 ∧ 960 ≤ tintS s % 1024 := by
  unfold tintS
  have a : 0 ≤ s.v / 1024 % 4 ∧ s.v / 1024 % 4 < 4 := by omega
  have b : 0 ≤ s.v / 128 % 8 ∧ s.v / 128 % 8 < 8 := by omega
  have c : 0 ≤ s.v / 4 % 8 ∧ s.v / 4 % 8 < 8 := by omega
  generalize s.v / 1024 % 4 = x at *
  generalize s.v / 128 % 8 = y at *
  generalize s.v / 4 % 8 = z at *
  omega
theorem shiftS_in {s : Sc} (h : s.ok) : 0 ≤ shiftS s ∧ shiftS s ≤ 6 ∧ shiftS s % 2 = 0 := by unfold shiftS; omega
theorem rowS_in {s : Sc} (h : s.ok) : 0 ≤ rowS s ∧ rowS s < 8 := by obtain ⟨⟨a, b⟩, _⟩ := h; unfold rowS; omega

/-- A place, by its parts. -/
theorem parts_of (v : Int) (h0 : 0 ≤ v) (h1 : v < 32768) : ∃ x y h u f : Int, (0 ≤ x ∧ x < 32) ∧ (0 ≤ y ∧ y < 32) ∧ (0 ≤ h ∧ h < 2) ∧ (0 ≤ u ∧ u < 2) ∧ (0 ≤ f ∧ f < 8) ∧ v = x + 32 * y + 1024 * h + 2048 * u + 4096 * f :=
  ⟨v % 32, v / 32 % 32, v / 1024 % 2, v / 2048 % 2, v / 4096, by omega, by omega, by omega, by omega, by omega, by omega⟩
section
variable {x y h u f : Int} (hx : 0 ≤ x ∧ x < 32) (hy : 0 ≤ y ∧ y < 32) (hh : 0 ≤ h ∧ h < 2) (hu : 0 ≤ u ∧ u < 2) (hf : 0 ≤ f ∧ f < 8)
include hx hy hh hu hf
theorem rightS_pk : rightS (x + 32 * y + 1024 * h + 2048 * u + 4096 * f) = (if x = 31 then 0 else x + 1) + 32 * y + 1024 * (if x = 31 then 1 - h else h) + 2048 * u + 4096 * f := by
  unfold rightS
  rw [show (x + 32 * y + 1024 * h + 2048 * u + 4096 * f) % 32 = x by omega]
  split
  · rw [show (x + 32 * y + 1024 * h + 2048 * u + 4096 * f) / 1024 % 2 = h by omega]; omega
  · omega
theorem downS_pk : downS (x + 32 * y + 1024 * h + 2048 * u + 4096 * f) = x + 32 * (if f = 7 then (if y = 29 ∨ y = 31 then 0 else y + 1) else y) + 1024 * h + 2048 * (if f = 7 ∧ y = 29 then 1 - u else u) + 4096 * (if f = 7 then 0 else f + 1) := by
  unfold downS
  rw [show (x + 32 * y + 1024 * h + 2048 * u + 4096 * f) / 4096 % 8 = f by omega, show (x + 32 * y + 1024 * h + 2048 * u + 4096 * f) % 4096 = x + 32 * y + 1024 * h + 2048 * u by omega]
  unfold belowS
  rw [show (x + 32 * y + 1024 * h + 2048 * u) / 32 % 32 = y by omega, show (x + 32 * y + 1024 * h + 2048 * u) % 32 = x by omega, show (x + 32 * y + 1024 * h + 2048 * u) / 1024 = h + 2 * u by omega, show (x + 32 * y + 1024 * h + 2048 * u) / 2048 % 2 = u by omega]
  by_cases h7 : f = 7 <;> by_cases h29 : y = 29 <;> by_cases h31 : y = 31 <;> simp [h7, h29, h31] <;> omega
end
theorem right_down {v : Int} (h0 : 0 ≤ v) (h1 : v < 32768) : downS (rightS v) = rightS (downS v) := by
  obtain ⟨x, y, h, u, f, hx, hy, hh, hu, hf, rfl⟩ := parts_of v h0 h1
  rw [rightS_pk hx hy hh hu hf, downS_pk hx hy hh hu hf]
  rw [downS_pk (by split <;> omega) hy (by split <;> omega) hu hf, rightS_pk hx (by split <;> (try split) <;> omega) hh (by split <;> omega) (by split <;> omega)]
theorem across_top (v t : Int) (h0 : 0 ≤ v) (h1 : v < 32768) (t0 : 0 ≤ t) (t1 : t < 32768) : topS (acrossS v t) t = t ∧ acrossS (topS v t) t = t := by
  unfold topS acrossS
  constructor <;> omega
/-- Two numbers that are one in some fields. -/
theorem xor_zero (m : Nat) (mx my mh mv mf : Nat) (hm : m = pk mx my mh mv mf) (hmx : mx = 31 ∨ mx = 0) (hmy : my = 31 ∨ my = 0) (hmh : mh = 1 ∨ mh = 0) (hmv : mv = 1 ∨ mv = 0) (hmf : mf = 7 ∨ mf = 0) (a b : Int) (a0 : 0 ≤ a) (a1 : a < 65536) (b0 : 0 ≤ b) (b1 : b < 65536)
    (e1 : mx ≠ 0 → a % 32 = b % 32) (e2 : my ≠ 0 → a / 32 % 32 = b / 32 % 32) (e3 : mh ≠ 0 → a / 1024 % 2 = b / 1024 % 2) (e4 : mv ≠ 0 → a / 2048 % 2 = b / 2048 % 2) (e5 : mf ≠ 0 → a / 4096 = b / 4096) :
    bits .and .u16 (bits .xor .u16 a b) (m : Nat) = 0 := by
  obtain ⟨n, rfl⟩ : ∃ n : Nat, a = n := ⟨a.toNat, by omega⟩
  obtain ⟨k, rfl⟩ : ∃ n : Nat, b = n := ⟨b.toNat, by omega⟩
  have mb : m < 65536 := by rw [hm]; rcases hmx with rfl | rfl <;> rcases hmy with rfl | rfl <;> rcases hmh with rfl | rfl <;> rcases hmv with rfl | rfl <;> rcases hmf with rfl | rfl <;> decide
  have hnk : n ^^^ k < 65536 := by
    have h : n ^^^ k < 2 ^ 16 := Nat.xor_lt_two_pow (by omega) (by omega)
    omega
  rw [b16_xor n k (by omega) (by omega), b16_and _ m hnk mb]
  have e : n ^^^ k = pk (n % 32 ^^^ k % 32) (n / 32 % 32 ^^^ k / 32 % 32) (n / 1024 % 2 ^^^ k / 1024 % 2) (n / 2048 % 2 ^^^ k / 2048 % 2) (n / 4096 ^^^ k / 4096) := by
    have e0 : n ^^^ k = pk (n % 32) (n / 32 % 32) (n / 1024 % 2) (n / 2048 % 2) (n / 4096) ^^^ pk (k % 32) (k / 32 % 32) (k / 1024 % 2) (k / 2048 % 2) (k / 4096) := by rw [← pk_of n, ← pk_of k]
    rw [e0, pk_xor (by omega) (by omega) (by omega) (by omega) (by omega) (by omega) (by omega) (by omega)]
  have l5 : ∀ {p q : Nat}, p < 32 → q < 32 → p ^^^ q < 32 := fun hp hq => Nat.xor_lt_two_pow (n := 5) hp hq
  have l1 : ∀ {p q : Nat}, p < 2 → q < 2 → p ^^^ q < 2 := fun hp hq => Nat.xor_lt_two_pow (n := 1) hp hq
  have q1 : n % 32 ^^^ k % 32 < 32 := l5 (by omega) (by omega)
  have q2 : n / 32 % 32 ^^^ k / 32 % 32 < 32 := l5 (by omega) (by omega)
  have q3 : n / 1024 % 2 ^^^ k / 1024 % 2 < 2 := l1 (by omega) (by omega)
  have q4 : n / 2048 % 2 ^^^ k / 2048 % 2 < 2 := l1 (by omega) (by omega)
  have r1 : mx < 32 := by rcases hmx with h | h <;> rw [h] <;> decide
  have r2 : my < 32 := by rcases hmy with h | h <;> rw [h] <;> decide
  have r3 : mh < 2 := by rcases hmh with h | h <;> rw [h] <;> decide
  have r4 : mv < 2 := by rcases hmv with h | h <;> rw [h] <;> decide
  rw [e, hm, pk_and q1 q2 q3 q4 r1 r2 r3 r4]
  have z : ∀ {p q c : Nat}, (c ≠ 0 → p = q) → (p ^^^ q) &&& c = 0 := fun {p q c} hh => by
    by_cases hc : c = 0
    · rw [hc, Nat.and_zero]
    · rw [hh hc, Nat.xor_self, Nat.zero_and]
  clear hmx hmy hmh hmv hmf mb hm e
  have z1 : (n % 32 ^^^ k % 32) &&& mx = 0 := z (fun hc => by have h := e1 hc; clear e1 e2 e3 e4 e5; omega)
  have z2 : (n / 32 % 32 ^^^ k / 32 % 32) &&& my = 0 := z (fun hc => by have h := e2 hc; clear e1 e2 e3 e4 e5; omega)
  have z3 : (n / 1024 % 2 ^^^ k / 1024 % 2) &&& mh = 0 := z (fun hc => by have h := e3 hc; clear e1 e2 e3 e4 e5; omega)
  have z4 : (n / 2048 % 2 ^^^ k / 2048 % 2) &&& mv = 0 := z (fun hc => by have h := e4 hc; clear e1 e2 e3 e4 e5; omega)
  have z5 : (n / 4096 ^^^ k / 4096) &&& mf = 0 := z (fun hc => by have h := e5 hc; clear e1 e2 e3 e4 e5; omega)
  rw [z1, z2, z3, z4, z5]
  rfl
theorem right_apart {v : Int} (h0 : 0 ≤ v) (h1 : v < 32768) : bits .and .u16 (bits .xor .u16 (rightS v) v) 31712 = 0 := by
  have hr := rightS_in h0 h1
  have := xor_zero 31712 0 31 0 1 7 (by decide) (by simp) (by simp) (by simp) (by simp) (by simp) (rightS v) v hr.1 (by omega) h0 (by omega) (by simp) (fun _ => by unfold rightS; split <;> omega) (by simp) (fun _ => by unfold rightS; split <;> omega) (fun _ => by unfold rightS; split <;> omega)
  simpa using this
theorem down_apart {v : Int} (h0 : 0 ≤ v) (h1 : v < 32768) : bits .and .u16 (bits .xor .u16 (downS v) v) 1055 = 0 := by
  have hr := downS_in h0 h1
  have h4 : downS v % 32 = v % 32 ∧ downS v / 1024 % 2 = v / 1024 % 2 := by
    obtain ⟨x, y, h, u, f, hx, hy, hh, hu, hf, rfl⟩ := parts_of v h0 h1
    rw [downS_pk hx hy hh hu hf]
    have k1 : 0 ≤ (if f = 7 then (if y = 29 ∨ y = 31 then 0 else y + 1) else y) ∧ (if f = 7 then (if y = 29 ∨ y = 31 then 0 else y + 1) else y) < 32 := by split <;> (try split) <;> omega
    generalize (if f = 7 then (if y = 29 ∨ y = 31 then 0 else y + 1) else y) = y' at *
    generalize (if f = 7 ∧ y = 29 then 1 - u else u) = u'
    generalize (if f = 7 then 0 else f + 1) = f'
    omega
  have := xor_zero 1055 31 0 1 0 0 (by decide) (by simp) (by simp) (by simp) (by simp) (by simp) (downS v) v hr.1 (by omega) h0 (by omega) (fun _ => h4.1) (by simp) (fun _ => h4.2) (by simp) (by simp)
  simpa using this

/-- So often to the right, and down, from a line of tiles. -/
def rightN (v : Int) (i : Int) : Int := (v % 32 + i) % 32 + 32 * (v / 32 % 32) + 1024 * ((v / 1024 + (v % 32 + i) / 32) % 2) + 2048 * (v / 2048 % 2) + 4096 * (v / 4096)
def downN (v : Int) (i : Int) : Int := v % 32 + 32 * ((8 * (v / 32 % 32) + i) / 8 % 30) + 1024 * (v / 1024 % 2) + 2048 * ((v / 2048 + (8 * (v / 32 % 32) + i) / 240) % 2) + 4096 * ((8 * (v / 32 % 32) + i) % 8)
theorem rightN_in {v i : Int} (h0 : 0 ≤ v) (h1 : v < 4096) (i0 : 0 ≤ i) : 0 ≤ rightN v i ∧ rightN v i < 4096 := by unfold rightN; omega
theorem downN_in {v i : Int} : 0 ≤ downN v i ∧ downN v i < 32768 := by unfold downN; omega
theorem rightN_zero {v : Int} (h0 : 0 ≤ v) (h1 : v < 4096) : rightN v 0 = v := by unfold rightN; omega
theorem downN_zero {v : Int} (h0 : 0 ≤ v) (h1 : v < 4096) (hy : v / 32 % 32 ≤ 29) : downN v 0 = v := by unfold downN; omega
theorem rightN_next {v i : Int} (h0 : 0 ≤ v) (h1 : v < 4096) (i0 : 0 ≤ i) : rightS (rightN v i) = rightN v (i + 1) := by
  unfold rightN
  rw [rightS_pk (by omega) (by omega) (by omega) (by omega) (by omega)]
  by_cases h : (v % 32 + i) % 32 = 31
  · rw [if_pos h, if_pos h]; omega
  · rw [if_neg h, if_neg h]; omega
theorem downN_next {v i : Int} (h0 : 0 ≤ v) (h1 : v < 4096) (i0 : 0 ≤ i) : downS (downN v i) = downN v (i + 1) := by
  unfold downN
  generalize hp : 8 * (v / 32 % 32) + i = p
  rw [show 8 * (v / 32 % 32) + (i + 1) = p + 1 by omega]
  have p0 : 0 ≤ p := by omega
  rw [downS_pk (by omega) (by omega) (by omega) (by omega) (by omega)]
  by_cases h7 : p % 8 = 7
  · rw [if_pos h7, if_pos h7]
    by_cases h29 : p / 8 % 30 = 29
    · rw [if_pos (by omega), if_pos (by omega)]; omega
    · rw [if_neg (by omega), if_neg (by omega)]; omega
  · rw [if_neg h7, if_neg (by omega), if_neg h7]; omega
theorem rightN_64 {v i : Int} (h0 : 0 ≤ v) (h1 : v < 4096) (i0 : 0 ≤ i) (h : i % 64 = 0) : rightN v i = v := by unfold rightN; omega
theorem rightN_32 {v i : Int} (h0 : 0 ≤ v) (h1 : v < 4096) (i0 : 0 ≤ i) (h : i % 64 = 32) : rightN v i = bits .xor .u16 v 1024 := by rw [xor_1024 v h0 (by omega)]; unfold rightN; omega
theorem downN_240 {v : Int} (h0 : 0 ≤ v) (h1 : v < 4096) (hy : v / 32 % 32 ≤ 29) : downN v 240 = bits .xor .u16 v 2048 := by rw [xor_2048 v h0 (by omega)]; unfold downN; omega
theorem downN_480 {v : Int} (h0 : 0 ≤ v) (h1 : v < 4096) (hy : v / 32 % 32 ≤ 29) : downN v 480 = v := by unfold downN; omega
end Go.Proofs.Ytcgnnbgknaamdaa
