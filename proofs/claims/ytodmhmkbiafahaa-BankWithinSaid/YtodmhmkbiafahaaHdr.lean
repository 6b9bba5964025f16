/-
  Plain maths of a cartridge's header: no world in it. chkN: the error of a cartridge; crtOf: what octets 4 to 9 tell; amt: how many octets a memory has.
-/
import Derived.ProofKit
namespace Go.Proofs.Ytodmhmkbiafahaa

/-- A cartridge, cell by cell. -/
structure Crt where
  m : Int
  s : Int
  p : Int
  k : Int
  b : Bool
  f : Bool
  v : Bool
  t : Bool
  o : Bool

def mapOk (m : Int) : Bool := decide (m = 0) || decide (m = 1) || decide (m = 2) || decide (m = 3) || decide (m = 4) || decide (m = 7)
def prgOk (p : Int) : Bool := decide (p = 16384) || decide (p = 32768) || decide (p = 65536) || decide (p = 131072) || decide (p = 262144) || decide (p = 524288)
def chrOk (p : Int) : Bool := decide (p = 8192) || decide (p = 16384) || decide (p = 32768) || decide (p = 65536) || decide (p = 131072) || decide (p = 262144)
/-- Whether both sizes may be. -/
def sizOk (p k : Int) (o : Bool) : Bool := prgOk p && chrOk k && (!o || decide (k = 8192))
/-- The error of its Sub. -/
def subN (s : Int) (t : Bool) : Int := if 0 ≤ s ∧ s ≤ 15 ∧ (t = true ∨ s = 0) then 0 else 1
def chkV (m s p k : Int) (t o : Bool) : Int := if mapOk m = true then (if sizOk p k o = true then subN s t else 5) else 6
def chkN (c : Crt) : Int := chkV c.m c.s c.p c.k c.t c.o

theorem mapOk_iff {m : Int} : mapOk m = true ↔ m = 0 ∨ m = 1 ∨ m = 2 ∨ m = 3 ∨ m = 4 ∨ m = 7 := by
  unfold mapOk; simp only [Bool.or_eq_true, decide_eq_true_eq]; omega
theorem prgOk_iff {p : Int} : prgOk p = true ↔ p = 16384 ∨ p = 32768 ∨ p = 65536 ∨ p = 131072 ∨ p = 262144 ∨ p = 524288 := by
  unfold prgOk; simp only [Bool.or_eq_true, decide_eq_true_eq]; omega
theorem chrOk_iff {p : Int} : chrOk p = true ↔ p = 8192 ∨ p = 16384 ∨ p = 32768 ∨ p = 65536 ∨ p = 131072 ∨ p = 262144 := by
  unfold chrOk; simp only [Bool.or_eq_true, decide_eq_true_eq]; omega
theorem sizOk_iff {p k : Int} {o : Bool} : sizOk p k o = true ↔ prgOk p = true ∧ chrOk k = true ∧ (o = true → k = 8192) := by
  unfold sizOk; cases o <;> simp [and_assoc]
theorem subN_cases (s : Int) (t : Bool) : subN s t = 0 ∨ subN s t = 1 := by unfold subN; split <;> simp
theorem subN_zero {s : Int} {t : Bool} : subN s t = 0 ↔ 0 ≤ s ∧ s ≤ 15 ∧ (t = true ∨ s = 0) := by unfold subN; split <;> simp_all
theorem chkV_cases (m s p k : Int) (t o : Bool) : chkV m s p k t o = 0 ∨ chkV m s p k t o = 1 ∨ chkV m s p k t o = 5 ∨ chkV m s p k t o = 6 := by
  unfold chkV; split
  · split
    · rcases subN_cases s t with h | h <;> simp [h]
    · simp
  · simp
theorem chkV_zero {m s p k : Int} {t o : Bool} : chkV m s p k t o = 0 ↔ mapOk m = true ∧ sizOk p k o = true ∧ subN s t = 0 := by
  unfold chkV
  cases mapOk m <;> cases sizOk p k o <;> simp
theorem chkN_zero {c : Crt} : chkN c = 0 ↔ mapOk c.m = true ∧ prgOk c.p = true ∧ chrOk c.k = true ∧ (c.o = true → c.k = 8192) ∧ 0 ≤ c.s ∧ c.s ≤ 15 ∧ (c.t = true ∨ c.s = 0) := by
  unfold chkN; rw [chkV_zero, sizOk_iff, subN_zero]; simp only [and_assoc]

theorem chkV_siz {m s p k p' k' : Int} {t o o' : Bool} (h : sizOk p k o = sizOk p' k' o') : chkV m s p k t o = chkV m s p' k' t o' := by unfold chkV; rw [h]
/-- How many octets a memory has, by its octet and by the half of one above that. -/
def amt (octet half unit : Int) : Int := if half = 15 then (2 * (octet % 4) + 1) * ((2 ^ (min (octet / 4) 20).toNat : Nat) : Int) else (half * 256 + octet) * unit
/-- The document's: held at a million, doubling by doubling. -/
def dbl : Nat → Int → Int
  | 0, n => n
  | i + 1, n => dbl i (min (2 * n) 1000000)
def amtR (low high unit : Int) : Int := if high = 15 then dbl (low / 4).toNat (low % 4 * 2 + 1) else (256 * high + low) * unit

/-- Whether a header is of the second kind, by its octet 7. -/
def secK (x : Int) : Bool := decide (x / 4 % 4 = 2)
def crtOf (x4 x5 x6 x7 x8 x9 : Int) : Crt where
  m := x8 % 16 * 256 + x7 / 16 * 16 + x6 / 16
  s := x8 / 16
  p := amt x4 (x9 % 16) 16384
  k := if amt x5 (x9 / 16) 8192 = 0 then 8192 else amt x5 (x9 / 16) 8192
  b := decide (x6 / 2 % 2 = 1)
  f := decide (x6 / 8 % 2 = 1)
  v := decide (x6 % 2 = 1)
  t := secK x7
  o := decide (amt x5 (x9 / 16) 8192 = 0)
/-- The document's cartridge, by its own sizes. -/
def crtR (x4 x5 x6 x7 x8 x9 : Int) : Crt where
  m := x8 % 16 * 256 + x7 / 16 * 16 + x6 / 16
  s := x8 / 16
  p := amtR x4 (x9 % 16) 16384
  k := if amtR x5 (x9 / 16) 8192 = 0 then 8192 else amtR x5 (x9 / 16) 8192
  b := decide (x6 / 2 % 2 = 1)
  f := decide (x6 / 8 % 2 = 1)
  v := decide (x6 % 2 = 1)
  t := secK x7
  o := decide (amtR x5 (x9 / 16) 8192 = 0)

/-- What both sizes come to: the same, or of both of them more than any memory has. -/
theorem amt_high (x : Int) (h0 : 0 ≤ x) (h1 : x < 256) : amt x 15 1 = amtR x 15 1 ∨ (524288 < amt x 15 1 ∧ 524288 < amtR x 15 1) := by
  obtain ⟨n, rfl⟩ : ∃ n : Nat, x = (n : Int) := ⟨x.toNat, by omega⟩
  have hn : n < 256 := by omega
  have key : ∀ n : Fin 256, amt (n.val : Int) 15 1 = amtR (n.val : Int) 15 1 ∨ (524288 < amt (n.val : Int) 15 1 ∧ 524288 < amtR (n.val : Int) 15 1) := by decide +kernel
  exact key ⟨n, hn⟩
theorem amt_same (x y u : Int) (h0 : 0 ≤ x) (h1 : x < 256) : amt x y u = amtR x y u ∨ (524288 < amt x y u ∧ 524288 < amtR x y u) := by
  by_cases h : y = 15
  · subst h
    have e1 : amt x 15 u = amt x 15 1 := by unfold amt; simp
    have e2 : amtR x 15 u = amtR x 15 1 := by unfold amtR; simp
    rw [e1, e2]
    exact amt_high x h0 h1
  · left
    unfold amt amtR
    rw [if_neg h, if_neg h, Int.mul_comm y 256]
theorem prgOk_big {p : Int} (h : 524288 < p) : prgOk p = false := by
  rw [Bool.eq_false_iff]; intro h'; rw [prgOk_iff] at h'; omega
theorem chrOk_big {p : Int} (h : 524288 < p) : chrOk p = false := by
  rw [Bool.eq_false_iff]; intro h'; rw [chrOk_iff] at h'; omega
/-- Both tell the same error. -/
theorem crt_err (x4 x5 x6 x7 x8 x9 : Int) (h4 : 0 ≤ x4) (g4 : x4 < 256) (h5 : 0 ≤ x5) (g5 : x5 < 256) : chkN (crtR x4 x5 x6 x7 x8 x9) = chkN (crtOf x4 x5 x6 x7 x8 x9) := by
  have key : sizOk (amtR x4 (x9 % 16) 16384) (if amtR x5 (x9 / 16) 8192 = 0 then 8192 else amtR x5 (x9 / 16) 8192) (decide (amtR x5 (x9 / 16) 8192 = 0)) = sizOk (amt x4 (x9 % 16) 16384) (if amt x5 (x9 / 16) 8192 = 0 then 8192 else amt x5 (x9 / 16) 8192) (decide (amt x5 (x9 / 16) 8192 = 0)) := by
    rcases amt_same x4 (x9 % 16) 16384 h4 g4 with e | ⟨a, b⟩
    · rcases amt_same x5 (x9 / 16) 8192 h5 g5 with e' | ⟨a', b'⟩
      · rw [e, e']
      · unfold sizOk
        rw [if_neg (by omega), if_neg (by omega), chrOk_big a', chrOk_big b']
        simp
    · unfold sizOk
      rw [prgOk_big a, prgOk_big b]
      simp
  exact chkV_siz key
/-- And the same cartridge, where there is none. -/
theorem crt_same (x4 x5 x6 x7 x8 x9 : Int) (h4 : 0 ≤ x4) (g4 : x4 < 256) (h5 : 0 ≤ x5) (g5 : x5 < 256) (h : chkN (crtOf x4 x5 x6 x7 x8 x9) = 0) : crtR x4 x5 x6 x7 x8 x9 = crtOf x4 x5 x6 x7 x8 x9 := by
  obtain ⟨_, hp, hk, _⟩ := chkN_zero.1 h
  simp only [crtOf] at hp hk
  have e4 : amtR x4 (x9 % 16) 16384 = amt x4 (x9 % 16) 16384 := by
    rcases amt_same x4 (x9 % 16) 16384 h4 g4 with e | ⟨a, b⟩
    · exact e.symm
    · rw [prgOk_big a] at hp; exact absurd hp (by simp)
  have e5 : amtR x5 (x9 / 16) 8192 = amt x5 (x9 / 16) 8192 := by
    rcases amt_same x5 (x9 / 16) 8192 h5 g5 with e | ⟨a, b⟩
    · exact e.symm
    · rw [if_neg (by omega), chrOk_big a] at hk; exact absurd hk (by simp)
  unfold crtR crtOf
  rw [e4, e5]

/-- An octet of a text (0 behind its end). -/
def oct (s : ByteArray) (i : Nat) : Int := ((s.data.toList.getD i 0).toNat : Int)
theorem oct_lo (s : ByteArray) (i : Nat) : 0 ≤ oct s i := by unfold oct; omega
theorem oct_hi (s : ByteArray) (i : Nat) : oct s i < 256 := by unfold oct; have := (s.data.toList.getD i 0).toNat_lt; omega
theorem oct_at (s : ByteArray) (i : Nat) (h : i < s.size) : ((s[i]'h).toNat : Int) = oct s i := by
  unfold oct
  have h' : i < s.data.toList.length := by simpa using h
  rw [List.getD_eq_getElem?_getD, List.getElem?_eq_getElem h']
  rfl
/-- Whether octets begin as a header does. -/
def magB (s : ByteArray) : Bool := decide (16 ≤ s.size) && decide (oct s 0 = 78) && decide (oct s 1 = 69) && decide (oct s 2 = 83) && decide (oct s 3 = 26)
/-- Octets 8 and 9, where they count. -/
def y8 (s : ByteArray) : Int := if secK (oct s 7) = true then oct s 8 else 0
def y9 (s : ByteArray) : Int := if secK (oct s 7) = true then oct s 9 else 0
def hdrC (s : ByteArray) : Crt := crtOf (oct s 4) (oct s 5) (oct s 6) (oct s 7) (y8 s) (y9 s)
def trnN (s : ByteArray) : Int := if oct s 6 / 4 % 2 = 1 then 512 else 0
def givN (c : Crt) : Int := if c.o = true then 0 else c.k
/-- Where the program's memory begins. -/
def atN (s : ByteArray) : Int := 16 + trnN s
/-- The error of a whole text. -/
def wholeE (s : ByteArray) : Int := if magB s = true then (if chkN (hdrC s) = 0 then (if atN s + (hdrC s).p + givN (hdrC s) ≤ (s.size : Int) then 0 else 5) else chkN (hdrC s)) else 4
theorem y9_lo (s : ByteArray) : 0 ≤ y9 s := by unfold y9; split <;> simp [oct_lo]
theorem y9_hi (s : ByteArray) : y9 s < 256 := by unfold y9; split <;> simp [oct_hi]
theorem y8_lo (s : ByteArray) : 0 ≤ y8 s := by unfold y8; split <;> simp [oct_lo]
theorem y8_hi (s : ByteArray) : y8 s < 256 := by unfold y8; split <;> simp [oct_hi]
end Go.Proofs.Ytodmhmkbiafahaa
