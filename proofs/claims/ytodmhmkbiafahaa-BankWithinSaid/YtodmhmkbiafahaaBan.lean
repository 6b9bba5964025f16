/-
  Plain maths of banks: where an address is in a cartridge's memories. No world in it.
-/
import Derived.Test.YtodmhmkbiafahaaMap
import Derived.Test.YtodmhmkbiafahaaHdr
namespace Go.Proofs.Ytodmhmkbiafahaa

/-- Four numbers, and eight. -/
structure B4 where
  b0 : Int
  b1 : Int
  b2 : Int
  b3 : Int
structure B8 where
  b0 : Int
  b1 : Int
  b2 : Int
  b3 : Int
  b4 : Int
  b5 : Int
  b6 : Int
  b7 : Int
def b4C (b : B4) : Array Value := #[.int .i64 b.b0, .int .i64 b.b1, .int .i64 b.b2, .int .i64 b.b3]
def b8C (b : B8) : Array Value := #[.int .i64 b.b0, .int .i64 b.b1, .int .i64 b.b2, .int .i64 b.b3, .int .i64 b.b4, .int .i64 b.b5, .int .i64 b.b6, .int .i64 b.b7]
def B4.at (b : B4) (q : Int) : Int := if q = 0 then b.b0 else if q = 1 then b.b1 else if q = 2 then b.b2 else b.b3
def B8.at (b : B8) (q : Int) : Int := if q = 0 then b.b0 else if q = 1 then b.b1 else if q = 2 then b.b2 else if q = 3 then b.b3 else if q = 4 then b.b4 else if q = 5 then b.b5 else if q = 6 then b.b6 else b.b7
def pHalves (x y : Int) : B4 := ⟨2 * x, 2 * x + 1, 2 * y, 2 * y + 1⟩
def pWhole (x : Int) : B4 := pHalves (2 * x) (2 * x + 1)
def pOne (m : Mp) (l : Int) : B4 := if m.cl / 4 % 4 = 2 then pHalves 0 (m.pr % 16) else if m.cl / 4 % 4 = 3 then pHalves (m.pr % 16) (l / 2) else pWhole (m.pr % 16 / 2)
def pFour (m : Mp) (l : Int) : B4 := if m.se / 64 % 2 = 1 then ⟨l - 1, m.r7, m.r6, l⟩ else ⟨m.r6, m.r7, l - 1, l⟩
def pBanks (m : Mp) (l : Int) : B4 := if m.k = 1 then pOne m l else if m.k = 2 then pHalves m.bk (l / 2) else if m.k = 4 then pFour m l else if m.k = 7 then pWhole (m.bk % 8) else pWhole 0
def cHalves (x y : Int) : B8 := ⟨4 * x, 4 * x + 1, 4 * x + 2, 4 * x + 3, 4 * y, 4 * y + 1, 4 * y + 2, 4 * y + 3⟩
def cWhole (x : Int) : B8 := cHalves (2 * x) (2 * x + 1)
def cFour (m : Mp) : B8 := if m.se / 128 = 1 then ⟨m.r2, m.r3, m.r4, m.r5, m.r0 / 2 * 2, m.r0 / 2 * 2 + 1, m.r1 / 2 * 2, m.r1 / 2 * 2 + 1⟩ else ⟨m.r0 / 2 * 2, m.r0 / 2 * 2 + 1, m.r1 / 2 * 2, m.r1 / 2 * 2 + 1, m.r2, m.r3, m.r4, m.r5⟩
def cBanks (m : Mp) : B8 := if m.k = 1 then (if m.cl / 16 % 2 = 1 then cHalves m.c0 m.c1 else cWhole (m.c0 / 2)) else if m.k = 3 then cWhole m.bk else if m.k = 4 then cFour m else cWhole 0
def okP (m : Mp) (s a : Int) : Bool := mayB m && prgOk s && decide (32768 ≤ a)
def okC (m : Mp) (s a : Int) : Bool := mayB m && chrOk s && decide (a < 8192)
def errN (b : Bool) : Int := if b = true then 0 else 1
def inP (m : Mp) (s a : Int) : Int := (pBanks m (s / 8192 - 1)).at ((a - 32768) / 8192) * 8192 % s + (a - 32768) % 8192
def inC (m : Mp) (s a : Int) : Int := (cBanks m).at (a / 1024) * 1024 % s + a % 1024
def prgV (m : Mp) (s a : Int) : Int := if okP m s a = true then inP m s a else 0
def chrV (m : Mp) (s a : Int) : Int := if okC m s a = true then inC m s a else 0
/-- The document's place. -/
def plR (s n o t : Int) : Int := if s / o = 0 then t % o % s else n % (s / o) * o + t % o

theorem prg_sizes {s : Int} (h : prgOk s = true) : 16384 ≤ s ∧ s ≤ 524288 := by
  rcases prgOk_iff.1 h with rfl | rfl | rfl | rfl | rfl | rfl <;> omega
theorem chr_sizes {s : Int} (h : chrOk s = true) : 8192 ≤ s ∧ s ≤ 262144 := by
  rcases chrOk_iff.1 h with rfl | rfl | rfl | rfl | rfl | rfl <;> omega
theorem b4_at (b : B4) : b.at 0 = b.b0 ∧ b.at 1 = b.b1 ∧ b.at 2 = b.b2 ∧ b.at 3 = b.b3 := ⟨rfl, rfl, rfl, rfl⟩
theorem b8_at (b : B8) : b.at 0 = b.b0 ∧ b.at 1 = b.b1 ∧ b.at 2 = b.b2 ∧ b.at 3 = b.b3 ∧ b.at 4 = b.b4 ∧ b.at 5 = b.b5 ∧ b.at 6 = b.b6 ∧ b.at 7 = b.b7 := ⟨rfl, rfl, rfl, rfl, rfl, rfl, rfl, rfl⟩

/-- The document's places are the code's: the program's memory. -/
theorem pl_whole {s a : Int} (x : Int) (hs : prgOk s = true) (ha : 32768 ≤ a) (hb : a < 65536) : plR s x 32768 a = (pWhole x).at ((a - 32768) / 8192) * 8192 % s + (a - 32768) % 8192 := by
  have hq : (a - 32768) / 8192 = 0 ∨ (a - 32768) / 8192 = 1 ∨ (a - 32768) / 8192 = 2 ∨ (a - 32768) / 8192 = 3 := by omega
  rcases prgOk_iff.1 hs with rfl | rfl | rfl | rfl | rfl | rfl <;> rcases hq with h | h | h | h <;> rw [h] <;> simp [plR, pWhole, pHalves, B4.at] <;> omega
theorem pl_low {s a : Int} (x y : Int) (hs : prgOk s = true) (ha : 32768 ≤ a) (hb : a < 49152) : plR s x 16384 a = (pHalves x y).at ((a - 32768) / 8192) * 8192 % s + (a - 32768) % 8192 := by
  have hq : (a - 32768) / 8192 = 0 ∨ (a - 32768) / 8192 = 1 := by omega
  rcases prgOk_iff.1 hs with rfl | rfl | rfl | rfl | rfl | rfl <;> rcases hq with h | h <;> rw [h] <;> simp [plR, pHalves, B4.at] <;> omega
theorem pl_high {s a : Int} (x y : Int) (hs : prgOk s = true) (ha : 49152 ≤ a) (hb : a < 65536) : plR s y 16384 a = (pHalves x y).at ((a - 32768) / 8192) * 8192 % s + (a - 32768) % 8192 := by
  have hq : (a - 32768) / 8192 = 2 ∨ (a - 32768) / 8192 = 3 := by omega
  rcases prgOk_iff.1 hs with rfl | rfl | rfl | rfl | rfl | rfl <;> rcases hq with h | h <;> rw [h] <;> simp [plR, pHalves, B4.at] <;> omega
theorem pl_eight {s a : Int} (x : Int) (hs : prgOk s = true) : plR s x 8192 a = x * 8192 % s + (a - 32768) % 8192 := by
  rcases prgOk_iff.1 hs with rfl | rfl | rfl | rfl | rfl | rfl <;> simp [plR] <;> omega
theorem pl_none {s a : Int} (hs : prgOk s = true) (ha : 32768 ≤ a) (hb : a < 65536) : (a - 32768) % s = (pWhole 0).at ((a - 32768) / 8192) * 8192 % s + (a - 32768) % 8192 := by
  have hq : (a - 32768) / 8192 = 0 ∨ (a - 32768) / 8192 = 1 ∨ (a - 32768) / 8192 = 2 ∨ (a - 32768) / 8192 = 3 := by omega
  rcases prgOk_iff.1 hs with rfl | rfl | rfl | rfl | rfl | rfl <;> rcases hq with h | h | h | h <;> rw [h] <;> simp [pWhole, pHalves, B4.at] <;> omega
/-- And the picture's. -/
theorem cl_whole {s a : Int} (x : Int) (hs : chrOk s = true) (ha : 0 ≤ a) (hb : a < 8192) : plR s x 8192 a = (cWhole x).at (a / 1024) * 1024 % s + a % 1024 := by
  have hq : a / 1024 = 0 ∨ a / 1024 = 1 ∨ a / 1024 = 2 ∨ a / 1024 = 3 ∨ a / 1024 = 4 ∨ a / 1024 = 5 ∨ a / 1024 = 6 ∨ a / 1024 = 7 := by omega
  rcases chrOk_iff.1 hs with rfl | rfl | rfl | rfl | rfl | rfl <;> rcases hq with h | h | h | h | h | h | h | h <;> rw [h] <;> simp [plR, cWhole, cHalves, B8.at] <;> omega
theorem cl_low {s a : Int} (x y : Int) (hs : chrOk s = true) (ha : 0 ≤ a) (hb : a < 4096) : plR s x 4096 a = (cHalves x y).at (a / 1024) * 1024 % s + a % 1024 := by
  have hq : a / 1024 = 0 ∨ a / 1024 = 1 ∨ a / 1024 = 2 ∨ a / 1024 = 3 := by omega
  rcases chrOk_iff.1 hs with rfl | rfl | rfl | rfl | rfl | rfl <;> rcases hq with h | h | h | h <;> rw [h] <;> simp [plR, cHalves, B8.at] <;> omega
theorem cl_high {s a : Int} (x y : Int) (hs : chrOk s = true) (ha : 4096 ≤ a) (hb : a < 8192) : plR s y 4096 a = (cHalves x y).at (a / 1024) * 1024 % s + a % 1024 := by
  have hq : a / 1024 = 4 ∨ a / 1024 = 5 ∨ a / 1024 = 6 ∨ a / 1024 = 7 := by omega
  rcases chrOk_iff.1 hs with rfl | rfl | rfl | rfl | rfl | rfl <;> rcases hq with h | h | h | h <;> rw [h] <;> simp [plR, cHalves, B8.at] <;> omega
theorem cl_one {s a : Int} (x : Int) (hs : chrOk s = true) : plR s x 1024 a = x * 1024 % s + a % 1024 := by
  rcases chrOk_iff.1 hs with rfl | rfl | rfl | rfl | rfl | rfl <;> simp [plR] <;> omega
/-- A bank of two from an even number on: the first of them, and the second. -/
theorem cl_two {s a : Int} (x q : Int) (hs : chrOk s = true) (hq : a / 1024 = q) : plR s (x / 2) 2048 a = (x / 2 * 2 + q % 2) * 1024 % s + a % 1024 := by
  rcases chrOk_iff.1 hs with rfl | rfl | rfl | rfl | rfl | rfl <;> simp [plR] <;> omega
theorem cl_none {s a : Int} (hs : chrOk s = true) (ha : 0 ≤ a) (hb : a < 8192) : a % s = (cWhole 0).at (a / 1024) * 1024 % s + a % 1024 := by
  have hq : a / 1024 = 0 ∨ a / 1024 = 1 ∨ a / 1024 = 2 ∨ a / 1024 = 3 ∨ a / 1024 = 4 ∨ a / 1024 = 5 ∨ a / 1024 = 6 ∨ a / 1024 = 7 := by omega
  rcases chrOk_iff.1 hs with rfl | rfl | rfl | rfl | rfl | rfl <;> rcases hq with h | h | h | h | h | h | h | h <;> rw [h] <;> simp [cWhole, cHalves, B8.at] <;> omega
end Go.Proofs.Ytodmhmkbiafahaa
