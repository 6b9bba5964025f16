/-
  A mapper's registers, cell by cell, and what stands in a block that holds them. No condition.
-/
import Derived.Test.YtodmhmkbiafahaaMem
import Derived.Test.YtodmhmkbiafahaaHdr
namespace Go.Proofs.Ytodmhmkbiafahaa
open Go.RowKit

structure Mp where
  k : Int
  v : Bool
  f : Bool
  sh : Int
  ct : Int
  cl : Int
  c0 : Int
  c1 : Int
  pr : Int
  la : Int
  bk : Int
  se : Int
  mi : Int
  r0 : Int
  r1 : Int
  r2 : Int
  r3 : Int
  r4 : Int
  r5 : Int
  r6 : Int
  r7 : Int
  lt : Int
  cn : Int
  rl : Bool
  en : Bool
  iq : Bool
  lo : Int
def mpC (m : Mp) : Array Value := #[.int .i64 m.k, .bool m.v, .bool m.f, .int .u8 m.sh, .int .u8 m.ct, .int .u8 m.cl, .int .u8 m.c0, .int .u8 m.c1, .int .u8 m.pr, .int .i64 m.la, .int .u8 m.bk, .int .u8 m.se, .int .u8 m.mi, .int .u8 m.r0, .int .u8 m.r1, .int .u8 m.r2, .int .u8 m.r3, .int .u8 m.r4, .int .u8 m.r5, .int .u8 m.r6, .int .u8 m.r7, .int .u8 m.lt, .int .u8 m.cn, .bool m.rl, .bool m.en, .bool m.iq, .int .i64 m.lo]
def mpV (m : Mp) : Value := .agg (mpC m)
def mp0 : Mp := ⟨0, false, false, 0, 0, 0, 0, 0, 0, 0, 0, 0, 0, 0, 0, 0, 0, 0, 0, 0, 0, 0, 0, false, false, false, 0⟩
/-- Its octets are octets. -/
def Mp.oct (m : Mp) : Prop := (0 ≤ m.sh ∧ m.sh < 256) ∧ (0 ≤ m.ct ∧ m.ct < 256) ∧ (0 ≤ m.cl ∧ m.cl < 256) ∧ (0 ≤ m.c0 ∧ m.c0 < 256) ∧ (0 ≤ m.c1 ∧ m.c1 < 256) ∧ (0 ≤ m.pr ∧ m.pr < 256) ∧ (0 ≤ m.bk ∧ m.bk < 256) ∧ (0 ≤ m.se ∧ m.se < 256) ∧ (0 ≤ m.mi ∧ m.mi < 256) ∧ (0 ≤ m.r0 ∧ m.r0 < 256) ∧ (0 ≤ m.r1 ∧ m.r1 < 256) ∧ (0 ≤ m.r2 ∧ m.r2 < 256) ∧ (0 ≤ m.r3 ∧ m.r3 < 256) ∧ (0 ≤ m.r4 ∧ m.r4 < 256) ∧ (0 ≤ m.r5 ∧ m.r5 < 256) ∧ (0 ≤ m.r6 ∧ m.r6 < 256) ∧ (0 ≤ m.r7 ∧ m.r7 < 256) ∧ (0 ≤ m.lt ∧ m.lt < 256) ∧ (0 ≤ m.cn ∧ m.cn < 256)
/-- May it be? -/
def mayB (m : Mp) : Bool := mapOk m.k && decide (m.sh < 32) && decide (m.ct < 5) && decide (m.cl < 32) && decide (m.c0 < 32) && decide (m.c1 < 32) && decide (m.pr < 32) && decide (0 ≤ m.lo) && decide (m.lo ≤ 100)
section
variable (m : Mp)
theorem mp_at0 : (mpC m)[0]? = some (.int .i64 m.k) := rfl
theorem mp_at1 : (mpC m)[1]? = some (.bool m.v) := rfl
theorem mp_at2 : (mpC m)[2]? = some (.bool m.f) := rfl
theorem mp_at3 : (mpC m)[3]? = some (.int .u8 m.sh) := rfl
theorem mp_at4 : (mpC m)[4]? = some (.int .u8 m.ct) := rfl
theorem mp_at5 : (mpC m)[5]? = some (.int .u8 m.cl) := rfl
theorem mp_at6 : (mpC m)[6]? = some (.int .u8 m.c0) := rfl
theorem mp_at7 : (mpC m)[7]? = some (.int .u8 m.c1) := rfl
theorem mp_at8 : (mpC m)[8]? = some (.int .u8 m.pr) := rfl
theorem mp_at9 : (mpC m)[9]? = some (.int .i64 m.la) := rfl
theorem mp_at10 : (mpC m)[10]? = some (.int .u8 m.bk) := rfl
theorem mp_at11 : (mpC m)[11]? = some (.int .u8 m.se) := rfl
theorem mp_at12 : (mpC m)[12]? = some (.int .u8 m.mi) := rfl
theorem mp_at13 : (mpC m)[13]? = some (.int .u8 m.r0) := rfl
theorem mp_at14 : (mpC m)[14]? = some (.int .u8 m.r1) := rfl
theorem mp_at15 : (mpC m)[15]? = some (.int .u8 m.r2) := rfl
theorem mp_at16 : (mpC m)[16]? = some (.int .u8 m.r3) := rfl
theorem mp_at17 : (mpC m)[17]? = some (.int .u8 m.r4) := rfl
theorem mp_at18 : (mpC m)[18]? = some (.int .u8 m.r5) := rfl
theorem mp_at19 : (mpC m)[19]? = some (.int .u8 m.r6) := rfl
theorem mp_at20 : (mpC m)[20]? = some (.int .u8 m.r7) := rfl
theorem mp_at21 : (mpC m)[21]? = some (.int .u8 m.lt) := rfl
theorem mp_at22 : (mpC m)[22]? = some (.int .u8 m.cn) := rfl
theorem mp_at23 : (mpC m)[23]? = some (.bool m.rl) := rfl
theorem mp_at24 : (mpC m)[24]? = some (.bool m.en) := rfl
theorem mp_at25 : (mpC m)[25]? = some (.bool m.iq) := rfl
theorem mp_at26 : (mpC m)[26]? = some (.int .i64 m.lo) := rfl
theorem mp_set0 (x : Int) : (splice (mpC m).toList 0 (Value.cells (.int .i64 x)).toList).toArray = mpC { m with k := x } := rfl
theorem mp_set1 (x : Bool) : (splice (mpC m).toList 1 (Value.cells (.bool x)).toList).toArray = mpC { m with v := x } := rfl
theorem mp_set2 (x : Bool) : (splice (mpC m).toList 2 (Value.cells (.bool x)).toList).toArray = mpC { m with f := x } := rfl
theorem mp_set3 (x : Int) : (splice (mpC m).toList 3 (Value.cells (.int .u8 x)).toList).toArray = mpC { m with sh := x } := rfl
theorem mp_set4 (x : Int) : (splice (mpC m).toList 4 (Value.cells (.int .u8 x)).toList).toArray = mpC { m with ct := x } := rfl
theorem mp_set5 (x : Int) : (splice (mpC m).toList 5 (Value.cells (.int .u8 x)).toList).toArray = mpC { m with cl := x } := rfl
theorem mp_set6 (x : Int) : (splice (mpC m).toList 6 (Value.cells (.int .u8 x)).toList).toArray = mpC { m with c0 := x } := rfl
theorem mp_set7 (x : Int) : (splice (mpC m).toList 7 (Value.cells (.int .u8 x)).toList).toArray = mpC { m with c1 := x } := rfl
theorem mp_set8 (x : Int) : (splice (mpC m).toList 8 (Value.cells (.int .u8 x)).toList).toArray = mpC { m with pr := x } := rfl
theorem mp_set9 (x : Int) : (splice (mpC m).toList 9 (Value.cells (.int .i64 x)).toList).toArray = mpC { m with la := x } := rfl
theorem mp_set10 (x : Int) : (splice (mpC m).toList 10 (Value.cells (.int .u8 x)).toList).toArray = mpC { m with bk := x } := rfl
theorem mp_set11 (x : Int) : (splice (mpC m).toList 11 (Value.cells (.int .u8 x)).toList).toArray = mpC { m with se := x } := rfl
theorem mp_set12 (x : Int) : (splice (mpC m).toList 12 (Value.cells (.int .u8 x)).toList).toArray = mpC { m with mi := x } := rfl
theorem mp_set13 (x : Int) : (splice (mpC m).toList 13 (Value.cells (.int .u8 x)).toList).toArray = mpC { m with r0 := x } := rfl
theorem mp_set14 (x : Int) : (splice (mpC m).toList 14 (Value.cells (.int .u8 x)).toList).toArray = mpC { m with r1 := x } := rfl
theorem mp_set15 (x : Int) : (splice (mpC m).toList 15 (Value.cells (.int .u8 x)).toList).toArray = mpC { m with r2 := x } := rfl
theorem mp_set16 (x : Int) : (splice (mpC m).toList 16 (Value.cells (.int .u8 x)).toList).toArray = mpC { m with r3 := x } := rfl
theorem mp_set17 (x : Int) : (splice (mpC m).toList 17 (Value.cells (.int .u8 x)).toList).toArray = mpC { m with r4 := x } := rfl
theorem mp_set18 (x : Int) : (splice (mpC m).toList 18 (Value.cells (.int .u8 x)).toList).toArray = mpC { m with r5 := x } := rfl
theorem mp_set19 (x : Int) : (splice (mpC m).toList 19 (Value.cells (.int .u8 x)).toList).toArray = mpC { m with r6 := x } := rfl
theorem mp_set20 (x : Int) : (splice (mpC m).toList 20 (Value.cells (.int .u8 x)).toList).toArray = mpC { m with r7 := x } := rfl
theorem mp_set21 (x : Int) : (splice (mpC m).toList 21 (Value.cells (.int .u8 x)).toList).toArray = mpC { m with lt := x } := rfl
theorem mp_set22 (x : Int) : (splice (mpC m).toList 22 (Value.cells (.int .u8 x)).toList).toArray = mpC { m with cn := x } := rfl
theorem mp_set23 (x : Bool) : (splice (mpC m).toList 23 (Value.cells (.bool x)).toList).toArray = mpC { m with rl := x } := rfl
theorem mp_set24 (x : Bool) : (splice (mpC m).toList 24 (Value.cells (.bool x)).toList).toArray = mpC { m with en := x } := rfl
theorem mp_set25 (x : Bool) : (splice (mpC m).toList 25 (Value.cells (.bool x)).toList).toArray = mpC { m with iq := x } := rfl
theorem mp_set26 (x : Int) : (splice (mpC m).toList 26 (Value.cells (.int .i64 x)).toList).toArray = mpC { m with lo := x } := rfl
theorem mp_all (m' : Mp) : (splice (mpC m).toList 0 (Value.cells (.agg (mpC m'))).toList).toArray = mpC m' := rfl
end
end Go.Proofs.Ytodmhmkbiafahaa
