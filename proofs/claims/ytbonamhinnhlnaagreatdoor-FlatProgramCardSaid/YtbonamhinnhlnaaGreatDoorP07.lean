/-
  Several texts in one: what is read and written by the functions on the way to the statements. Conditions stand in each theorem.
-/
import Derived.Test.YtbonamhinnhlnaaGreatDoorP02
import Derived.Test.YtbonamhinnhlnaaGreatDoorP06
import Derived.Test.YtbonamhinnhlnaaGreatDoorP01
import Derived.Test.YtbonamhinnhlnaaGreatDoorRows
import Derived.Lib.LaidU8
import Derived.LaidMore
import Derived.HandedShaped
import Derived.OpenShut
import Derived.FnData
import Derived.MakeChecks
import Derived.Laws.Strings
namespace Go.Proofs.YtbonamhinnhlnaaGreatDoor
set_option linter.unusedVariables false

/-- A processor. -/
structure Cp where
  av : Int
  ab : Bool
  xv : Int
  xb : Bool
  yv : Int
  yb : Bool
  sv : Int
  sb : Bool
  p : Int
  ps : Int
  pc : Int
  pcs : Bool
  op : Int
  t : Int
  ad : Int
  ads : Bool
  dv : Int
  db : Bool
  cr : Bool
  intr : Int
  nmi : Bool
  got : Bool
  pend : Int
  ctl : Bool
  jam : Bool
/-- A processor at work. -/
structure Wk extends Cp where
  nm : ByteArray
  md : Int
  us : Int
  cy : Int
  xr : Bool
  gd : Bool
  v : Int
  vb : Bool
  nx : Int
def cpC (c : Cp) : Array Value := #[.int .u8 c.av, .bool c.ab, .int .u8 c.xv, .bool c.xb, .int .u8 c.yv, .bool c.yb, .int .u8 c.sv, .bool c.sb, .int .u8 c.p, .int .u8 c.ps, .int .u16 c.pc, .bool c.pcs, .int .u8 c.op, .int .i64 c.t, .int .u16 c.ad, .bool c.ads, .int .u8 c.dv, .bool c.db, .bool c.cr, .int .i64 c.intr, .bool c.nmi, .bool c.got, .int .i64 c.pend, .bool c.ctl, .bool c.jam]
def wkC (s : Wk) : Array Value := #[.int .u8 s.av, .bool s.ab, .int .u8 s.xv, .bool s.xb, .int .u8 s.yv, .bool s.yb, .int .u8 s.sv, .bool s.sb, .int .u8 s.p, .int .u8 s.ps, .int .u16 s.pc, .bool s.pcs, .int .u8 s.op, .int .i64 s.t, .int .u16 s.ad, .bool s.ads, .int .u8 s.dv, .bool s.db, .bool s.cr, .int .i64 s.intr, .bool s.nmi, .bool s.got, .int .i64 s.pend, .bool s.ctl, .bool s.jam, .string s.nm, .int .i64 s.md, .int .i64 s.us, .int .i64 s.cy, .bool s.xr, .bool s.gd, .int .u8 s.v, .bool s.vb, .int .i64 s.nx]
/-- What is asked for. -/
structure Bs where
  ad : Int
  wr : Bool
  v : Int
  vb : Bool
  sc : Bool
def bsC (b : Bs) : Array Value := #[.int .u16 b.ad, .bool b.wr, .int .u8 b.v, .bool b.vb, .bool b.sc]
def atPC (s : Wk) : Bs := ⟨s.pc, false, 0, false, s.pcs⟩
def atAddr (s : Wk) : Bs := ⟨s.ad, false, 0, false, s.ads⟩
def atStack (s : Wk) : Bs := ⟨s.sv + 256 * 1, false, 0, false, s.sb⟩
def vecV (i : Int) : Int := if i = 2 then 65530 else if i = 3 then 65532 else 65534
def atVec (s : Wk) : Bs := ⟨vecV s.intr, false, 0, false, false⟩
def atVec1 (s : Wk) : Bs := ⟨(vecV s.intr + 1) % 65536, false, 0, false, false⟩
def atEnd (_ : Wk) : Bs := ⟨65535, false, 0, false, false⟩
def pushB (s : Wk) (v : Int) (b : Bool) : Bs := if s.md = 17 ∧ s.intr = 3 then atStack s else ⟨s.sv + 256 * 1, true, v, b, s.sb⟩
def putB (s : Wk) (v : Int) (b : Bool) : Bs := ⟨s.ad, true, v, b, s.ads⟩

/-! ### what is done with what was read -/
abbrev S3 (a b c : UInt8) : ByteArray := ⟨#[a, b, c]⟩
def loadA (s : Wk) (v : Int) (b : Bool) : Wk := { s with av := v, ab := b, p := nzP s.p v, ps := nzS s.ps b }
def loadX (s : Wk) (v : Int) (b : Bool) : Wk := { s with xv := v, xb := b, p := nzP s.p v, ps := nzS s.ps b }
def loadY (s : Wk) (v : Int) (b : Bool) : Wk := { s with yv := v, yb := b, p := nzP s.p v, ps := nzS s.ps b }
def flagW (s : Wk) (f v : Int) : Wk := { s with p := pbV s.p f (v != 0), ps := pbV s.ps f false }
def cmpW (s : Wk) (a : Int) (x : Bool) (v : Int) (b : Bool) : Wk := { s with p := lessP s.p a v, ps := lessS s.ps (x || b) }
def orV (a b : Int) : Int := bits .or .u8 a b
def xorV (a b : Int) : Int := bits .xor .u8 a b
def adcW (s : Wk) (v : Int) (b : Bool) : Wk := { s with av := adcV s.av v (cI s.p), ab := s.ab || (b || hasV s.ps 1), p := adcP s.p s.av v (cI s.p), ps := adcS s.ps (s.ab || (b || hasV s.ps 1)) }
def sbcW (s : Wk) (v : Int) (b : Bool) : Wk := { s with av := adcV s.av (255 - v) (cI s.p), ab := s.ab || (b || hasV s.ps 1), p := adcP s.p s.av (255 - v) (cI s.p), ps := adcS s.ps (s.ab || (b || hasV s.ps 1)) }
def lsrA (s : Wk) : Wk := { s with av := rightV s.av 0, p := rightP s.p s.av 0, ps := rollS s.ps s.ab false }
def ancW (s : Wk) : Wk := { s with p := pbV s.p 1 (bitV s.av 7 != 0), ps := pbV s.ps 1 s.ab }

def oraW (s : Wk) (v : Int) (b : Bool) : Wk := loadA s (orV s.av v) (s.ab || b)
def andW (s : Wk) (v : Int) (b : Bool) : Wk := loadA s (bothV s.av v) (s.ab || b)
def eorW (s : Wk) (v : Int) (b : Bool) : Wk := loadA s (xorV s.av v) (s.ab || b)
def cmpA (s : Wk) (v : Int) (b : Bool) : Wk := cmpW s s.av s.ab v b
def aslM (s : Wk) (v : Int) (b : Bool) : Wk × Int × Bool := ({ s with p := leftP s.p v 0, ps := rollS s.ps b false }, leftV v 0, b)
def lsrM (s : Wk) (v : Int) (b : Bool) : Wk × Int × Bool := ({ s with p := rightP s.p v 0, ps := rollS s.ps b false }, rightV v 0, b)
def rolM (s : Wk) (v : Int) (b : Bool) : Wk × Int × Bool := ({ s with p := leftP s.p v (cI s.p), ps := rollS s.ps b (hasV s.ps 1) }, leftV v (cI s.p), b || hasV s.ps 1)
def rorM (s : Wk) (v : Int) (b : Bool) : Wk × Int × Bool := ({ s with p := rightP s.p v (cI s.p), ps := rollS s.ps b (hasV s.ps 1) }, rightV v (cI s.p), b || hasV s.ps 1)
def incM (s : Wk) (v : Int) (b : Bool) : Wk × Int × Bool := ({ s with p := nzP s.p ((v + 1) % 256), ps := nzS s.ps b }, (v + 1) % 256, b)
def decM (s : Wk) (v : Int) (b : Bool) : Wk × Int × Bool := ({ s with p := nzP s.p ((v + 255) % 256), ps := nzS s.ps b }, (v + 255) % 256, b)
/-- What the odd stores write: with one more than the upper half of the address ahead of its crossing. -/
def putWith (s : Wk) (v : Int) (b : Bool) : Bs := if s.cr = false then ⟨s.ad, true, bothV v ((s.ad / 256 + 1) % 256), b || s.ads, s.ads⟩ else ⟨s.ad % 256 + 256 * bothV v (s.ad / 256), true, bothV v (s.ad / 256), b || s.ads, s.ads || (b || s.ads)⟩
/-! ### by names -/
def nmEq (a b : ByteArray) : Bool := a.data.toList == b.data.toList
def byName {α : Type} (l : List (ByteArray × α)) (n : ByteArray) (d : α) : α := ((l.find? fun e => nmEq e.1 n).map (·.2)).getD d
def aloneL : List (ByteArray × (Wk → Wk)) := [(S3 84 65 88, fun s => loadX s s.av s.ab), (S3 84 65 89, fun s => loadY s s.av s.ab), (S3 84 88 65, fun s => loadA s s.xv s.xb), (S3 84 89 65, fun s => loadA s s.yv s.yb), (S3 84 83 88, fun s => loadX s s.sv s.sb), (S3 84 88 83, fun s => { s with sv := s.xv, sb := s.xb }), (S3 73 78 88, fun s => loadX s ((s.xv + 1) % 256) s.xb), (S3 73 78 89, fun s => loadY s ((s.yv + 1) % 256) s.yb), (S3 68 69 88, fun s => loadX s ((s.xv + 255) % 256) s.xb), (S3 68 69 89, fun s => loadY s ((s.yv + 255) % 256) s.yb), (S3 67 76 67, fun s => flagW s 1 0), (S3 67 76 68, fun s => flagW s 8 0), (S3 67 76 73, fun s => flagW s 4 0), (S3 67 76 86, fun s => flagW s 64 0), (S3 83 69 67, fun s => flagW s 1 1), (S3 83 69 68, fun s => flagW s 8 1), (S3 83 69 73, fun s => flagW s 4 1), (S3 78 79 80, fun s => s)]
def readsL : List (ByteArray × (Wk → Int → Bool → Wk)) := [(S3 76 68 65, fun s v b => loadA s v b), (S3 76 68 88, fun s v b => loadX s v b), (S3 76 68 89, fun s v b => loadY s v b), (S3 76 65 88, fun s v b => { loadA s v b with xv := v, xb := b }), (S3 76 65 83, fun s v b => { loadA s (bothV v s.sv) (b || s.sb) with xv := bothV v s.sv, xb := b || s.sb, sv := bothV v s.sv, sb := b || s.sb }), (S3 79 82 65, fun s v b => loadA s (orV s.av v) (s.ab || b)), (S3 65 78 68, fun s v b => loadA s (bothV s.av v) (s.ab || b)), (S3 69 79 82, fun s v b => loadA s (xorV s.av v) (s.ab || b)), (S3 65 68 67, fun s v b => adcW s v b), (S3 83 66 67, fun s v b => sbcW s v b), (S3 67 77 80, fun s v b => cmpW s s.av s.ab v b), (S3 67 80 88, fun s v b => cmpW s s.xv s.xb v b), (S3 67 80 89, fun s v b => cmpW s s.yv s.yb v b), (S3 66 73 84, fun s v b => { s with p := bitP s.p s.av v, ps := bitS s.ps s.ab b }), (S3 65 78 67, fun s v b => ancW (loadA s (bothV s.av v) (s.ab || b))), (S3 65 76 82, fun s v b => lsrA (loadA s (bothV s.av v) (s.ab || b))), (S3 65 82 82, fun s v b => { s with av := arrV s.av v (cI s.p), ab := s.ab || b || hasV s.ps 1, p := arrP s.p s.av v (cI s.p), ps := arrS s.ps (s.ab || b) (hasV s.ps 1) }), (S3 83 66 88, fun s v b => { s with xv := lessV (bothV s.av s.xv) v, xb := s.ab || s.xb || b, p := lessP s.p (bothV s.av s.xv) v, ps := lessS s.ps (s.ab || s.xb || b) }), (S3 65 78 69, fun s v b => loadA s (bothV (bothV (orV s.av 238) s.xv) v) (s.ab || s.xb || b)), (S3 76 88 65, fun s v b => { loadA s (bothV (orV s.av 238) v) (s.ab || b) with xv := bothV (orV s.av 238) v, xb := s.ab || b }), (S3 78 79 80, fun s v b => s)]
def changesL : List (ByteArray × (Wk → Int → Bool → Wk × Int × Bool)) := [(S3 65 83 76, fun s v b => aslM s v b), (S3 76 83 82, fun s v b => lsrM s v b), (S3 82 79 76, fun s v b => rolM s v b), (S3 82 79 82, fun s v b => rorM s v b), (S3 73 78 67, fun s v b => incM s v b), (S3 68 69 67, fun s v b => decM s v b), (S3 83 76 79, fun s v b => let r := aslM s v b; (oraW r.1 r.2.1 r.2.2, r.2.1, r.2.2)), (S3 82 76 65, fun s v b => let r := rolM s v b; (andW r.1 r.2.1 r.2.2, r.2.1, r.2.2)), (S3 83 82 69, fun s v b => let r := lsrM s v b; (eorW r.1 r.2.1 r.2.2, r.2.1, r.2.2)), (S3 82 82 65, fun s v b => let r := rorM s v b; (adcW r.1 r.2.1 r.2.2, r.2.1, r.2.2)), (S3 68 67 80, fun s v b => let r := decM s v b; (cmpA r.1 r.2.1 r.2.2, r.2.1, r.2.2)), (S3 73 83 67, fun s v b => let r := incM s v b; (sbcW r.1 r.2.1 r.2.2, r.2.1, r.2.2))]
def storesL : List (ByteArray × (Wk → Wk × Bs)) := [(S3 83 84 65, fun s => (s, putB s s.av s.ab)), (S3 83 84 88, fun s => (s, putB s s.xv s.xb)), (S3 83 84 89, fun s => (s, putB s s.yv s.yb)), (S3 83 65 88, fun s => (s, putB s (bothV s.av s.xv) (s.ab || s.xb))), (S3 83 72 65, fun s => (s, putWith s (bothV s.av s.xv) (s.ab || s.xb))), (S3 83 72 88, fun s => (s, putWith s s.xv s.xb)), (S3 83 72 89, fun s => (s, putWith s s.yv s.yb)), (S3 84 65 83, fun s => ({ s with sv := bothV s.av s.xv, sb := s.ab || s.xb }, putWith s (bothV s.av s.xv) (s.ab || s.xb)))]
def aloneM (s : Wk) : Wk := byName aloneL s.nm (fun s => s) s
def readM (s : Wk) (v : Int) (b : Bool) : Wk := byName readsL s.nm (fun s _ _ => s) s v b
def changeM (s : Wk) (v : Int) (b : Bool) : Wk × Int × Bool := byName changesL s.nm (fun s v b => (s, v, b)) s v b
def storeM (s : Wk) : Wk × Bs := byName storesL s.nm (fun s => (s, atAddr s)) s

/-! ### cycles -/
inductive AskI where
  | pc | addr | stack | vec | vec1 | fin | high | low | flags | one | data | stored | changed
inductive DoI where
  | begin | alone | accA | doOn | branch | aim | leave | keepOn | addrOn | keepInPage | jump | jam | rest | pushed | pulled | pullData | on | pullFlags | breakOn | keep | interrupt | pullOne | zeroOn | addX | addY | reachX | reachY | cross | keepInZero | point | pointY | stored | changed | does
deriving DecidableEq
def askM (k : AskI) (s : Wk) : Bs := match k with
  | .pc => atPC s
  | .addr => atAddr s
  | .stack => atStack s
  | .vec => atVec s
  | .vec1 => atVec1 s
  | .fin => atEnd s
  | .high => pushB s (s.pc / 256) s.pcs
  | .low => pushB s (s.pc % 256) s.pcs
  | .flags => pushB s (pushV s.p (decide (s.intr = 0))) (hasV s.ps 207)
  | .one => if nmEq s.nm (S3 80 72 80) then pushB s (pushV s.p true) (hasV s.ps 207) else pushB s s.av s.ab
  | .data => putB s s.dv s.db
  | .stored => (storeM s).2
  | .changed => putB s (changeM s s.dv s.db).2.1 (changeM s s.dv s.db).2.2
def onW (s : Wk) : Wk := { s with pc := (s.pc + 1) % 65536 }
def keepW (s : Wk) : Wk := { s with dv := s.v, db := s.vb }
def jumpW (s : Wk) : Wk := { s with pc := s.dv + 256 * s.v, pcs := s.db || s.vb }
def pushedW (s : Wk) : Wk := { s with sv := (s.sv - 1) % 256 }
def pulledW (s : Wk) : Wk := { s with sv := (s.sv + 1) % 256 }
def addW (s : Wk) (v : Int) (b : Bool) : Wk := { s with ad := (s.ad + v) % 256, ads := s.ads || b }
def reachW (s : Wk) (v : Int) (b : Bool) : Wk := { s with cr := decide ((s.dv + v) % 256 < v), ad := (s.dv + v) % 256 + 256 * s.v, ads := s.db || b || s.vb }
def begunW (s : Wk) : Wk := { s with ad := 0, ads := false, dv := 0, db := false, cr := false }
def beginW (s : Wk) : Wk := if s.intr = 0 then { begunW s with op := s.v, pc := (s.pc + 1) % 65536, ctl := s.ctl || s.vb } else { begunW s with op := 0 }
/-- The flag that a branch asks, and what it is to be. -/
def brF (n : ByteArray) : Int := if nmEq n (S3 66 80 76) || nmEq n (S3 66 77 73) then 128 else if nmEq n (S3 66 86 67) || nmEq n (S3 66 86 83) then 64 else if nmEq n (S3 66 67 67) || nmEq n (S3 66 67 83) then 1 else 2
def brW (n : ByteArray) : Int := if nmEq n (S3 66 77 73) || nmEq n (S3 66 86 83) || nmEq n (S3 66 67 83) || nmEq n (S3 66 69 81) then 1 else 0
def branchW (s : Wk) : Wk :=
  let r : Wk := { onW (keepW s) with ctl := s.ctl || hasV s.ps (brF s.nm) }
  if oneI (hasV s.p (brF s.nm)) = brW s.nm then { r with pcs := s.pcs || s.vb } else { r with nx := 0 }
def aimT (s : Wk) : Int := (s.pc + (if s.dv < 128 then s.dv else s.dv + 65280)) % 65536
def aimW (s : Wk) : Wk :=
  let r : Wk := { s with ctl := s.ctl || s.db, pcs := s.pcs || s.db }
  if aimT s / 256 = s.pc / 256 then { r with pc := aimT s, nx := 0 } else { r with ad := aimT s, ads := s.pcs || s.db, pc := s.pc / 256 * 256 + aimT s % 256 }
def crossW (s : Wk) : Wk := if s.cr then { s with ad := (s.ad + 256) % 65536 } else if s.us = 1 then { readM s s.v s.vb with nx := 0 } else s
def doM (k : DoI) (s : Wk) : Wk := match k with
  | .begin => beginW s
  | .alone => aloneM s
  | .accA => let r := changeM s s.av s.ab; { r.1 with av := r.2.1, ab := r.2.2 }
  | .doOn => onW (readM s s.v s.vb)
  | .branch => branchW s
  | .aim => aimW s
  | .leave => { s with pc := s.ad, pcs := s.pcs || s.ads }
  | .keepOn => onW (keepW s)
  | .addrOn => { s with ad := s.dv + 256 * s.v, ads := s.db || s.vb, pc := (s.pc + 1) % 65536 }
  | .keepInPage => { keepW s with ad := s.ad / 256 * 256 + (s.ad + 1) % 256 }
  | .jump => jumpW s
  | .jam => { s with jam := true, nx := s.t }
  | .rest => s
  | .pushed => pushedW s
  | .pulled => pulledW s
  | .pullData => pulledW (keepW s)
  | .on => onW s
  | .pullFlags => pulledW { s with p := clr s.v, ps := pullS s.vb }
  | .breakOn => if s.intr = 0 then onW s else s
  | .keep => keepW s
  | .interrupt => flagW (jumpW s) 4 1
  | .pullOne => if nmEq s.nm (S3 80 76 80) then { s with p := clr s.v, ps := pullS s.vb } else loadA s s.v s.vb
  | .zeroOn => { s with ad := s.v + 256 * 0, ads := s.vb, pc := (s.pc + 1) % 65536 }
  | .addX => addW s s.xv s.xb
  | .addY => addW s s.yv s.yb
  | .reachX => onW (reachW s s.xv s.xb)
  | .reachY => onW (reachW s s.yv s.yb)
  | .cross => crossW s
  | .keepInZero => { keepW s with ad := (s.ad + 1) % 256 }
  | .point => { s with ad := s.dv + 256 * s.v, ads := s.db || s.vb || s.ads }
  | .pointY => { reachW s s.yv s.yb with ads := s.db || s.yb || s.vb || s.ads }
  | .stored => (storeM s).1
  | .changed => (changeM s s.dv s.db).1
  | .does => readM s s.v s.vb
/-- An instruction's cycles behind the first one, by its mode and its use. -/
def aheadL (md : Int) : List (AskI × DoI) :=
  if md = 4 then [(.pc, .zeroOn), (.addr, .addX)]
  else if md = 5 then [(.pc, .zeroOn), (.addr, .addY)]
  else if md = 6 then [(.pc, .keepOn), (.pc, .addrOn)]
  else if md = 7 then [(.pc, .keepOn), (.pc, .reachX), (.addr, .cross)]
  else if md = 8 then [(.pc, .keepOn), (.pc, .reachY), (.addr, .cross)]
  else if md = 9 then [(.pc, .zeroOn), (.addr, .addX), (.addr, .keepInZero), (.addr, .point)]
  else if md = 10 then [(.pc, .zeroOn), (.addr, .keepInZero), (.addr, .pointY), (.addr, .cross)]
  else [(.pc, .zeroOn)]
def worksL (us : Int) : List (AskI × DoI) :=
  if us = 2 then [(.stored, .stored)]
  else if us = 3 then [(.addr, .keep), (.data, .rest), (.changed, .changed)]
  else [(.addr, .does)]
def stackL (md : Int) : List (AskI × DoI) :=
  if md = 14 then [(.pc, .keepOn), (.stack, .rest), (.high, .pushed), (.low, .pushed), (.pc, .jump)]
  else if md = 15 then [(.pc, .rest), (.stack, .pulled), (.stack, .pullData), (.stack, .jump), (.pc, .on)]
  else if md = 16 then [(.pc, .rest), (.stack, .pulled), (.stack, .pullFlags), (.stack, .pullData), (.stack, .jump)]
  else if md = 17 then [(.pc, .breakOn), (.high, .pushed), (.low, .pushed), (.flags, .pushed), (.vec, .keep), (.vec1, .interrupt)]
  else if md = 18 then [(.pc, .rest), (.one, .pushed)]
  else [(.pc, .rest), (.stack, .pulled), (.stack, .pullOne)]
def stepsL (md us : Int) : List (AskI × DoI) :=
  if md = 0 then [(.pc, .alone)]
  else if md = 1 then [(.pc, .accA)]
  else if md = 2 then [(.pc, .doOn)]
  else if md = 11 then [(.pc, .branch), (.pc, .aim), (.pc, .leave)]
  else if md = 12 then [(.pc, .keepOn), (.pc, .addrOn), (.addr, .keepInPage), (.addr, .jump)]
  else if md = 13 then [(.pc, .keepOn), (.pc, .jump)]
  else if 14 ≤ md ∧ md ≤ 19 then stackL md
  else if md = 20 then [(.fin, .jam)]
  else aheadL md ++ worksL us
def emptyW (c : Cp) (v : Int) (b : Bool) : Wk := { c with nm := ⟨#[]⟩, md := 0, us := 0, cy := 0, xr := false, gd := false, v := v, vb := b, nx := 0 }
def opW (s : Wk) (op : Int) : Wk := { s with nm := nameV op, md := modeV op, us := useV op, cy := cycV (modeV op) (useV op), xr := crossV (modeV op) (useV op), gd := goodV op }
/-- Whose turn it is. -/
def turnW (s : Wk) : Wk := if s.t = 0 then { s with nx := 1 } else { opW s s.op with nx := if s.t = ((stepsL (modeV s.op) (useV s.op)).length : Int) then 0 else s.t + 1 }
def turnS (s : Wk) : AskI × DoI := if s.t = 0 then (.pc, .begin) else (stepsL (modeV s.op) (useV s.op)).getD (s.t - 1).toNat (.pc, .rest)
def endW (s : Wk) : Wk := if s.nx ≠ 0 then { s with t := s.nx } else if s.md = 17 then { s with t := 0, intr := 0 } else { s with t := 0, intr := s.pend, got := s.got && !decide (s.pend = 2) }
def gotB (s : Cp) (n : Bool) : Bool := s.got || (n && !s.nmi)
def hearW (s : Wk) (i n r : Bool) : Wk :=
  let q : Wk := { s with got := gotB s.toCp n, nmi := n, ctl := s.ctl || hasV s.ps 4, pend := if gotB s.toCp n then 2 else if i && !hasV s.p 4 then 1 else 0 }
  if r then { q with t := 0, intr := 3, jam := false } else q
def askedM (c : Cp) : Bs := let s := emptyW c 0 false; askM (turnS s).1 (turnW s)
def workM (c : Cp) (v : Int) (b : Bool) : Wk :=
  let s := turnW (emptyW c v b)
  let a := askM (turnS (emptyW c v b)).1 s
  doM (turnS (emptyW c v b)).2 { s with ctl := s.ctl || a.sc }
def takeM (c : Cp) (v : Int) (b : Bool) (i n r : Bool) : Cp := (hearW (endW (workM c v b)) i n r).toCp
def mostV (op : Int) : Int := if modeV op = 20 then 2 else if modeV op = 11 then cycV (modeV op) (useV op) + 2 else if crossV (modeV op) (useV op) then cycV (modeV op) (useV op) + 1 else cycV (modeV op) (useV op)
/-- May it be? -/
def okB (c : Cp) : Bool := decide (0 ≤ c.t) && decide (c.t < mostV c.op) && decide (0 ≤ c.intr) && decide (c.intr ≤ 3) && decide (0 ≤ c.pend) && decide (c.pend ≤ 2) && decide (clr c.p = c.p) && decide (clr c.ps = c.ps)
end Go.Proofs.YtbonamhinnhlnaaGreatDoor
namespace Go.Proofs.YtbonamhinnhlnaaGreatDoor
open Go.RowKit Go.Sort
section
variable {P : Program} {ops : Array Oper} {rest : List Oper} {o : Oper} {a : Act} {w w0 : World} {Q : Exit → Act → World → Prop} {n : Nat} {L : List (Nat × Array Value)}
/-- These cells stand there. -/
def Cells (w : World) (b off : Nat) (sub : Array Value) : Prop := ∀ j v, sub[j]? = some v → w.cell? ⟨b, off + j, none⟩ = some v
theorem Cells.below {b off : Nat} {sub : Array Value} (h : Cells w0 b off sub) (hb : b < w0.heap.size) (B : Below w0.heap.size w0 w) : Cells w b off sub := fun j v hj => (B.cell (p := ⟨b, off + j, none⟩) hb).trans (h j v hj)
end
end Go.Proofs.YtbonamhinnhlnaaGreatDoor
namespace Go.Proofs.YtbonamhinnhlnaaGreatDoor
open Go.ChangeShapes Go.WideShapes Go.ChangeAt Go.RowKit Go.Deep

section
variable {H : Type} {enc : TypeId × Value → H} {w : World} {base : Nat} {spare : Nat → Bool} {held : Bool}
end
/-- What is read, and the lines, one cycle after another. -/
structure Ka where
  v : Int
  b : Bool
  i : Bool
  n : Bool
  r : Bool
def ka0 : Ka := ⟨0, false, false, false, false⟩
def kaN (l : List Ka) (k : Nat) : Ka := l.getD k ka0
def Ra (w : World) (v : Value) (l : List Ka) : Prop :=
  ∃ a cap, v = .slice a l.length cap ∧ l.length ≤ cap ∧ cap ≤ maxLen ∧ (l = [] ∨ ∃ b off, a = some ⟨b, off, none⟩ ∧ b < w.heap.size ∧
    ∀ k, k < l.length → w.cell? ⟨b, off + k * 30 + 25, none⟩ = some (.int .u8 (kaN l k).v) ∧ w.cell? ⟨b, off + k * 30 + 25 + 1, none⟩ = some (.bool (kaN l k).b) ∧ w.cell? ⟨b, off + k * 30 + 27, none⟩ = some (.bool (kaN l k).i) ∧ w.cell? ⟨b, off + k * 30 + 27 + 1, none⟩ = some (.bool (kaN l k).n) ∧ w.cell? ⟨b, off + k * 30 + 27 + 2, none⟩ = some (.bool (kaN l k).r))
theorem Ra.below {w w' : World} {v : Value} {l : List Ka} (h : Ra w v l) (hb : Below w.heap.size w w') : Ra w' v l := by
  obtain ⟨a, cap, e, h1, h2, h3⟩ := h
  refine ⟨a, cap, e, h1, h2, h3.imp id ?_⟩
  rintro ⟨b, off, ea, hl, hc⟩
  refine ⟨b, off, ea, Nat.lt_of_lt_of_le hl hb.size, fun k hk => ?_⟩
  obtain ⟨g1, g2, g3, g4, g5⟩ := hc k hk
  exact ⟨(hb.cell hl).trans g1, (hb.cell hl).trans g2, (hb.cell hl).trans g3, (hb.cell hl).trans g4, (hb.cell hl).trans g5⟩
theorem Ra.row {w : World} {v : Value} {l : List Ka} (h : Ra w v l) (k : Nat) (hk : k < l.length) : ∃ b off cap, v = .slice (some ⟨b, off, none⟩) l.length cap ∧ l.length ≤ cap ∧ cap ≤ maxLen ∧ b < w.heap.size ∧ (∀ k, k < l.length → Cells w b (off + k * 30 + 25) #[.int .u8 (kaN l k).v, .bool (kaN l k).b] ∧ Cells w b (off + k * 30 + 27) #[.bool (kaN l k).i, .bool (kaN l k).n, .bool (kaN l k).r]) := by
  obtain ⟨a, cap, e, h1, h2, h3⟩ := h
  rcases h3 with h3 | ⟨b, off, ea, hl, hc⟩
  · rw [h3] at hk; simp at hk
  · subst ea
    refine ⟨b, off, cap, e, h1, h2, hl, fun k hk => ?_⟩
    obtain ⟨g1, g2, g3, g4, g5⟩ := hc k hk
    constructor
    · intro j v hj
      match j, hj with
      | 0, hj => simp at hj; subst hj; exact g1
      | 1, hj => simp at hj; subst hj; exact g2
      | j + 2, hj => simp at hj
    · intro j v hj
      match j, hj with
      | 0, hj => simp at hj; subst hj; exact g3
      | 1, hj => simp at hj; subst hj; exact g4
      | 2, hj => simp at hj; subst hj; exact g5
      | j + 3, hj => simp at hj
section
variable {H : Type} {enc : TypeId × Value → H} {w : World} {base : Nat} {spare : Nat → Bool} {held : Bool}
end
end Go.Proofs.YtbonamhinnhlnaaGreatDoor
namespace Go.Proofs.YtbonamhinnhlnaaGreatDoor
open Go Go.RowKit Go.WideShapes Go.ChangeShapes

theorem wrap_both {H : Type} {enc : TypeId × Value → H} {a : Assume} {C : Checked} {os : Os} {f : FuncId} {fn : Func} {s : ChangeSpec} {conds : List PathCond} {apart fresh handsOn again : Bool} {X : World → Array Value → Prop}
    (hX : ∀ (w w' : World) (args : Array Value), w.heap = w'.heap → X w args → X w' args)
    (own : ownKnob C.prog.godebug = none) (started : os.Started) (noInit : C.prog.inits.idxOf? f = none) (hfn : C.prog.funcs[f]? = some fn)
    (witness : ∃ (w : World) (tape : Tape) (i : Input), w.os = os ∧ (w.forCall tape i).Shaped C.prog ∧ i.vars = [] ∧ Input.okWide C.prog (w.forCall tape i) .any w.heap.size f i ∧
      ((s.pre enc C.prog fn conds apart (w.forCall tape i).memory i.args ∧ X (w.forCall tape i).memory i.args) ∧ sizedMet enc C.prog fn (OpenSpec.ofChange s) apart (w.forCall tape i).memory i.args) ∧ a.holds C.prog (lone (Frame.enter C.prog f i.args .normal) [] (w.forCall tape i)))
    (contract : ∀ (W : World) (base : Nat) (args : Array Value) (ds gs : List (DataW H)) (before : List MemPlace),
      (∀ (j : Nat) t v, fn.params[j]? = some t → args[j]? = some v → Value.okWide C.prog W .any base t v) →
      DataW.Whole enc C.prog fn.params.toList s.vars apart W args.toList ds gs before →
      X W args → W.ShapedOpen C.prog →
      Calls C.prog f args W fun e W' => ∃ v, e = .returned v ∧ s.post enc C.prog fn apart fresh handsOn again W args v W') :
    ReturnsInHanded a C os f .any (fun w args => (s.pre enc C.prog fn conds apart w args ∧ X w args) ∧ sizedMet enc C.prog fn (OpenSpec.ofChange s) apart w args) (s.post enc C.prog fn apart fresh handsOn again) := by
  refine returnsInHanded_of_calls own started noInit witness fun w tape i _ shape _ hok hpre _ => ?_
  obtain ⟨_, _, _, fn', hfn', _, _, _, _, hval⟩ := hok
  obtain rfl : fn' = fn := Option.some.inj (hfn'.symm.trans hfn)
  obtain ⟨⟨⟨ds, gs, before, hw, _⟩, hx⟩, _⟩ := hpre
  refine (contract (w.forCall tape i) w.heap.size i.args ds gs before hval (DataW.Whole.of_heap (w' := w.forCall tape i) (by rfl) hw) (hX _ _ _ (by rfl) hx) shape).mono fun e W' ⟨v, he, hp⟩ => ?_
  subst he
  exact ChangeSpec.post_blind hp
end Go.Proofs.YtbonamhinnhlnaaGreatDoor
namespace Go.Proofs.YtbonamhinnhlnaaGreatDoor
open Go.RowKit
set_option linter.unusedSimpArgs false
set_option linter.unusedVariables false
set_option maxRecDepth 20000

def cutL (l : List UInt8) (i : Nat) : List UInt8 := (l.drop i).take 3
theorem cut3_list (s : ByteArray) (i : Nat) : (cut3 s i).toList = cutL s.data.toList i := by
  unfold cut3 cutL
  rw [ByteArray.toList_eq, ByteArray.data_extract, Array.toList_extract]
  simp [List.extract]
def isInLK (l s : List UInt8) : Nat → Bool
  | 0 => false
  | k + 1 => isInLK l s k || cutL l (4 * k) == s
def isInL (l s : List UInt8) : Bool := isInLK l s (l.length / 4)
theorem isIn_list (l s : ByteArray) : isIn l s = isInL l.data.toList s.toList := by
  have h : ∀ k, isInK l s k = isInLK l.data.toList s.toList k := by
    intro k
    induction k with
    | zero => rfl
    | succ k ih => rw [isInK, isInLK, ih, cut3_list]
  unfold isIn isInL
  rw [h]
  congr 1
def zeroL (a b : Int) : List UInt8 := if b = 0 then cutL [66, 82, 75, 32, 74, 83, 82, 32, 82, 84, 73, 32, 82, 84, 83, 32, 78, 79, 80, 32, 76, 68, 89, 32, 67, 80, 89, 32, 67, 80, 88, 32] (4 * a.toNat) else if b = 2 then cutL [80, 72, 80, 32, 80, 76, 80, 32, 80, 72, 65, 32, 80, 76, 65, 32, 68, 69, 89, 32, 84, 65, 89, 32, 73, 78, 89, 32, 73, 78, 88, 32] (4 * a.toNat) else if b = 4 then cutL [66, 80, 76, 32, 66, 77, 73, 32, 66, 86, 67, 32, 66, 86, 83, 32, 66, 67, 67, 32, 66, 67, 83, 32, 66, 78, 69, 32, 66, 69, 81, 32] (4 * a.toNat) else if b = 6 then cutL [67, 76, 67, 32, 83, 69, 67, 32, 67, 76, 73, 32, 83, 69, 73, 32, 84, 89, 65, 32, 67, 76, 86, 32, 67, 76, 68, 32, 83, 69, 68, 32] (4 * a.toNat) else if b = 1 then cutL [78, 79, 80, 32, 66, 73, 84, 32, 78, 79, 80, 32, 78, 79, 80, 32, 83, 84, 89, 32, 76, 68, 89, 32, 67, 80, 89, 32, 67, 80, 88, 32] (4 * a.toNat) else if b = 3 then cutL [78, 79, 80, 32, 66, 73, 84, 32, 74, 77, 80, 32, 74, 77, 80, 32, 83, 84, 89, 32, 76, 68, 89, 32, 67, 80, 89, 32, 67, 80, 88, 32] (4 * a.toNat) else if b = 5 then cutL [78, 79, 80, 32, 78, 79, 80, 32, 78, 79, 80, 32, 78, 79, 80, 32, 83, 84, 89, 32, 76, 68, 89, 32, 78, 79, 80, 32, 78, 79, 80, 32] (4 * a.toNat) else cutL [78, 79, 80, 32, 78, 79, 80, 32, 78, 79, 80, 32, 78, 79, 80, 32, 83, 72, 89, 32, 76, 68, 89, 32, 78, 79, 80, 32, 78, 79, 80, 32] (4 * a.toNat)
theorem zeroL_eq (a b : Int) : (zeroV a b).toList = zeroL a b := by
  unfold zeroV zeroL
  repeat' split
  all_goals first | exact cut3_list _ _ | (rw [ByteArray.toList_eq])
def twoL (a b : Int) : List UInt8 := if b = 0 then cutL [74, 65, 77, 32, 74, 65, 77, 32, 74, 65, 77, 32, 74, 65, 77, 32, 78, 79, 80, 32, 76, 68, 88, 32, 78, 79, 80, 32, 78, 79, 80, 32] (4 * a.toNat) else if b = 2 then cutL [65, 83, 76, 32, 82, 79, 76, 32, 76, 83, 82, 32, 82, 79, 82, 32, 84, 88, 65, 32, 84, 65, 88, 32, 68, 69, 88, 32, 78, 79, 80, 32] (4 * a.toNat) else if b = 4 then [74, 65, 77] else if b = 6 then cutL [78, 79, 80, 32, 78, 79, 80, 32, 78, 79, 80, 32, 78, 79, 80, 32, 84, 88, 83, 32, 84, 83, 88, 32, 78, 79, 80, 32, 78, 79, 80, 32] (4 * a.toNat) else if b = 7 then cutL [65, 83, 76, 32, 82, 79, 76, 32, 76, 83, 82, 32, 82, 79, 82, 32, 83, 72, 88, 32, 76, 68, 88, 32, 68, 69, 67, 32, 73, 78, 67, 32] (4 * a.toNat) else cutL [65, 83, 76, 32, 82, 79, 76, 32, 76, 83, 82, 32, 82, 79, 82, 32, 83, 84, 88, 32, 76, 68, 88, 32, 68, 69, 67, 32, 73, 78, 67, 32] (4 * a.toNat)
theorem twoL_eq (a b : Int) : (twoV a b).toList = twoL a b := by
  unfold twoV twoL
  repeat' split
  all_goals first | exact cut3_list _ _ | (rw [ByteArray.toList_eq])
def threeL (a b : Int) : List UInt8 := if b = 2 then cutL [65, 78, 67, 32, 65, 78, 67, 32, 65, 76, 82, 32, 65, 82, 82, 32, 65, 78, 69, 32, 76, 88, 65, 32, 83, 66, 88, 32, 83, 66, 67, 32] (4 * a.toNat) else if b = 4 then cutL [83, 76, 79, 32, 82, 76, 65, 32, 83, 82, 69, 32, 82, 82, 65, 32, 83, 72, 65, 32, 76, 65, 88, 32, 68, 67, 80, 32, 73, 83, 67, 32] (4 * a.toNat) else if b = 6 then cutL [83, 76, 79, 32, 82, 76, 65, 32, 83, 82, 69, 32, 82, 82, 65, 32, 84, 65, 83, 32, 76, 65, 83, 32, 68, 67, 80, 32, 73, 83, 67, 32] (4 * a.toNat) else if b = 7 then cutL [83, 76, 79, 32, 82, 76, 65, 32, 83, 82, 69, 32, 82, 82, 65, 32, 83, 72, 65, 32, 76, 65, 88, 32, 68, 67, 80, 32, 73, 83, 67, 32] (4 * a.toNat) else cutL [83, 76, 79, 32, 82, 76, 65, 32, 83, 82, 69, 32, 82, 82, 65, 32, 83, 65, 88, 32, 76, 65, 88, 32, 68, 67, 80, 32, 73, 83, 67, 32] (4 * a.toNat)
theorem threeL_eq (a b : Int) : (threeV a b).toList = threeL a b := by
  unfold threeV threeL
  repeat' split
  all_goals first | exact cut3_list _ _ | (rw [ByteArray.toList_eq])
def restL (a b : Int) : List UInt8 := if a = 4 ∧ b = 2 then [78, 79, 80] else cutL [79, 82, 65, 32, 65, 78, 68, 32, 69, 79, 82, 32, 65, 68, 67, 32, 83, 84, 65, 32, 76, 68, 65, 32, 67, 77, 80, 32, 83, 66, 67, 32] (4 * a.toNat)
theorem restL_eq (a b : Int) : (restV a b).toList = restL a b := by
  unfold restV restL
  split
  · rw [ByteArray.toList_eq]
  · exact cut3_list _ _
def nameL (op : Int) : List UInt8 := if op % 4 = 0 then zeroL (op / 32) (op / 4 % 8) else if op % 4 = 2 then twoL (op / 32) (op / 4 % 8) else if op % 4 = 3 then threeL (op / 32) (op / 4 % 8) else restL (op / 32) (op / 4 % 8)
theorem nameV_list (op : Int) : (nameV op).toList = nameL op := by
  unfold nameV nameL
  split
  · exact zeroL_eq _ _
  · split
    · exact twoL_eq _ _
    · split
      · exact threeL_eq _ _
      · exact restL_eq _ _
def modeL (op : Int) : Int := modeW (op / 32) (op / 4 % 8) (op % 4) (nameL op == [74, 65, 77]) (isInL [83, 84, 88, 32, 76, 68, 88, 32, 83, 65, 88, 32, 76, 65, 88, 32, 83, 72, 88, 32, 83, 72, 65, 32] (nameL op)) (nameL op == [74, 77, 80])
theorem modeV_list (op : Int) : modeV op = modeL op := by
  unfold modeV modeL
  rw [isIn_list, nameV_list]
def useL (op : Int) : Int := useW (modeL op) (isInL [83, 84, 65, 32, 83, 84, 88, 32, 83, 84, 89, 32, 83, 65, 88, 32, 83, 72, 65, 32, 83, 72, 88, 32, 83, 72, 89, 32, 84, 65, 83, 32] (nameL op)) (isInL [65, 83, 76, 32, 76, 83, 82, 32, 82, 79, 76, 32, 82, 79, 82, 32, 73, 78, 67, 32, 68, 69, 67, 32, 83, 76, 79, 32, 82, 76, 65, 32, 83, 82, 69, 32, 82, 82, 65, 32, 68, 67, 80, 32, 73, 83, 67, 32] (nameL op))
theorem useV_list (op : Int) : useV op = useL op := by
  unfold useV useN useL
  rw [isIn_list, isIn_list, nameV_list, modeV_list]
def goodL (op : Int) : Bool := goodW op (isInL [65, 76, 82, 32, 65, 78, 67, 32, 65, 78, 69, 32, 65, 82, 82, 32, 68, 67, 80, 32, 73, 83, 67, 32, 74, 65, 77, 32, 76, 65, 83, 32, 76, 65, 88, 32, 76, 88, 65, 32, 82, 76, 65, 32, 82, 82, 65, 32, 83, 65, 88, 32, 83, 66, 88, 32, 83, 72, 65, 32, 83, 72, 88, 32, 83, 72, 89, 32, 83, 76, 79, 32, 83, 82, 69, 32, 84, 65, 83, 32] (nameL op)) (nameL op == [78, 79, 80])
theorem goodV_list (op : Int) : goodV op = goodL op := by
  unfold goodV goodL
  rw [isIn_list, nameV_list]
def cyL (op : Int) : Int := cycV (modeL op) (useL op)
def crL (op : Int) : Bool := crossV (modeL op) (useL op)
/-- All that the document says of an opcode. -/
theorem decC_list (op : Int) : decC op = opC (nameV op) (modeL op) (useL op) (cyL op) (crL op) (goodL op) := by
  unfold decC cyL crL
  rw [useV_list, modeV_list, goodV_list]
theorem op_uses (op : Int) (o0 : 0 ≤ op) (o1 : op < 256) : (0 ≤ useL op ∧ useL op ≤ 3 ∧ 0 ≤ modeL op ∧ modeL op ≤ 20 ∧ (nameL op).length = 3) ∧ ((useL op = 2 ∨ useL op = 3) → 3 ≤ modeL op ∧ modeL op ≤ 10) ∧ (useL op = 0 ↔ ¬ ((3 ≤ modeL op ∧ modeL op ≤ 10) ∨ modeL op = 2)) ∧ (crL op = true → useL op = 1 ∨ modeL op = 11) :=
  byte_all (p := fun op => (0 ≤ useL op ∧ useL op ≤ 3 ∧ 0 ≤ modeL op ∧ modeL op ≤ 20 ∧ (nameL op).length = 3) ∧ ((useL op = 2 ∨ useL op = 3) → 3 ≤ modeL op ∧ modeL op ≤ 10) ∧ (useL op = 0 ↔ ¬ ((3 ≤ modeL op ∧ modeL op ≤ 10) ∨ modeL op = 2)) ∧ (crL op = true → useL op = 1 ∨ modeL op = 11)) (by decide +kernel) op o0 o1
end Go.Proofs.YtbonamhinnhlnaaGreatDoor
namespace Go.Proofs.YtbonamhinnhlnaaGreatDoor
open Go.RowKit Go.Sort
section
variable {P : Program} {ops : Array Oper} {rest : List Oper} {o : Oper} {a : Act} {w : World} {Q : Exit → Act → World → Prop}
theorem run_loadVar_known (w : World) (ad : Addr) (ty : TypeId) (v : Value) (hu' : (P.underlying ty).map aggB = some false) (hc : w.cell? ad = some v) :
    (loadVar ty ad).run P w = .ok v w := by
  obtain ⟨d, hu, hd⟩ : ∃ d, P.underlying ty = some d ∧ aggB d = false := by simpa using hu'
  have hagg : (isAgg ty).run P w = .ok false w := by
    unfold isAgg
    rw [Sem.run_bind, run_underlying hu w]
    cases d <;> simp_all [aggB]
  simp [loadVar, Sem.run_bind, hagg, hc]
theorem quiet_gload {K : Act → Prop} (ty : TypeId) (x : Operand) (ho : o.op = .load ty x) (ad : Addr) (hx : a.eval x = .pointer (some ad)) (v : Value) (hc : w.cell? ad = some v)
    (hu : (P.underlying ty).map aggB = some false) (h : K (a.put o.dst v)) : o.quiet P a (fun w' => ∃ p : Regrown, w' = Go.Sort.grow (redrawn w p.d) p.os) K :=
  ⟨v, fun w' hw' => by
    obtain ⟨p, rfl⟩ := hw'
    have hc' := ((below_regrown w p.d p.os).cell (World.block_lt_of_cell? w _ hc)).trans hc
    unfold Oper.quietAt execOp
    simp only [ho, hx, Instr.loadAt, Instr.sureAddr, Sem.run_bind, Sem.run_pure, Result.andThen_ok, run_loadVar_known _ ad ty v hu hc']
    exact ⟨rfl, rfl⟩, h⟩
end
end Go.Proofs.YtbonamhinnhlnaaGreatDoor
namespace Go.Proofs.YtbonamhinnhlnaaGreatDoor
open Go.RowKit
set_option linter.unusedSimpArgs false
set_option linter.unusedVariables false
set_option maxRecDepth 20000

def tblL : List UInt8 := ((((([66, 82, 75, 32, 32, 32, 32, 32, 79, 82, 65, 32, 105, 122, 120, 32, 74, 65, 77, 32, 32, 32, 32, 32, 83, 76, 79, 32, 105, 122, 120, 32, 78, 79, 80, 32, 122, 112, 32, 32, 79, 82, 65, 32, 122, 112, 32, 32, 65, 83, 76, 32, 122, 112, 32, 32, 83, 76, 79, 32, 122, 112, 32, 32].append [80, 72, 80, 32, 32, 32, 32, 32, 79, 82, 65, 32, 105, 109, 109, 32, 65, 83, 76, 32, 97, 99, 99, 32, 65, 78, 67, 32, 105, 109, 109, 32, 78, 79, 80, 32, 97, 98, 115, 32, 79, 82, 65, 32, 97, 98, 115, 32, 65, 83, 76, 32, 97, 98, 115, 32, 83, 76, 79, 32, 97, 98, 115, 32]).append ([66, 80, 76, 32, 114, 101, 108, 32, 79, 82, 65, 32, 105, 122, 121, 32, 74, 65, 77, 32, 32, 32, 32, 32, 83, 76, 79, 32, 105, 122, 121, 32, 78, 79, 80, 32, 122, 112, 120, 32, 79, 82, 65, 32, 122, 112, 120, 32, 65, 83, 76, 32, 122, 112, 120, 32, 83, 76, 79, 32, 122, 112, 120, 32].append [67, 76, 67, 32, 32, 32, 32, 32, 79, 82, 65, 32, 97, 98, 121, 32, 78, 79, 80, 32, 32, 32, 32, 32, 83, 76, 79, 32, 97, 98, 121, 32, 78, 79, 80, 32, 97, 98, 120, 32, 79, 82, 65, 32, 97, 98, 120, 32, 65, 83, 76, 32, 97, 98, 120, 32, 83, 76, 79, 32, 97, 98, 120, 32])).append (([74, 83, 82, 32, 32, 32, 32, 32, 65, 78, 68, 32, 105, 122, 120, 32, 74, 65, 77, 32, 32, 32, 32, 32, 82, 76, 65, 32, 105, 122, 120, 32, 66, 73, 84, 32, 122, 112, 32, 32, 65, 78, 68, 32, 122, 112, 32, 32, 82, 79, 76, 32, 122, 112, 32, 32, 82, 76, 65, 32, 122, 112, 32, 32].append [80, 76, 80, 32, 32, 32, 32, 32, 65, 78, 68, 32, 105, 109, 109, 32, 82, 79, 76, 32, 97, 99, 99, 32, 65, 78, 67, 32, 105, 109, 109, 32, 66, 73, 84, 32, 97, 98, 115, 32, 65, 78, 68, 32, 97, 98, 115, 32, 82, 79, 76, 32, 97, 98, 115, 32, 82, 76, 65, 32, 97, 98, 115, 32]).append ([66, 77, 73, 32, 114, 101, 108, 32, 65, 78, 68, 32, 105, 122, 121, 32, 74, 65, 77, 32, 32, 32, 32, 32, 82, 76, 65, 32, 105, 122, 121, 32, 78, 79, 80, 32, 122, 112, 120, 32, 65, 78, 68, 32, 122, 112, 120, 32, 82, 79, 76, 32, 122, 112, 120, 32, 82, 76, 65, 32, 122, 112, 120, 32].append [83, 69, 67, 32, 32, 32, 32, 32, 65, 78, 68, 32, 97, 98, 121, 32, 78, 79, 80, 32, 32, 32, 32, 32, 82, 76, 65, 32, 97, 98, 121, 32, 78, 79, 80, 32, 97, 98, 120, 32, 65, 78, 68, 32, 97, 98, 120, 32, 82, 79, 76, 32, 97, 98, 120, 32, 82, 76, 65, 32, 97, 98, 120, 32]))).append ((([82, 84, 73, 32, 32, 32, 32, 32, 69, 79, 82, 32, 105, 122, 120, 32, 74, 65, 77, 32, 32, 32, 32, 32, 83, 82, 69, 32, 105, 122, 120, 32, 78, 79, 80, 32, 122, 112, 32, 32, 69, 79, 82, 32, 122, 112, 32, 32, 76, 83, 82, 32, 122, 112, 32, 32, 83, 82, 69, 32, 122, 112, 32, 32].append [80, 72, 65, 32, 32, 32, 32, 32, 69, 79, 82, 32, 105, 109, 109, 32, 76, 83, 82, 32, 97, 99, 99, 32, 65, 76, 82, 32, 105, 109, 109, 32, 74, 77, 80, 32, 97, 98, 115, 32, 69, 79, 82, 32, 97, 98, 115, 32, 76, 83, 82, 32, 97, 98, 115, 32, 83, 82, 69, 32, 97, 98, 115, 32]).append ([66, 86, 67, 32, 114, 101, 108, 32, 69, 79, 82, 32, 105, 122, 121, 32, 74, 65, 77, 32, 32, 32, 32, 32, 83, 82, 69, 32, 105, 122, 121, 32, 78, 79, 80, 32, 122, 112, 120, 32, 69, 79, 82, 32, 122, 112, 120, 32, 76, 83, 82, 32, 122, 112, 120, 32, 83, 82, 69, 32, 122, 112, 120, 32].append [67, 76, 73, 32, 32, 32, 32, 32, 69, 79, 82, 32, 97, 98, 121, 32, 78, 79, 80, 32, 32, 32, 32, 32, 83, 82, 69, 32, 97, 98, 121, 32, 78, 79, 80, 32, 97, 98, 120, 32, 69, 79, 82, 32, 97, 98, 120, 32, 76, 83, 82, 32, 97, 98, 120, 32, 83, 82, 69, 32, 97, 98, 120, 32])).append (([82, 84, 83, 32, 32, 32, 32, 32, 65, 68, 67, 32, 105, 122, 120, 32, 74, 65, 77, 32, 32, 32, 32, 32, 82, 82, 65, 32, 105, 122, 120, 32, 78, 79, 80, 32, 122, 112, 32, 32, 65, 68, 67, 32, 122, 112, 32, 32, 82, 79, 82, 32, 122, 112, 32, 32, 82, 82, 65, 32, 122, 112, 32, 32].append [80, 76, 65, 32, 32, 32, 32, 32, 65, 68, 67, 32, 105, 109, 109, 32, 82, 79, 82, 32, 97, 99, 99, 32, 65, 82, 82, 32, 105, 109, 109, 32, 74, 77, 80, 32, 105, 110, 100, 32, 65, 68, 67, 32, 97, 98, 115, 32, 82, 79, 82, 32, 97, 98, 115, 32, 82, 82, 65, 32, 97, 98, 115, 32]).append ([66, 86, 83, 32, 114, 101, 108, 32, 65, 68, 67, 32, 105, 122, 121, 32, 74, 65, 77, 32, 32, 32, 32, 32, 82, 82, 65, 32, 105, 122, 121, 32, 78, 79, 80, 32, 122, 112, 120, 32, 65, 68, 67, 32, 122, 112, 120, 32, 82, 79, 82, 32, 122, 112, 120, 32, 82, 82, 65, 32, 122, 112, 120, 32].append [83, 69, 73, 32, 32, 32, 32, 32, 65, 68, 67, 32, 97, 98, 121, 32, 78, 79, 80, 32, 32, 32, 32, 32, 82, 82, 65, 32, 97, 98, 121, 32, 78, 79, 80, 32, 97, 98, 120, 32, 65, 68, 67, 32, 97, 98, 120, 32, 82, 79, 82, 32, 97, 98, 120, 32, 82, 82, 65, 32, 97, 98, 120, 32])))).append (((([78, 79, 80, 32, 105, 109, 109, 32, 83, 84, 65, 32, 105, 122, 120, 32, 78, 79, 80, 32, 105, 109, 109, 32, 83, 65, 88, 32, 105, 122, 120, 32, 83, 84, 89, 32, 122, 112, 32, 32, 83, 84, 65, 32, 122, 112, 32, 32, 83, 84, 88, 32, 122, 112, 32, 32, 83, 65, 88, 32, 122, 112, 32, 32].append [68, 69, 89, 32, 32, 32, 32, 32, 78, 79, 80, 32, 105, 109, 109, 32, 84, 88, 65, 32, 32, 32, 32, 32, 65, 78, 69, 32, 105, 109, 109, 32, 83, 84, 89, 32, 97, 98, 115, 32, 83, 84, 65, 32, 97, 98, 115, 32, 83, 84, 88, 32, 97, 98, 115, 32, 83, 65, 88, 32, 97, 98, 115, 32]).append ([66, 67, 67, 32, 114, 101, 108, 32, 83, 84, 65, 32, 105, 122, 121, 32, 74, 65, 77, 32, 32, 32, 32, 32, 83, 72, 65, 32, 105, 122, 121, 32, 83, 84, 89, 32, 122, 112, 120, 32, 83, 84, 65, 32, 122, 112, 120, 32, 83, 84, 88, 32, 122, 112, 121, 32, 83, 65, 88, 32, 122, 112, 121, 32].append [84, 89, 65, 32, 32, 32, 32, 32, 83, 84, 65, 32, 97, 98, 121, 32, 84, 88, 83, 32, 32, 32, 32, 32, 84, 65, 83, 32, 97, 98, 121, 32, 83, 72, 89, 32, 97, 98, 120, 32, 83, 84, 65, 32, 97, 98, 120, 32, 83, 72, 88, 32, 97, 98, 121, 32, 83, 72, 65, 32, 97, 98, 121, 32])).append (([76, 68, 89, 32, 105, 109, 109, 32, 76, 68, 65, 32, 105, 122, 120, 32, 76, 68, 88, 32, 105, 109, 109, 32, 76, 65, 88, 32, 105, 122, 120, 32, 76, 68, 89, 32, 122, 112, 32, 32, 76, 68, 65, 32, 122, 112, 32, 32, 76, 68, 88, 32, 122, 112, 32, 32, 76, 65, 88, 32, 122, 112, 32, 32].append [84, 65, 89, 32, 32, 32, 32, 32, 76, 68, 65, 32, 105, 109, 109, 32, 84, 65, 88, 32, 32, 32, 32, 32, 76, 88, 65, 32, 105, 109, 109, 32, 76, 68, 89, 32, 97, 98, 115, 32, 76, 68, 65, 32, 97, 98, 115, 32, 76, 68, 88, 32, 97, 98, 115, 32, 76, 65, 88, 32, 97, 98, 115, 32]).append ([66, 67, 83, 32, 114, 101, 108, 32, 76, 68, 65, 32, 105, 122, 121, 32, 74, 65, 77, 32, 32, 32, 32, 32, 76, 65, 88, 32, 105, 122, 121, 32, 76, 68, 89, 32, 122, 112, 120, 32, 76, 68, 65, 32, 122, 112, 120, 32, 76, 68, 88, 32, 122, 112, 121, 32, 76, 65, 88, 32, 122, 112, 121, 32].append [67, 76, 86, 32, 32, 32, 32, 32, 76, 68, 65, 32, 97, 98, 121, 32, 84, 83, 88, 32, 32, 32, 32, 32, 76, 65, 83, 32, 97, 98, 121, 32, 76, 68, 89, 32, 97, 98, 120, 32, 76, 68, 65, 32, 97, 98, 120, 32, 76, 68, 88, 32, 97, 98, 121, 32, 76, 65, 88, 32, 97, 98, 121, 32]))).append ((([67, 80, 89, 32, 105, 109, 109, 32, 67, 77, 80, 32, 105, 122, 120, 32, 78, 79, 80, 32, 105, 109, 109, 32, 68, 67, 80, 32, 105, 122, 120, 32, 67, 80, 89, 32, 122, 112, 32, 32, 67, 77, 80, 32, 122, 112, 32, 32, 68, 69, 67, 32, 122, 112, 32, 32, 68, 67, 80, 32, 122, 112, 32, 32].append [73, 78, 89, 32, 32, 32, 32, 32, 67, 77, 80, 32, 105, 109, 109, 32, 68, 69, 88, 32, 32, 32, 32, 32, 83, 66, 88, 32, 105, 109, 109, 32, 67, 80, 89, 32, 97, 98, 115, 32, 67, 77, 80, 32, 97, 98, 115, 32, 68, 69, 67, 32, 97, 98, 115, 32, 68, 67, 80, 32, 97, 98, 115, 32]).append ([66, 78, 69, 32, 114, 101, 108, 32, 67, 77, 80, 32, 105, 122, 121, 32, 74, 65, 77, 32, 32, 32, 32, 32, 68, 67, 80, 32, 105, 122, 121, 32, 78, 79, 80, 32, 122, 112, 120, 32, 67, 77, 80, 32, 122, 112, 120, 32, 68, 69, 67, 32, 122, 112, 120, 32, 68, 67, 80, 32, 122, 112, 120, 32].append [67, 76, 68, 32, 32, 32, 32, 32, 67, 77, 80, 32, 97, 98, 121, 32, 78, 79, 80, 32, 32, 32, 32, 32, 68, 67, 80, 32, 97, 98, 121, 32, 78, 79, 80, 32, 97, 98, 120, 32, 67, 77, 80, 32, 97, 98, 120, 32, 68, 69, 67, 32, 97, 98, 120, 32, 68, 67, 80, 32, 97, 98, 120, 32])).append (([67, 80, 88, 32, 105, 109, 109, 32, 83, 66, 67, 32, 105, 122, 120, 32, 78, 79, 80, 32, 105, 109, 109, 32, 73, 83, 67, 32, 105, 122, 120, 32, 67, 80, 88, 32, 122, 112, 32, 32, 83, 66, 67, 32, 122, 112, 32, 32, 73, 78, 67, 32, 122, 112, 32, 32, 73, 83, 67, 32, 122, 112, 32, 32].append [73, 78, 88, 32, 32, 32, 32, 32, 83, 66, 67, 32, 105, 109, 109, 32, 78, 79, 80, 32, 32, 32, 32, 32, 83, 66, 67, 32, 105, 109, 109, 32, 67, 80, 88, 32, 97, 98, 115, 32, 83, 66, 67, 32, 97, 98, 115, 32, 73, 78, 67, 32, 97, 98, 115, 32, 73, 83, 67, 32, 97, 98, 115, 32]).append ([66, 69, 81, 32, 114, 101, 108, 32, 83, 66, 67, 32, 105, 122, 121, 32, 74, 65, 77, 32, 32, 32, 32, 32, 73, 83, 67, 32, 105, 122, 121, 32, 78, 79, 80, 32, 122, 112, 120, 32, 83, 66, 67, 32, 122, 112, 120, 32, 73, 78, 67, 32, 122, 112, 120, 32, 73, 83, 67, 32, 122, 112, 120, 32].append [83, 69, 68, 32, 32, 32, 32, 32, 83, 66, 67, 32, 97, 98, 121, 32, 78, 79, 80, 32, 32, 32, 32, 32, 73, 83, 67, 32, 97, 98, 121, 32, 78, 79, 80, 32, 97, 98, 120, 32, 83, 66, 67, 32, 97, 98, 120, 32, 73, 78, 67, 32, 97, 98, 120, 32, 73, 83, 67, 32, 97, 98, 120, 32])))))
def tblB : ByteArray := ⟨tblL.toArray⟩
theorem tbl_size : tblB.size = 2048 := by decide +kernel
set_option maxHeartbeats 4000000 in
theorem qentry_ct (op : Int) (w : World) (o0 : 0 ≤ op) (o1 : op < 256) :
    Calls Tryz.prog 77 #[.int .u8 op] w fun e w' => e = .returned (.tuple #[.string (cut3 tblB (8 * op.toNat)), .string (cut3 tblB (8 * op.toNat + 4))]) ∧ Below w.heap.size w w' := by
  obtain ⟨n, rfl⟩ := Int.eq_ofNat_of_zero_le o0
  obtain ⟨L, hL⟩ : ∃ L, L = tblB := ⟨_, rfl⟩
  have hs : L.size = 2048 := by rw [hL]; exact tbl_size
  rw [← hL]
  unfold tblB tblL at hL
  go_enter Tryz.func77, Tryz.ntmps77
  rw [← hL]
  clear hL
  unfold cut3
  go_wp2_with fail
  go_region
  go_wp2
  go_ret2
  exact ⟨by rw [show 8 * ((n : Nat) : Int).toNat = n * 8 from by omega]; simp, Below.drew (Below.refl _ _)⟩
end Go.Proofs.YtbonamhinnhlnaaGreatDoor
namespace Go.Proofs.YtbonamhinnhlnaaGreatDoor
open Go.RowKit
set_option linter.unusedSimpArgs false
set_option linter.unusedVariables false
set_option maxRecDepth 20000

def aloneQ (nm : List UInt8) : Int := if (nm == [74, 83, 82]) = true then (14 : Int) else if (nm == [82, 84, 83]) = true then (15 : Int) else if (nm == [82, 84, 73]) = true then (16 : Int) else if (nm == [66, 82, 75]) = true then (17 : Int) else if (nm == [80, 72, 80]) = true then (18 : Int) else if (nm == [80, 72, 65]) = true then (18 : Int) else if (nm == [80, 76, 80]) = true then (19 : Int) else if (nm == [80, 76, 65]) = true then (19 : Int) else if (nm == [74, 65, 77]) = true then (20 : Int) else 0
set_option maxHeartbeats 8000000 in
theorem qmodealone_ct (nm : ByteArray) (w : World) :
    Calls Tryz.prog 96 #[.string nm] w fun e w' => e = .returned (.int .i64 (aloneQ nm.toList)) ∧ Below w.heap.size w w' := by
  unfold aloneQ
  cases h0 : (nm.toList == [74, 83, 82])
  rotate_left
  · simp only [Bool.false_eq_true, if_true, if_false, reduceIte]
    go_enter Tryz.func96, Tryz.ntmps96
    go_wp2
    go_ret
    exact ⟨rfl, Below.refl _ _⟩
  cases h1 : (nm.toList == [82, 84, 83])
  rotate_left
  · simp only [Bool.false_eq_true, if_true, if_false, reduceIte]
    go_enter Tryz.func96, Tryz.ntmps96
    go_wp2
    go_ret
    exact ⟨rfl, Below.refl _ _⟩
  cases h2 : (nm.toList == [82, 84, 73])
  rotate_left
  · simp only [Bool.false_eq_true, if_true, if_false, reduceIte]
    go_enter Tryz.func96, Tryz.ntmps96
    go_wp2
    go_ret
    exact ⟨rfl, Below.refl _ _⟩
  cases h3 : (nm.toList == [66, 82, 75])
  rotate_left
  · simp only [Bool.false_eq_true, if_true, if_false, reduceIte]
    go_enter Tryz.func96, Tryz.ntmps96
    go_wp2
    go_ret
    exact ⟨rfl, Below.refl _ _⟩
  cases h4 : (nm.toList == [80, 72, 80])
  rotate_left
  · simp only [Bool.false_eq_true, if_true, if_false, reduceIte]
    go_enter Tryz.func96, Tryz.ntmps96
    go_wp2
    go_ret
    exact ⟨rfl, Below.refl _ _⟩
  cases h5 : (nm.toList == [80, 72, 65])
  rotate_left
  · simp only [Bool.false_eq_true, if_true, if_false, reduceIte]
    go_enter Tryz.func96, Tryz.ntmps96
    go_wp2
    go_ret
    exact ⟨rfl, Below.refl _ _⟩
  cases h6 : (nm.toList == [80, 76, 80])
  rotate_left
  · simp only [Bool.false_eq_true, if_true, if_false, reduceIte]
    go_enter Tryz.func96, Tryz.ntmps96
    go_wp2
    go_ret
    exact ⟨rfl, Below.refl _ _⟩
  cases h7 : (nm.toList == [80, 76, 65])
  rotate_left
  · simp only [Bool.false_eq_true, if_true, if_false, reduceIte]
    go_enter Tryz.func96, Tryz.ntmps96
    go_wp2
    go_ret
    exact ⟨rfl, Below.refl _ _⟩
  cases h8 : (nm.toList == [74, 65, 77])
  rotate_left
  · simp only [Bool.false_eq_true, if_true, if_false, reduceIte]
    go_enter Tryz.func96, Tryz.ntmps96
    go_wp2
    go_ret
    exact ⟨rfl, Below.refl _ _⟩
  simp only [Bool.false_eq_true, if_true, if_false, reduceIte]
  go_enter Tryz.func96, Tryz.ntmps96
  go_wp2
  go_ret
  exact ⟨rfl, Below.refl _ _⟩
def modeQ (nm wy : List UInt8) : Int := if (wy == [97, 99, 99]) = true then 1 else if (wy == [105, 109, 109]) = true then 2 else if (wy == [122, 112, 32]) = true then 3 else if (wy == [122, 112, 120]) = true then 4 else if (wy == [122, 112, 121]) = true then 5 else if (wy == [97, 98, 115]) = true then (if (nm == [74, 77, 80]) = true then 13 else 6) else if (wy == [97, 98, 120]) = true then 7 else if (wy == [97, 98, 121]) = true then 8 else if (wy == [105, 122, 120]) = true then 9 else if (wy == [105, 122, 121]) = true then 10 else if (wy == [114, 101, 108]) = true then 11 else if (wy == [105, 110, 100]) = true then 12 else aloneQ nm
set_option maxHeartbeats 8000000 in
theorem qmodeof_ct (nm wy : ByteArray) (w : World) :
    Calls Tryz.prog 78 #[.string nm, .string wy] w fun e w' => e = .returned (.int .i64 (modeQ nm.toList wy.toList)) ∧ Below w.heap.size w w' := by
  have QA := Lib.hid (fun wr => qmodealone_ct nm wr)
  unfold modeQ
  generalize aloneQ nm.toList = al at *
  cases h0 : (wy.toList == [97, 99, 99])
  rotate_left
  · simp only [Bool.false_eq_true, if_true, if_false, reduceIte]
    go_enter Tryz.func78, Tryz.ntmps78
    go_wp2
    go_ret
    exact ⟨rfl, Below.refl _ _⟩
  cases h1 : (wy.toList == [105, 109, 109])
  rotate_left
  · simp only [Bool.false_eq_true, if_true, if_false, reduceIte]
    go_enter Tryz.func78, Tryz.ntmps78
    go_wp2
    go_ret
    exact ⟨rfl, Below.refl _ _⟩
  cases h2 : (wy.toList == [122, 112, 32])
  rotate_left
  · simp only [Bool.false_eq_true, if_true, if_false, reduceIte]
    go_enter Tryz.func78, Tryz.ntmps78
    go_wp2
    go_ret
    exact ⟨rfl, Below.refl _ _⟩
  cases h3 : (wy.toList == [122, 112, 120])
  rotate_left
  · simp only [Bool.false_eq_true, if_true, if_false, reduceIte]
    go_enter Tryz.func78, Tryz.ntmps78
    go_wp2
    go_ret
    exact ⟨rfl, Below.refl _ _⟩
  cases h4 : (wy.toList == [122, 112, 121])
  rotate_left
  · simp only [Bool.false_eq_true, if_true, if_false, reduceIte]
    go_enter Tryz.func78, Tryz.ntmps78
    go_wp2
    go_ret
    exact ⟨rfl, Below.refl _ _⟩
  cases h5 : (wy.toList == [97, 98, 115])
  rotate_left
  · simp only [Bool.false_eq_true, if_true, if_false, reduceIte]
    cases hj : (nm.toList == [74, 77, 80])
    all_goals
      simp only [Bool.false_eq_true, if_true, if_false, reduceIte]
      go_enter Tryz.func78, Tryz.ntmps78
      go_wp2
      go_ret
      exact ⟨rfl, Below.refl _ _⟩
  cases h6 : (wy.toList == [97, 98, 120])
  rotate_left
  · simp only [Bool.false_eq_true, if_true, if_false, reduceIte]
    go_enter Tryz.func78, Tryz.ntmps78
    go_wp2
    go_ret
    exact ⟨rfl, Below.refl _ _⟩
  cases h7 : (wy.toList == [97, 98, 121])
  rotate_left
  · simp only [Bool.false_eq_true, if_true, if_false, reduceIte]
    go_enter Tryz.func78, Tryz.ntmps78
    go_wp2
    go_ret
    exact ⟨rfl, Below.refl _ _⟩
  cases h8 : (wy.toList == [105, 122, 120])
  rotate_left
  · simp only [Bool.false_eq_true, if_true, if_false, reduceIte]
    go_enter Tryz.func78, Tryz.ntmps78
    go_wp2
    go_ret
    exact ⟨rfl, Below.refl _ _⟩
  cases h9 : (wy.toList == [105, 122, 121])
  rotate_left
  · simp only [Bool.false_eq_true, if_true, if_false, reduceIte]
    go_enter Tryz.func78, Tryz.ntmps78
    go_wp2
    go_ret
    exact ⟨rfl, Below.refl _ _⟩
  cases h10 : (wy.toList == [114, 101, 108])
  rotate_left
  · simp only [Bool.false_eq_true, if_true, if_false, reduceIte]
    go_enter Tryz.func78, Tryz.ntmps78
    go_wp2
    go_ret
    exact ⟨rfl, Below.refl _ _⟩
  cases h11 : (wy.toList == [105, 110, 100])
  rotate_left
  · simp only [Bool.false_eq_true, if_true, if_false, reduceIte]
    go_enter Tryz.func78, Tryz.ntmps78
    go_wp2
    go_ret
    exact ⟨rfl, Below.refl _ _⟩
  simp only [Bool.false_eq_true, if_true, if_false, reduceIte]
  go_enter Tryz.func78, Tryz.ntmps78
  go_wp2_with (first | (go_at_call 96; (with_reducible refine (QA.out _).mono ?_); rintro e w2 ⟨rfl, hB⟩) | fail)
  go_ret
  exact ⟨rfl, hB⟩
end Go.Proofs.YtbonamhinnhlnaaGreatDoor
namespace Go.Proofs.YtbonamhinnhlnaaGreatDoor
open Go.RowKit
set_option linter.unusedSimpArgs false
set_option linter.unusedVariables false
set_option maxRecDepth 20000

def usedQ (nm : List UInt8) : Int := if (nm == [83, 84, 65]) = true then 2 else if (nm == [83, 84, 88]) = true then 2 else if (nm == [83, 84, 89]) = true then 2 else if (nm == [83, 65, 88]) = true then 2 else if (nm == [83, 72, 65]) = true then 2 else if (nm == [83, 72, 88]) = true then 2 else if (nm == [83, 72, 89]) = true then 2 else if (nm == [84, 65, 83]) = true then 2 else if (nm == [65, 83, 76]) = true then 3 else if (nm == [76, 83, 82]) = true then 3 else if (nm == [82, 79, 76]) = true then 3 else if (nm == [82, 79, 82]) = true then 3 else if (nm == [73, 78, 67]) = true then 3 else if (nm == [68, 69, 67]) = true then 3 else if (nm == [83, 76, 79]) = true then 3 else if (nm == [82, 76, 65]) = true then 3 else if (nm == [83, 82, 69]) = true then 3 else if (nm == [82, 82, 65]) = true then 3 else if (nm == [68, 67, 80]) = true then 3 else if (nm == [73, 83, 67]) = true then 3 else 1
def useQ (nm : List UInt8) (m : Int) : Int := if m = 2 then 1 else if m < 3 ∨ 10 < m then 0 else usedQ nm
set_option maxHeartbeats 16000000 in
theorem quseof_ct (nm : ByteArray) (m : Int) (w : World) :
    Calls Tryz.prog 79 #[.string nm, .int .i64 m] w fun e w' => e = .returned (.int .i64 (useQ nm.toList m)) ∧ Below w.heap.size w w' := by
  have hm : m = 2 ∨ m < 2 ∨ 10 < m ∨ (3 ≤ m ∧ m ≤ 10) := by omega
  unfold useQ
  rcases hm with rfl | hm | hm | ⟨hm, hn⟩
  · rw [if_pos rfl]
    go_enter Tryz.func79, Tryz.ntmps79
    go_wp2
    go_ret
    exact ⟨rfl, Below.refl _ _⟩
  · rw [if_neg (by omega), if_pos (by omega)]
    have e1 : (m == 2) = false := by simp; omega
    have e2 : decide (m < 3) = true := decide_eq_true (by omega)
    go_enter Tryz.func79, Tryz.ntmps79
    go_wp2
    go_ret
    exact ⟨rfl, Below.refl _ _⟩
  · rw [if_neg (by omega), if_pos (by omega)]
    have e1 : (m == 2) = false := by simp; omega
    have e2 : decide (m < 3) = false := decide_eq_false (by omega)
    have e3 : decide (10 < m) = true := decide_eq_true (by omega)
    go_enter Tryz.func79, Tryz.ntmps79
    go_wp2
    go_ret
    exact ⟨rfl, Below.refl _ _⟩
  rw [if_neg (by omega), if_neg (by omega)]
  have e1 : (m == 2) = false := by simp; omega
  have e2 : decide (m < 3) = false := decide_eq_false (by omega)
  have e3 : decide (10 < m) = false := decide_eq_false (by omega)
  unfold usedQ
  cases h0 : (nm.toList == [83, 84, 65])
  rotate_left
  · simp only [Bool.false_eq_true, if_true, if_false, reduceIte]
    go_enter Tryz.func79, Tryz.ntmps79
    go_wp2
    go_ret
    exact ⟨rfl, Below.refl _ _⟩
  cases h1 : (nm.toList == [83, 84, 88])
  rotate_left
  · simp only [Bool.false_eq_true, if_true, if_false, reduceIte]
    go_enter Tryz.func79, Tryz.ntmps79
    go_wp2
    go_ret
    exact ⟨rfl, Below.refl _ _⟩
  cases h2 : (nm.toList == [83, 84, 89])
  rotate_left
  · simp only [Bool.false_eq_true, if_true, if_false, reduceIte]
    go_enter Tryz.func79, Tryz.ntmps79
    go_wp2
    go_ret
    exact ⟨rfl, Below.refl _ _⟩
  cases h3 : (nm.toList == [83, 65, 88])
  rotate_left
  · simp only [Bool.false_eq_true, if_true, if_false, reduceIte]
    go_enter Tryz.func79, Tryz.ntmps79
    go_wp2
    go_ret
    exact ⟨rfl, Below.refl _ _⟩
  cases h4 : (nm.toList == [83, 72, 65])
  rotate_left
  · simp only [Bool.false_eq_true, if_true, if_false, reduceIte]
    go_enter Tryz.func79, Tryz.ntmps79
    go_wp2
    go_ret
    exact ⟨rfl, Below.refl _ _⟩
  cases h5 : (nm.toList == [83, 72, 88])
  rotate_left
  · simp only [Bool.false_eq_true, if_true, if_false, reduceIte]
    go_enter Tryz.func79, Tryz.ntmps79
    go_wp2
    go_ret
    exact ⟨rfl, Below.refl _ _⟩
  cases h6 : (nm.toList == [83, 72, 89])
  rotate_left
  · simp only [Bool.false_eq_true, if_true, if_false, reduceIte]
    go_enter Tryz.func79, Tryz.ntmps79
    go_wp2
    go_ret
    exact ⟨rfl, Below.refl _ _⟩
  cases h7 : (nm.toList == [84, 65, 83])
  rotate_left
  · simp only [Bool.false_eq_true, if_true, if_false, reduceIte]
    go_enter Tryz.func79, Tryz.ntmps79
    go_wp2
    go_ret
    exact ⟨rfl, Below.refl _ _⟩
  cases h8 : (nm.toList == [65, 83, 76])
  rotate_left
  · simp only [Bool.false_eq_true, if_true, if_false, reduceIte]
    go_enter Tryz.func79, Tryz.ntmps79
    go_wp2
    go_ret
    exact ⟨rfl, Below.refl _ _⟩
  cases h9 : (nm.toList == [76, 83, 82])
  rotate_left
  · simp only [Bool.false_eq_true, if_true, if_false, reduceIte]
    go_enter Tryz.func79, Tryz.ntmps79
    go_wp2
    go_ret
    exact ⟨rfl, Below.refl _ _⟩
  cases h10 : (nm.toList == [82, 79, 76])
  rotate_left
  · simp only [Bool.false_eq_true, if_true, if_false, reduceIte]
    go_enter Tryz.func79, Tryz.ntmps79
    go_wp2
    go_ret
    exact ⟨rfl, Below.refl _ _⟩
  cases h11 : (nm.toList == [82, 79, 82])
  rotate_left
  · simp only [Bool.false_eq_true, if_true, if_false, reduceIte]
    go_enter Tryz.func79, Tryz.ntmps79
    go_wp2
    go_ret
    exact ⟨rfl, Below.refl _ _⟩
  cases h12 : (nm.toList == [73, 78, 67])
  rotate_left
  · simp only [Bool.false_eq_true, if_true, if_false, reduceIte]
    go_enter Tryz.func79, Tryz.ntmps79
    go_wp2
    go_ret
    exact ⟨rfl, Below.refl _ _⟩
  cases h13 : (nm.toList == [68, 69, 67])
  rotate_left
  · simp only [Bool.false_eq_true, if_true, if_false, reduceIte]
    go_enter Tryz.func79, Tryz.ntmps79
    go_wp2
    go_ret
    exact ⟨rfl, Below.refl _ _⟩
  cases h14 : (nm.toList == [83, 76, 79])
  rotate_left
  · simp only [Bool.false_eq_true, if_true, if_false, reduceIte]
    go_enter Tryz.func79, Tryz.ntmps79
    go_wp2
    go_ret
    exact ⟨rfl, Below.refl _ _⟩
  cases h15 : (nm.toList == [82, 76, 65])
  rotate_left
  · simp only [Bool.false_eq_true, if_true, if_false, reduceIte]
    go_enter Tryz.func79, Tryz.ntmps79
    go_wp2
    go_ret
    exact ⟨rfl, Below.refl _ _⟩
  cases h16 : (nm.toList == [83, 82, 69])
  rotate_left
  · simp only [Bool.false_eq_true, if_true, if_false, reduceIte]
    go_enter Tryz.func79, Tryz.ntmps79
    go_wp2
    go_ret
    exact ⟨rfl, Below.refl _ _⟩
  cases h17 : (nm.toList == [82, 82, 65])
  rotate_left
  · simp only [Bool.false_eq_true, if_true, if_false, reduceIte]
    go_enter Tryz.func79, Tryz.ntmps79
    go_wp2
    go_ret
    exact ⟨rfl, Below.refl _ _⟩
  cases h18 : (nm.toList == [68, 67, 80])
  rotate_left
  · simp only [Bool.false_eq_true, if_true, if_false, reduceIte]
    go_enter Tryz.func79, Tryz.ntmps79
    go_wp2
    go_ret
    exact ⟨rfl, Below.refl _ _⟩
  cases h19 : (nm.toList == [73, 83, 67])
  rotate_left
  · simp only [Bool.false_eq_true, if_true, if_false, reduceIte]
    go_enter Tryz.func79, Tryz.ntmps79
    go_wp2
    go_ret
    exact ⟨rfl, Below.refl _ _⟩
  simp only [Bool.false_eq_true, if_true, if_false, reduceIte]
  go_enter Tryz.func79, Tryz.ntmps79
  go_wp2
  go_ret
  exact ⟨rfl, Below.refl _ _⟩
end Go.Proofs.YtbonamhinnhlnaaGreatDoor
namespace Go.Proofs.YtbonamhinnhlnaaGreatDoor
open Go.RowKit
set_option linter.unusedSimpArgs false
set_option linter.unusedVariables false
set_option maxRecDepth 20000

def goodQ (op : Int) (nm : List UInt8) : Bool := if (nm == [78, 79, 80]) = true then (op == 234) else if (nm == [83, 66, 67]) = true then (op != 235) else if (nm == [65, 76, 82]) = true then false else if (nm == [65, 78, 67]) = true then false else if (nm == [65, 78, 69]) = true then false else if (nm == [65, 82, 82]) = true then false else if (nm == [68, 67, 80]) = true then false else if (nm == [73, 83, 67]) = true then false else if (nm == [74, 65, 77]) = true then false else if (nm == [76, 65, 83]) = true then false else if (nm == [76, 65, 88]) = true then false else if (nm == [76, 88, 65]) = true then false else if (nm == [82, 76, 65]) = true then false else if (nm == [82, 82, 65]) = true then false else if (nm == [83, 65, 88]) = true then false else if (nm == [83, 66, 88]) = true then false else if (nm == [83, 72, 65]) = true then false else if (nm == [83, 72, 88]) = true then false else if (nm == [83, 72, 89]) = true then false else if (nm == [83, 76, 79]) = true then false else if (nm == [83, 82, 69]) = true then false else if (nm == [84, 65, 83]) = true then false else true
set_option maxHeartbeats 8000000 in
theorem qofficial_ct (op : Int) (nm : ByteArray) (w : World) :
    Calls Tryz.prog 81 #[.int .u8 op, .string nm] w fun e w' => e = .returned (.bool (goodQ op nm.toList)) ∧ Below w.heap.size w w' := by
  unfold goodQ
  cases h0 : (nm.toList == [78, 79, 80])
  rotate_left
  · simp only [Bool.false_eq_true, if_true, if_false, reduceIte]
    go_enter Tryz.func81, Tryz.ntmps81
    go_wp2
    go_ret
    exact ⟨rfl, Below.refl _ _⟩
  cases h1 : (nm.toList == [83, 66, 67])
  rotate_left
  · simp only [Bool.false_eq_true, if_true, if_false, reduceIte]
    go_enter Tryz.func81, Tryz.ntmps81
    go_wp2
    go_ret
    exact ⟨rfl, Below.refl _ _⟩
  cases h2 : (nm.toList == [65, 76, 82])
  rotate_left
  · simp only [Bool.false_eq_true, if_true, if_false, reduceIte]
    go_enter Tryz.func81, Tryz.ntmps81
    go_wp2
    go_ret
    exact ⟨rfl, Below.refl _ _⟩
  cases h3 : (nm.toList == [65, 78, 67])
  rotate_left
  · simp only [Bool.false_eq_true, if_true, if_false, reduceIte]
    go_enter Tryz.func81, Tryz.ntmps81
    go_wp2
    go_ret
    exact ⟨rfl, Below.refl _ _⟩
  cases h4 : (nm.toList == [65, 78, 69])
  rotate_left
  · simp only [Bool.false_eq_true, if_true, if_false, reduceIte]
    go_enter Tryz.func81, Tryz.ntmps81
    go_wp2
    go_ret
    exact ⟨rfl, Below.refl _ _⟩
  cases h5 : (nm.toList == [65, 82, 82])
  rotate_left
  · simp only [Bool.false_eq_true, if_true, if_false, reduceIte]
    go_enter Tryz.func81, Tryz.ntmps81
    go_wp2
    go_ret
    exact ⟨rfl, Below.refl _ _⟩
  cases h6 : (nm.toList == [68, 67, 80])
  rotate_left
  · simp only [Bool.false_eq_true, if_true, if_false, reduceIte]
    go_enter Tryz.func81, Tryz.ntmps81
    go_wp2
    go_ret
    exact ⟨rfl, Below.refl _ _⟩
  cases h7 : (nm.toList == [73, 83, 67])
  rotate_left
  · simp only [Bool.false_eq_true, if_true, if_false, reduceIte]
    go_enter Tryz.func81, Tryz.ntmps81
    go_wp2
    go_ret
    exact ⟨rfl, Below.refl _ _⟩
  cases h8 : (nm.toList == [74, 65, 77])
  rotate_left
  · simp only [Bool.false_eq_true, if_true, if_false, reduceIte]
    go_enter Tryz.func81, Tryz.ntmps81
    go_wp2
    go_ret
    exact ⟨rfl, Below.refl _ _⟩
  cases h9 : (nm.toList == [76, 65, 83])
  rotate_left
  · simp only [Bool.false_eq_true, if_true, if_false, reduceIte]
    go_enter Tryz.func81, Tryz.ntmps81
    go_wp2
    go_ret
    exact ⟨rfl, Below.refl _ _⟩
  cases h10 : (nm.toList == [76, 65, 88])
  rotate_left
  · simp only [Bool.false_eq_true, if_true, if_false, reduceIte]
    go_enter Tryz.func81, Tryz.ntmps81
    go_wp2
    go_ret
    exact ⟨rfl, Below.refl _ _⟩
  cases h11 : (nm.toList == [76, 88, 65])
  rotate_left
  · simp only [Bool.false_eq_true, if_true, if_false, reduceIte]
    go_enter Tryz.func81, Tryz.ntmps81
    go_wp2
    go_ret
    exact ⟨rfl, Below.refl _ _⟩
  cases h12 : (nm.toList == [82, 76, 65])
  rotate_left
  · simp only [Bool.false_eq_true, if_true, if_false, reduceIte]
    go_enter Tryz.func81, Tryz.ntmps81
    go_wp2
    go_ret
    exact ⟨rfl, Below.refl _ _⟩
  cases h13 : (nm.toList == [82, 82, 65])
  rotate_left
  · simp only [Bool.false_eq_true, if_true, if_false, reduceIte]
    go_enter Tryz.func81, Tryz.ntmps81
    go_wp2
    go_ret
    exact ⟨rfl, Below.refl _ _⟩
  cases h14 : (nm.toList == [83, 65, 88])
  rotate_left
  · simp only [Bool.false_eq_true, if_true, if_false, reduceIte]
    go_enter Tryz.func81, Tryz.ntmps81
    go_wp2
    go_ret
    exact ⟨rfl, Below.refl _ _⟩
  cases h15 : (nm.toList == [83, 66, 88])
  rotate_left
  · simp only [Bool.false_eq_true, if_true, if_false, reduceIte]
    go_enter Tryz.func81, Tryz.ntmps81
    go_wp2
    go_ret
    exact ⟨rfl, Below.refl _ _⟩
  cases h16 : (nm.toList == [83, 72, 65])
  rotate_left
  · simp only [Bool.false_eq_true, if_true, if_false, reduceIte]
    go_enter Tryz.func81, Tryz.ntmps81
    go_wp2
    go_ret
    exact ⟨rfl, Below.refl _ _⟩
  cases h17 : (nm.toList == [83, 72, 88])
  rotate_left
  · simp only [Bool.false_eq_true, if_true, if_false, reduceIte]
    go_enter Tryz.func81, Tryz.ntmps81
    go_wp2
    go_ret
    exact ⟨rfl, Below.refl _ _⟩
  cases h18 : (nm.toList == [83, 72, 89])
  rotate_left
  · simp only [Bool.false_eq_true, if_true, if_false, reduceIte]
    go_enter Tryz.func81, Tryz.ntmps81
    go_wp2
    go_ret
    exact ⟨rfl, Below.refl _ _⟩
  cases h19 : (nm.toList == [83, 76, 79])
  rotate_left
  · simp only [Bool.false_eq_true, if_true, if_false, reduceIte]
    go_enter Tryz.func81, Tryz.ntmps81
    go_wp2
    go_ret
    exact ⟨rfl, Below.refl _ _⟩
  cases h20 : (nm.toList == [83, 82, 69])
  rotate_left
  · simp only [Bool.false_eq_true, if_true, if_false, reduceIte]
    go_enter Tryz.func81, Tryz.ntmps81
    go_wp2
    go_ret
    exact ⟨rfl, Below.refl _ _⟩
  cases h21 : (nm.toList == [84, 65, 83])
  rotate_left
  · simp only [Bool.false_eq_true, if_true, if_false, reduceIte]
    go_enter Tryz.func81, Tryz.ntmps81
    go_wp2
    go_ret
    exact ⟨rfl, Below.refl _ _⟩
  simp only [Bool.false_eq_true, if_true, if_false, reduceIte]
  go_enter Tryz.func81, Tryz.ntmps81
  go_wp2
  go_ret
  exact ⟨rfl, Below.refl _ _⟩
end Go.Proofs.YtbonamhinnhlnaaGreatDoor
