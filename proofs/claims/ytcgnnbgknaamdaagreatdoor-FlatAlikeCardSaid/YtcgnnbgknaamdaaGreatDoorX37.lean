/-
  Several texts in one: what is read and written by the functions on the way to the statements. Conditions stand in each theorem.
-/
import Derived.Test.YtcgnnbgknaamdaaGreatDoorX07
import Derived.Test.YtcgnnbgknaamdaaGreatDoorX36
namespace Go.Proofs.YtcgnnbgknaamdaaGreatDoor
set_option linter.unusedSimpArgs false
set_option linter.unusedVariables false

/-- Two that are alike at work. -/
structure AW (z : Bool) (s r : Wk) : Prop where
  ab : s.ab = r.ab
  a : s.ab = false → s.av = r.av
  xb : s.xb = r.xb
  x : s.xb = false → s.xv = r.xv
  yb : s.yb = r.yb
  y : s.yb = false → s.yv = r.yv
  sb : s.sb = r.sb
  sx : s.sb = false → s.sv = r.sv
  db : s.db = r.db
  d : s.db = false → s.dv = r.dv
  ps : s.ps = r.ps
  fa : FA s.p r.p s.ps
  pcs : s.pcs = r.pcs
  pc : s.pcs = false → s.pc = r.pc
  ads : s.ads = r.ads
  ad : s.ads = false → s.ad = r.ad
  cr : s.ads = false → s.cr = r.cr
  cr2 : z = false → s.cr = r.cr
  op : s.op = r.op
  t : s.t = r.t
  intr : s.intr = r.intr
  nmi : s.nmi = r.nmi
  got : s.got = r.got
  pend : s.pend = r.pend
  ctl : s.ctl = r.ctl
  jam : s.jam = r.jam
  nm : s.nm = r.nm
  md : s.md = r.md
  us : s.us = r.us
  nx : s.nx = r.nx
  vb : s.vb = r.vb
  v : s.vb = false → s.v = r.v
/-- Two that are alike. -/
def AC (z : Bool) (c d : Cp) : Prop := AW z (emptyW c 0 false) (emptyW d 0 false)
structure AB (a b : Bs) : Prop where
  wr : a.wr = b.wr
  sc : a.sc = b.sc
  ad : a.sc = false → a.ad = b.ad
  vb : a.vb = b.vb
  v : a.vb = false → a.v = b.v
theorem or_2 {a b : Bool} (h : (a || b) = false) : a = false ∧ b = false := by simpa using h
section
variable {z : Bool} {s r : Wk} {v v' : Int} {b b' : Bool}
theorem AW.setX (h : AW z s r) (hb : b = b') (hv : b = false → v = v') : AW z { s with xv := v, xb := b } { r with xv := v', xb := b' } := { h with xb := hb, x := hv }
theorem AW.setA (h : AW z s r) (hb : b = b') (hv : b = false → v = v') : AW z { s with av := v, ab := b } { r with av := v', ab := b' } := { h with ab := hb, a := hv }
theorem AW.setS (h : AW z s r) (hb : b = b') (hv : b = false → v = v') : AW z { s with sv := v, sb := b } { r with sv := v', sb := b' } := { h with sb := hb, sx := hv }
theorem AW.flags {p p' q q' : Int} (h : AW z s r) (hq : q = q') (hp : FA p p' q) : AW z { s with p := p, ps := q } { r with p := p', ps := q' } := { h with ps := hq, fa := hp }
theorem AW.loadA (h : AW z s r) (hb : b = b') (hv : b = false → v = v') : AW z (loadA s v b) (loadA r v' b') := (h.setA hb hv).flags (by rw [h.ps, hb]) (fa_nz h.fa hv)
theorem AW.loadX (h : AW z s r) (hb : b = b') (hv : b = false → v = v') : AW z (loadX s v b) (loadX r v' b') := (h.setX hb hv).flags (by rw [h.ps, hb]) (fa_nz h.fa hv)
theorem AW.loadY (h : AW z s r) (hb : b = b') (hv : b = false → v = v') : AW z (loadY s v b) (loadY r v' b') := AW.flags (s := { s with yv := v, yb := b }) (r := { r with yv := v', yb := b' }) { h with yb := hb, y := hv } (by rw [h.ps, hb]) (fa_nz h.fa hv)
theorem AW.flagW (h : AW z s r) (f n : Int) : AW z (flagW s f n) (flagW r f n) := h.flags (by rw [h.ps]) (fa_put h.fa _ _ fun _ => rfl)
theorem AW.alone (h : AW z s r) : AW z (aloneM s) (aloneM r) := by
  unfold aloneM
  rw [← h.nm]
  refine byName_all aloneL s.nm (fun s => s) (fun f => AW z (f s) (f r)) h fun e he => ?_
  simp only [aloneL, List.mem_cons, List.not_mem_nil, or_false] at he
  rcases he with rfl | rfl | rfl | rfl | rfl | rfl | rfl | rfl | rfl | rfl | rfl | rfl | rfl | rfl | rfl | rfl | rfl | rfl
  · exact h.loadX h.ab h.a
  · exact h.loadY h.ab h.a
  · exact h.loadA h.xb h.x
  · exact h.loadA h.yb h.y
  · exact h.loadX h.sb h.sx
  · exact h.setS h.xb h.x
  · exact h.loadX h.xb fun e => by rw [h.x e]
  · exact h.loadY h.yb fun e => by rw [h.y e]
  · exact h.loadX h.xb fun e => by rw [h.x e]
  · exact h.loadY h.yb fun e => by rw [h.y e]
  · exact h.flagW _ _
  · exact h.flagW _ _
  · exact h.flagW _ _
  · exact h.flagW _ _
  · exact h.flagW _ _
  · exact h.flagW _ _
  · exact h.flagW _ _
  · exact h
end
theorem c_of {z : Bool} {s r : Wk} (h : AW z s r) (e : hasV s.ps 1 = false) : cI s.p = cI r.p := by unfold cI; rw [fa_has h.fa e]
section
variable {z : Bool} {s r : Wk} {v v' : Int} {b b' : Bool}
theorem AW.adc (h : AW z s r) (hb : b = b') (hv : b = false → v = v') : AW z (adcW s v b) (adcW r v' b') := by
  refine (h.setA (v := adcV s.av v (cI s.p)) (v' := adcV r.av v' (cI r.p)) (b := s.ab || (b || hasV s.ps 1)) (b' := r.ab || (b' || hasV r.ps 1)) (by rw [h.ab, hb, h.ps]) fun e => ?_).flags (by rw [h.ab, hb, h.ps]) (fa_adc h.fa fun e => ?_)
  · obtain ⟨e1, e2⟩ := or_2 e
    obtain ⟨e2, e3⟩ := or_2 e2
    rw [h.a e1, hv e2, c_of h e3]
  · obtain ⟨e1, e2⟩ := or_2 e
    obtain ⟨e2, e3⟩ := or_2 e2
    exact ⟨h.a e1, hv e2, c_of h e3⟩
theorem AW.sbc (h : AW z s r) (hb : b = b') (hv : b = false → v = v') : AW z (sbcW s v b) (sbcW r v' b') := by
  refine (h.setA (v := adcV s.av (255 - v) (cI s.p)) (v' := adcV r.av (255 - v') (cI r.p)) (b := s.ab || (b || hasV s.ps 1)) (b' := r.ab || (b' || hasV r.ps 1)) (by rw [h.ab, hb, h.ps]) fun e => ?_).flags (by rw [h.ab, hb, h.ps]) (fa_adc h.fa fun e => ?_)
  · obtain ⟨e1, e2⟩ := or_2 e
    obtain ⟨e2, e3⟩ := or_2 e2
    rw [h.a e1, hv e2, c_of h e3]
  · obtain ⟨e1, e2⟩ := or_2 e
    obtain ⟨e2, e3⟩ := or_2 e2
    exact ⟨h.a e1, by rw [hv e2], c_of h e3⟩
theorem AW.cmp {a a' : Int} {x x' : Bool} (h : AW z s r) (hx : x = x') (ha : x = false → a = a') (hb : b = b') (hv : b = false → v = v') : AW z (cmpW s a x v b) (cmpW r a' x' v' b') :=
  h.flags (by rw [h.ps, hx, hb]) (fa_less h.fa fun e => ⟨ha (or_2 e).1, hv (or_2 e).2⟩)
theorem AW.read (h : AW z s r) (hb : b = b') (hv : b = false → v = v') : AW z (readM s v b) (readM r v' b') := by
  unfold readM
  rw [← h.nm]
  refine byName_all readsL s.nm (fun s _ _ => s) (fun f => AW z (f s v b) (f r v' b')) h fun e he => ?_
  have oA : (s.ab || b) = (r.ab || b') := by rw [h.ab, hb]
  have oF : ∀ f : Int → Int → Int, (s.ab || b) = false → f s.av v = f r.av v' := fun f e => by rw [h.a (or_2 e).1, hv (or_2 e).2]
  simp only [readsL, List.mem_cons, List.not_mem_nil, or_false] at he
  rcases he with rfl | rfl | rfl | rfl | rfl | rfl | rfl | rfl | rfl | rfl | rfl | rfl | rfl | rfl | rfl | rfl | rfl | rfl | rfl | rfl | rfl
  · exact h.loadA hb hv
  · exact h.loadX hb hv
  · exact h.loadY hb hv
  · exact (h.loadA hb hv).setX hb hv
  · have ob : (b || s.sb) = (b' || r.sb) := by rw [hb, h.sb]
    have ov : (b || s.sb) = false → bothV v s.sv = bothV v' r.sv := fun e => by rw [hv (or_2 e).1, h.sx (or_2 e).2]
    exact ((h.loadA ob ov).setX ob ov).setS ob ov
  · exact h.loadA oA (oF orV)
  · exact h.loadA oA (oF bothV)
  · exact h.loadA oA (oF xorV)
  · exact h.adc hb hv
  · exact h.sbc hb hv
  · exact h.cmp h.ab h.a hb hv
  · exact h.cmp h.xb h.x hb hv
  · exact h.cmp h.yb h.y hb hv
  · exact h.flags (by rw [h.ps, h.ab, hb]) (fa_bit h.fa h.a hv)
  · have k := h.loadA oA (oF bothV)
    exact k.flags (by rw [k.ps, k.ab]) (fa_put k.fa _ _ fun e => by rw [k.a e])
  · have k := h.loadA oA (oF bothV)
    exact (k.setA (b := s.ab || b) (b' := r.ab || b') (v := rightV (bothV s.av v) 0) (v' := rightV (bothV r.av v') 0) oA (oF fun a v => rightV (bothV a v) 0)).flags (by rw [k.ps]; show rollS _ (s.ab || b) false = rollS _ (r.ab || b') false; rw [oA]) (fa_right k.fa k.a fun _ => rfl)
  · have e1 : (s.ab || b || hasV s.ps 1) = (r.ab || b' || hasV r.ps 1) := by rw [h.ab, hb, h.ps]
    refine (h.setA (v := arrV s.av v (cI s.p)) (v' := arrV r.av v' (cI r.p)) e1 fun e => ?_).flags (by rw [oA, h.ps]) (fa_arr h.fa (oF bothV) fun e => c_of h (or_2 e).2)
    obtain ⟨e1, e2⟩ := or_2 e
    unfold arrV
    rw [oF bothV e1, c_of h e2]
  · have e1 : (s.ab || s.xb || b) = (r.ab || r.xb || b') := by rw [h.ab, hb, h.xb]
    have e2 : (s.ab || s.xb || b) = false → bothV s.av s.xv = bothV r.av r.xv ∧ v = v' := fun e => by
      obtain ⟨e3, e4⟩ := or_2 e
      rw [h.a (or_2 e3).1, h.x (or_2 e3).2]
      exact ⟨rfl, hv e4⟩
    exact (h.setX (v := lessV (bothV s.av s.xv) v) (v' := lessV (bothV r.av r.xv) v') e1 fun e => by rw [(e2 e).1, (e2 e).2]).flags (by rw [h.ps, e1]) (fa_less h.fa e2)
  · have e1 : (s.ab || s.xb || b) = (r.ab || r.xb || b') := by rw [h.ab, hb, h.xb]
    refine h.loadA e1 fun e => ?_
    obtain ⟨e3, e4⟩ := or_2 e
    rw [h.a (or_2 e3).1, h.x (or_2 e3).2, hv e4]
  · have ov := oF fun a v => bothV (orV a 238) v
    exact (h.loadA oA ov).setX oA ov
  · exact h
/-- What comes of what is alike: the work, and a byte. -/
def AR (z : Bool) (a c : Wk × Int × Bool) : Prop := AW z a.1 c.1 ∧ a.2.2 = c.2.2 ∧ (a.2.2 = false → a.2.1 = c.2.1)
theorem AW.change (h : AW z s r) (hb : b = b') (hv : b = false → v = v') : AR z (changeM s v b) (changeM r v' b') := by
  unfold changeM
  rw [← h.nm]
  refine byName_all changesL s.nm (fun s v b => (s, v, b)) (fun f => AR z (f s v b) (f r v' b')) ⟨h, hb, hv⟩ fun e he => ?_
  have ka : AR z (aslM s v b) (aslM r v' b') := ⟨h.flags (by rw [h.ps, hb]) (fa_left h.fa hv fun _ => rfl), hb, fun e => by show leftV v 0 = leftV v' 0; rw [hv e]⟩
  have kl : AR z (lsrM s v b) (lsrM r v' b') := ⟨h.flags (by rw [h.ps, hb]) (fa_right h.fa hv fun _ => rfl), hb, fun e => by show rightV v 0 = rightV v' 0; rw [hv e]⟩
  have kr : AR z (rolM s v b) (rolM r v' b') := ⟨h.flags (by rw [h.ps, hb]) (fa_left h.fa hv fun e => c_of h (or_2 e).2), by show (b || hasV s.ps 1) = (b' || hasV r.ps 1); rw [hb, h.ps], fun e => by show leftV v (cI s.p) = leftV v' (cI r.p); rw [hv (or_2 e).1, c_of h (or_2 e).2]⟩
  have ko : AR z (rorM s v b) (rorM r v' b') := ⟨h.flags (by rw [h.ps, hb]) (fa_right h.fa hv fun e => c_of h (or_2 e).2), by show (b || hasV s.ps 1) = (b' || hasV r.ps 1); rw [hb, h.ps], fun e => by show rightV v (cI s.p) = rightV v' (cI r.p); rw [hv (or_2 e).1, c_of h (or_2 e).2]⟩
  have ki : AR z (incM s v b) (incM r v' b') := ⟨h.flags (by rw [h.ps, hb]) (fa_nz h.fa fun e => by rw [hv e]), hb, fun e => by show (v + 1) % 256 = (v' + 1) % 256; rw [hv e]⟩
  have kd : AR z (decM s v b) (decM r v' b') := ⟨h.flags (by rw [h.ps, hb]) (fa_nz h.fa fun e => by rw [hv e]), hb, fun e => by show (v + 255) % 256 = (v' + 255) % 256; rw [hv e]⟩
  have kf : ∀ (g : Int → Int → Int) {a c : Wk × Int × Bool}, AR z a c → AR z (Go.Proofs.YtcgnnbgknaamdaaGreatDoor.loadA a.1 (g a.1.av a.2.1) (a.1.ab || a.2.2), a.2.1, a.2.2) (Go.Proofs.YtcgnnbgknaamdaaGreatDoor.loadA c.1 (g c.1.av c.2.1) (c.1.ab || c.2.2), c.2.1, c.2.2) := fun g a c k =>
    ⟨k.1.loadA (by rw [k.1.ab, k.2.1]) (fun e => by rw [k.1.a (or_2 e).1, k.2.2 (or_2 e).2]), k.2.1, k.2.2⟩
  simp only [changesL, List.mem_cons, List.not_mem_nil, or_false] at he
  rcases he with rfl | rfl | rfl | rfl | rfl | rfl | rfl | rfl | rfl | rfl | rfl | rfl
  · exact ka
  · exact kl
  · exact kr
  · exact ko
  · exact ki
  · exact kd
  · exact kf orV ka
  · exact kf bothV kr
  · exact kf xorV kl
  · exact ⟨ko.1.adc ko.2.1 ko.2.2, ko.2⟩
  · exact ⟨kd.1.cmp kd.1.ab kd.1.a kd.2.1 kd.2.2, kd.2⟩
  · exact ⟨ki.1.sbc ki.2.1 ki.2.2, ki.2⟩
theorem AW.put (h : AW z s r) (hb : b = b') (hv : b = false → v = v') : AB (putB s v b) (putB r v' b') := ⟨rfl, h.ads, h.ad, hb, hv⟩
theorem AW.putWith (h : AW z s r) (hb : b = b') (hv : b = false → v = v') : AB (putWith s v b) (putWith r v' b') := by
  unfold Go.Proofs.YtcgnnbgknaamdaaGreatDoor.putWith
  by_cases ha : s.ads = true
  · have ha' : r.ads = true := h.ads ▸ ha
    by_cases h1 : s.cr = false <;> by_cases h2 : r.cr = false <;> simp only [h1, h2, if_true, if_false, Bool.true_eq_false, Bool.not_false, ha, ha'] <;> refine ⟨?_, ?_, ?_, ?_, ?_⟩ <;> simp [ha, ha']
  · have ha : s.ads = false := by simpa using ha
    have ha' : r.ads = false := h.ads ▸ ha
    rw [← h.cr ha, ← h.ad ha]
    by_cases h1 : s.cr = false
    · simp only [h1, if_true]
      exact ⟨rfl, h.ads, fun _ => rfl, by show (b || s.ads) = (b' || r.ads); rw [hb, h.ads], fun e => by show bothV v _ = bothV v' _; rw [hv (or_2 e).1]⟩
    · simp only [h1, if_false]
      refine ⟨rfl, ?_, fun e => ?_, ?_, fun e => ?_⟩
      · show (s.ads || (b || s.ads)) = (r.ads || (b' || r.ads)); rw [hb, h.ads]
      · have e : (s.ads || (b || s.ads)) = false := e
        show s.ad % 256 + 256 * bothV v (s.ad / 256) = s.ad % 256 + 256 * bothV v' (s.ad / 256)
        rw [hv (or_2 (or_2 e).2).1]
      · show (b || s.ads) = (b' || r.ads); rw [hb, h.ads]
      · show bothV v _ = bothV v' _; rw [hv (or_2 e).1]
theorem AW.store (h : AW z s r) : AW z (storeM s).1 (storeM r).1 ∧ AB (storeM s).2 (storeM r).2 := by
  unfold storeM
  rw [← h.nm]
  refine byName_all storesL s.nm (fun s => (s, atAddr s)) (fun f => AW z (f s).1 (f r).1 ∧ AB (f s).2 (f r).2) ⟨h, ⟨rfl, h.ads, h.ad, rfl, fun _ => rfl⟩⟩ fun e he => ?_
  have ob : (s.ab || s.xb) = (r.ab || r.xb) := by rw [h.ab, h.xb]
  have ov : (s.ab || s.xb) = false → bothV s.av s.xv = bothV r.av r.xv := fun e => by rw [h.a (or_2 e).1, h.x (or_2 e).2]
  simp only [storesL, List.mem_cons, List.not_mem_nil, or_false] at he
  rcases he with rfl | rfl | rfl | rfl | rfl | rfl | rfl | rfl
  · exact ⟨h, h.put h.ab h.a⟩
  · exact ⟨h, h.put h.xb h.x⟩
  · exact ⟨h, h.put h.yb h.y⟩
  · exact ⟨h, h.put ob ov⟩
  · exact ⟨h, h.putWith ob ov⟩
  · exact ⟨h, h.putWith h.xb h.x⟩
  · exact ⟨h, h.putWith h.yb h.y⟩
  · exact ⟨h.setS ob ov, h.putWith ob ov⟩
theorem AW.push (h : AW z s r) (hb : b = b') (hv : b = false → v = v') : AB (pushB s v b) (pushB r v' b') := by
  unfold pushB
  rw [← h.md, ← h.intr]
  have es : s.sb = false → s.sv + 256 * 1 = r.sv + 256 * 1 := fun e => by rw [h.sx e]
  split
  · exact ⟨rfl, h.sb, es, rfl, fun _ => rfl⟩
  · exact ⟨rfl, h.sb, es, hb, hv⟩
/-- WHAT IS ASKED FOR IS ALIKE. -/
theorem AW.ask (h : AW z s r) (F : Fiw s) (G : Fiw r) (k : AskI) : AB (askM k s) (askM k r) := by
  have pu : ∀ q, hasV s.ps 207 = false → pushV s.p q = pushV r.p q := fun q e => by
    unfold pushV
    rw [fa_clr h.fa F.f.p0 F.f.p1 G.f.p0 G.f.p1 e]
  cases k
  case pc => exact ⟨rfl, h.pcs, h.pc, rfl, fun _ => rfl⟩
  case addr => exact ⟨rfl, h.ads, h.ad, rfl, fun _ => rfl⟩
  case stack => exact ⟨rfl, h.sb, fun e => by show s.sv + 256 * 1 = r.sv + 256 * 1; rw [h.sx e], rfl, fun _ => rfl⟩
  case vec => exact ⟨rfl, rfl, fun _ => by show vecV s.intr = vecV r.intr; rw [h.intr], rfl, fun _ => rfl⟩
  case vec1 => exact ⟨rfl, rfl, fun _ => by show (vecV s.intr + 1) % 65536 = (vecV r.intr + 1) % 65536; rw [h.intr], rfl, fun _ => rfl⟩
  case fin => exact ⟨rfl, rfl, fun _ => rfl, rfl, fun _ => rfl⟩
  case high => exact h.push h.pcs fun e => by rw [h.pc e]
  case low => exact h.push h.pcs fun e => by rw [h.pc e]
  case flags => exact h.push (by rw [h.ps]) fun e => by rw [← h.intr]; exact pu _ e
  case one =>
    show AB (if nmEq s.nm (S3 80 72 80) = true then _ else _) (if nmEq r.nm (S3 80 72 80) = true then _ else _)
    rw [← h.nm]
    split
    · exact h.push (by rw [h.ps]) fun e => pu _ e
    · exact h.push h.ab h.a
  case data => exact h.put h.db h.d
  case stored => exact h.store.2
  case changed =>
    have k := h.change h.db h.d
    exact h.put k.2.1 k.2.2
/-- What must not be secret, for what is done not to hang on it. -/
def condD (k : DoI) (s : Wk) : Prop := match k with
  | .aim => s.pcs = false
  | .cross => s.ads = false
  | _ => True
/-- Cycles that make an address's label anew, without a look at what it was; and those that tell whether a page is crossed. -/
def DoI.resets : DoI → Bool
  | .addrOn | .zeroOn | .aim => true
  | _ => false
def DoI.reaches : DoI → Bool
  | .reachX | .reachY | .pointY => true
  | _ => false
def lateK (k : DoI) (z : Bool) : Bool := match k with
  | .begin => false
  | k => z || k.reaches
theorem AW.reach (h : AW z s r) (hb : b = b') (hv : b = false → v = v') : AW true (reachW s v b) (reachW r v' b') := by
  have e1 : (s.db || b || s.vb) = (r.db || b' || r.vb) := by rw [h.db, hb, h.vb]
  exact { h with
    ads := e1
    ad := fun e => by
      have e : (s.db || b || s.vb) = false := e
      show (s.dv + v) % 256 + 256 * s.v = (r.dv + v') % 256 + 256 * r.v
      rw [h.d (or_2 (or_2 e).1).1, hv (or_2 (or_2 e).1).2, h.v (or_2 e).2]
    cr := fun e => by
      have e : (s.db || b || s.vb) = false := e
      show decide ((s.dv + v) % 256 < v) = decide ((r.dv + v') % 256 < v')
      rw [h.d (or_2 (or_2 e).1).1, hv (or_2 (or_2 e).1).2]
    cr2 := fun e => by cases e }
theorem AW.on (h : AW z s r) : AW z (onW s) (onW r) := { h with pc := fun e => by show (s.pc + 1) % 65536 = (r.pc + 1) % 65536; rw [h.pc e] }
theorem AW.keep (h : AW z s r) : AW z (keepW s) (keepW r) := { h with db := h.vb, d := h.v }
theorem AW.jump (h : AW z s r) : AW z (jumpW s) (jumpW r) := by
  have e1 : (s.db || s.vb) = (r.db || r.vb) := by rw [h.db, h.vb]
  have e2 : (s.db || s.vb) = false → s.dv + 256 * s.v = r.dv + 256 * r.v := fun e => by rw [h.d (or_2 e).1, h.v (or_2 e).2]
  exact { h with pcs := e1, pc := e2 }
theorem AW.pulled (h : AW z s r) : AW z (pulledW s) (pulledW r) := { h with sx := fun e => by show (s.sv + 1) % 256 = (r.sv + 1) % 256; rw [h.sx e] }
theorem AW.pushed (h : AW z s r) : AW z (pushedW s) (pushedW r) := { h with sx := fun e => by show (s.sv - 1) % 256 = (r.sv - 1) % 256; rw [h.sx e] }
theorem AW.add (h : AW z s r) (hb : b = b') (hv : b = false → v = v') : AW z (addW s v b) (addW r v' b') := { h with
  ads := by show (s.ads || b) = (r.ads || b'); rw [h.ads, hb]
  ad := fun e => by
    have e : (s.ads || b) = false := e
    show (s.ad + v) % 256 = (r.ad + v') % 256
    rw [h.ad (or_2 e).1, hv (or_2 e).2]
  cr := fun e => h.cr (or_2 e).1 }
theorem AW.begun (h : AW z s r) : AW false (begunW s) (begunW r) := { h with ads := rfl, ad := fun _ => rfl, cr := fun _ => rfl, cr2 := fun _ => rfl, db := rfl, d := fun _ => rfl }
end
/-- WHAT IS DONE WITH WHAT IS ALIKE IS ALIKE, or a secret tells it, in both. -/
def AK (z : Bool) (s r : Wk) : Prop := s.ctl = r.ctl ∧ (s.ctl = false → AW z s r)
theorem AW.k {z : Bool} {s r : Wk} (h : AW z s r) : AK z s r := ⟨h.ctl, fun _ => h⟩
theorem AW.kz {z : Bool} {s r : Wk} (h : AW z s r) : AK (z || false) s r := by rw [Bool.or_false]; exact h.k
theorem AW.kt {z : Bool} {s r : Wk} (h : AW true s r) : AK (z || true) s r := by rw [Bool.or_true]; exact h.k
theorem AW.done {z : Bool} {s r : Wk} (h : AW z s r) (k : DoI) (hc : condD k s) (hz : k.resets = true → z = false) : AK (lateK k z) (doM k s) (doM k r) := by
  cases k
  case begin =>
    show AK false (beginW s) (beginW r)
    unfold beginW
    rw [← h.intr]
    split
    · refine ⟨by show (s.ctl || s.vb) = (r.ctl || r.vb); rw [h.ctl, h.vb], fun e => ?_⟩
      have e : (s.ctl || s.vb) = false := e
      exact { h.begun with op := h.v (or_2 e).2, pc := fun e => by show (s.pc + 1) % 65536 = (r.pc + 1) % 65536; rw [h.pc e], ctl := by show (s.ctl || s.vb) = (r.ctl || r.vb); rw [h.ctl, h.vb] }
    · exact AW.k { h.begun with op := rfl }
  case alone => exact h.alone.kz
  case accA => have k := h.change h.ab h.a; exact (k.1.setA k.2.1 k.2.2).kz
  case doOn => exact (h.read h.vb h.v).on.kz
  case branch =>
    show AK (z || false) (branchW s) (branchW r)
    unfold branchW
    dsimp only
    rw [← h.nm]
    have hk := h.keep.on
    have ec : (s.ctl || hasV s.ps (brF s.nm)) = (r.ctl || hasV r.ps (brF s.nm)) := by rw [h.ctl, h.ps]
    by_cases hs : hasV s.ps (brF s.nm) = true
    · have hs' : hasV r.ps (brF s.nm) = true := h.ps ▸ hs
      refine ⟨?_, fun e => ?_⟩
      · split <;> split <;> simp [hs, hs']
      · exfalso
        split at e <;> simp [hs] at e
    · have hs : hasV s.ps (brF s.nm) = false := by simpa using hs
      rw [← fa_has h.fa hs]
      split
      · exact AW.kz { hk with ctl := ec, pcs := by show (s.pcs || s.vb) = (r.pcs || r.vb); rw [h.pcs, h.vb], pc := fun e => hk.pc (or_2 e).1 }
      · exact AW.kz { hk with ctl := ec, nx := rfl }
  case aim =>
    have hp : s.pcs = false := hc
    show AK (z || false) (aimW s) (aimW r)
    unfold aimW
    dsimp only
    have ec : (s.ctl || s.db) = (r.ctl || r.db) := by rw [h.ctl, h.db]
    have ep : (s.pcs || s.db) = (r.pcs || r.db) := by rw [h.pcs, h.db]
    by_cases hd : s.db = true
    · have hd' : r.db = true := h.db ▸ hd
      refine ⟨?_, fun e => ?_⟩
      · split <;> split <;> simp [hd, hd']
      · exfalso
        split at e <;> simp [hd] at e
    · have hd : s.db = false := by simpa using hd
      have et : aimT s = aimT r := by unfold aimT; rw [h.pc hp, h.d hd]
      rw [← et, ← h.pc hp]
      split
      · exact AW.kz { h with ctl := ec, pcs := ep, pc := fun _ => rfl, nx := rfl }
      · exact AW.kz { h with ctl := ec, pcs := ep, pc := fun _ => rfl, ads := ep, ad := fun _ => rfl, cr := fun _ => h.cr2 (hz rfl) }
  case leave => exact AW.kz { h with pcs := by show (s.pcs || s.ads) = (r.pcs || r.ads); rw [h.pcs, h.ads], pc := fun e => h.ad (or_2 e).2 }
  case keepOn => exact h.keep.on.kz
  case addrOn => exact AW.kz { h.on with ads := by show (s.db || s.vb) = (r.db || r.vb); rw [h.db, h.vb], ad := fun e => h.jump.pc e, cr := fun _ => h.cr2 (hz rfl) }
  case keepInPage => exact AW.kz { h.keep with ad := fun e => by show s.ad / 256 * 256 + (s.ad + 1) % 256 = r.ad / 256 * 256 + (r.ad + 1) % 256; rw [h.ad e] }
  case jump => exact h.jump.kz
  case jam => exact AW.kz { h with jam := rfl, nx := h.t }
  case rest => exact h.kz
  case pushed => exact h.pushed.kz
  case pulled => exact h.pulled.kz
  case pullData => exact h.keep.pulled.kz
  case on => exact h.on.kz
  case pullFlags => exact (h.flags (by rw [h.vb]) (fa_pull h.v)).pulled.kz
  case breakOn =>
    show AK (z || false) (if s.intr = 0 then onW s else s) (if r.intr = 0 then onW r else r)
    rw [← h.intr]
    split
    · exact h.on.kz
    · exact h.kz
  case keep => exact h.keep.kz
  case interrupt => exact (h.jump.flagW 4 1).kz
  case pullOne =>
    have e1 : ∀ s : Wk, nmEq s.nm (S3 80 76 80) = true → doM .pullOne s = { s with p := clr s.v, ps := pullS s.vb } := fun s hs => if_pos hs
    have e2 : ∀ s : Wk, ¬ nmEq s.nm (S3 80 76 80) = true → doM .pullOne s = Go.Proofs.YtcgnnbgknaamdaaGreatDoor.loadA s s.v s.vb := fun s hs => if_neg hs
    by_cases hn : nmEq s.nm (S3 80 76 80) = true
    · rw [e1 s hn, e1 r (h.nm ▸ hn)]
      exact (h.flags (by rw [h.vb]) (fa_pull h.v)).kz
    · rw [e2 s hn, e2 r (h.nm ▸ hn)]
      exact (h.loadA h.vb h.v).kz
  case zeroOn => exact AW.kz { h.on with ads := h.vb, ad := fun e => by show s.v + 256 * 0 = r.v + 256 * 0; rw [h.v e], cr := fun _ => h.cr2 (hz rfl) }
  case addX => exact (h.add h.xb h.x).kz
  case addY => exact (h.add h.yb h.y).kz
  case reachX => exact (h.reach h.xb h.x).on.kt
  case reachY => exact (h.reach h.yb h.y).on.kt
  case cross =>
    have ha : s.ads = false := hc
    show AK (z || false) (crossW s) (crossW r)
    unfold crossW
    rw [← h.cr ha, ← h.us]
    split
    · exact AW.kz { h with ad := fun e => by show (s.ad + 256) % 65536 = (r.ad + 256) % 65536; rw [h.ad e], cr := fun _ => rfl, cr2 := fun _ => rfl, us := rfl }
    · split
      · exact AW.kz { h.read h.vb h.v with nx := rfl }
      · exact h.kz
  case keepInZero => exact AW.kz { h.keep with ad := fun e => by show (s.ad + 1) % 256 = (r.ad + 1) % 256; rw [h.ad e] }
  case point => exact AW.kz { h with ads := by show (s.db || s.vb || s.ads) = (r.db || r.vb || r.ads); rw [h.db, h.vb, h.ads], ad := fun e => h.jump.pc (or_2 e).1, cr := fun e => h.cr (or_2 e).2 }
  case pointY =>
    have k := h.reach h.yb h.y
    exact AW.kt { k with ads := by show (s.db || s.yb || s.vb || s.ads) = (r.db || r.yb || r.vb || r.ads); rw [h.db, h.yb, h.vb, h.ads], ad := fun e => k.ad (or_2 e).1, cr := fun e => k.cr (or_2 e).1 }
  case stored => exact h.store.1.kz
  case changed => exact (h.change h.db h.d).1.kz
  case does => exact (h.read h.vb h.v).kz
theorem AW.end {z : Bool} {s r : Wk} (h : AW z s r) : AW z (endW s) (endW r) := by
  unfold endW
  rw [← h.nx, ← h.md]
  split
  · exact { h with t := rfl, nx := rfl, md := rfl }
  · split
    · exact { h with t := rfl, intr := rfl, nx := rfl, md := rfl }
    · exact { h with t := rfl, nx := rfl, md := rfl, intr := h.pend, got := by show (s.got && !decide (s.pend = 2)) = (r.got && !decide (r.pend = 2)); rw [h.got, h.pend] }
theorem AW.hear {z : Bool} {s r : Wk} (h : AW z s r) (i n q : Bool) : AK z (hearW s i n q) (hearW r i n q) := by
  have ec : (s.ctl || hasV s.ps 4) = (r.ctl || hasV r.ps 4) := by rw [h.ctl, h.ps]
  have eg : gotB s.toCp n = gotB r.toCp n := by unfold gotB; rw [h.got, h.nmi]
  have e1 : ∀ s : Wk, (hearW s i n q).ctl = (s.ctl || hasV s.ps 4) := fun s => by unfold hearW; cases q <;> rfl
  refine ⟨by rw [e1, e1]; exact ec, fun e => ?_⟩
  rw [e1] at e
  have ep := fa_has h.fa (or_2 e).2
  unfold hearW
  dsimp only
  rw [← ep, ← eg, ← ec]
  cases q
  · exact { h with got := rfl, nmi := rfl, ctl := rfl, pend := rfl }
  · exact { h with got := rfl, nmi := rfl, ctl := rfl, pend := rfl, t := rfl, intr := rfl, jam := rfl }

/-! ### where an instruction is -/
def lateB (op t : Int) : Bool := decide (t = 0) || ((stepsL (modeV op) (useV op)).drop (t - 1).toNat).all fun e => !e.2.resets
def pairB (l : List (AskI × DoI)) : Bool := l.all fun e => (match e.2 with | .aim => (match e.1 with | .pc => true | _ => false) | .cross => (match e.1 with | .addr => true | _ => false) | _ => true)
def reachB : List (AskI × DoI) → Bool
  | [] => true
  | e :: l => (!e.2.reaches || l.all fun e => !e.2.resets) && reachB l
theorem tab_late (op : Int) (h0 : 0 ≤ op) (h1 : op < 256) : (pairB (stepsL (modeV op) (useV op)) && reachB (stepsL (modeV op) (useV op))) = true :=
  byte_all (p := fun op => (pairB (stepsL (modeV op) (useV op)) && reachB (stepsL (modeV op) (useV op))) = true) (by decide +kernel) op h0 h1
theorem reach_drop : ∀ (l : List (AskI × DoI)) (j : Nat) (e : AskI × DoI), reachB l = true → l[j]? = some e → e.2.reaches = true → ((l.drop (j + 1)).all fun e => !e.2.resets) = true
  | [], j, e, _, h, _ => by simp at h
  | x :: l, 0, e, h, hx, hr => by
    obtain rfl : x = e := by simpa using hx
    unfold reachB at h
    rw [hr, Bool.not_true, Bool.false_or, Bool.and_eq_true] at h
    exact h.1
  | x :: l, j + 1, e, h, hx, hr => by
    unfold reachB at h
    rw [Bool.and_eq_true] at h
    exact reach_drop l j e h.2 (by simpa using hx) hr
theorem AC.turn {z : Bool} {c d : Cp} (h : AC z c d) {v v' : Int} {b b' : Bool} (hb : b = b') (hv : b = false → v = v') : AW z (turnW (emptyW c v b)) (turnW (emptyW d v' b')) ∧ turnS (emptyW c v b) = turnS (emptyW d v' b') := by
  have ht : c.t = d.t := h.t
  have ho : c.op = d.op := h.op
  unfold turnW turnS
  show AW z (if c.t = 0 then _ else _) (if d.t = 0 then _ else _) ∧ (if c.t = 0 then _ else _) = (if d.t = 0 then _ else _)
  rw [← ht]
  split
  · exact ⟨{ h with nx := rfl, vb := hb, v := hv }, rfl⟩
  · refine ⟨{ h with nm := ?_, md := ?_, us := ?_, nx := ?_, vb := hb, v := hv }, ?_⟩
    · show nameV c.op = nameV d.op; rw [ho]
    · show modeV c.op = modeV d.op; rw [ho]
    · show useV c.op = useV d.op; rw [ho]
    · show (if c.t = ((stepsL (modeV c.op) (useV c.op)).length : Int) then (0 : Int) else c.t + 1) = (if d.t = ((stepsL (modeV d.op) (useV d.op)).length : Int) then (0 : Int) else d.t + 1)
      rw [← ho, ← ht]
    · show ((stepsL (modeV c.op) (useV c.op)).getD (c.t - 1).toNat (AskI.pc, DoI.rest)) = ((stepsL (modeV d.op) (useV d.op)).getD (d.t - 1).toNat (AskI.pc, DoI.rest))
      rw [← ho, ← ht]
theorem fit_turn {c : Cp} (F : Fit c) {v : Int} (b : Bool) (v0 : 0 ≤ v) (v1 : v < 256) : Fiw (turnW (emptyW c v b)) := ⟨by rw [turnW_cp]; exact F, by rw [turnW_v]; exact v0, by rw [turnW_v]; exact v1⟩
/-- WHAT IS ASKED FOR IS ALIKE. -/
theorem al_asked {z : Bool} {c d : Cp} (h : AC z c d) (F : Fit c) (G : Fit d) : AB (askedM c) (askedM d) := by
  obtain ⟨hw, hs⟩ := h.turn (v := 0) (v' := 0) (b := false) rfl fun _ => rfl
  unfold askedM
  dsimp only
  rw [← hs]
  exact hw.ask (fit_turn F false (by decide) (by decide)) (fit_turn G false (by decide) (by decide)) _
theorem ask_v (k : AskI) (s : Wk) (v : Int) (b : Bool) : askM k { s with v := v, vb := b } = askM k s := by
  cases k
  case stored => exact byName_all storesL s.nm _ (fun f => (f { s with v := v, vb := b }).2 = (f s).2) rfl (by
    intro e he
    simp only [storesL, List.mem_cons, List.not_mem_nil, or_false] at he
    rcases he with rfl | rfl | rfl | rfl | rfl | rfl | rfl | rfl
    all_goals rfl)
  case changed =>
    have e : (changeM { s with v := v, vb := b } s.dv s.db).2 = (changeM s s.dv s.db).2 := byName_all changesL s.nm _ (fun f => (f { s with v := v, vb := b } s.dv s.db).2 = (f s s.dv s.db).2) rfl (by
      intro e he
      simp only [changesL, List.mem_cons, List.not_mem_nil, or_false] at he
      rcases he with rfl | rfl | rfl | rfl | rfl | rfl | rfl | rfl | rfl | rfl | rfl | rfl
      all_goals rfl)
    show putB s (changeM { s with v := v, vb := b } s.dv s.db).2.1 (changeM { s with v := v, vb := b } s.dv s.db).2.2 = putB s (changeM s s.dv s.db).2.1 (changeM s s.dv s.db).2.2
    rw [e]
  all_goals rfl
theorem turn_v (c : Cp) (v : Int) (b : Bool) : turnW (emptyW c v b) = { turnW (emptyW c 0 false) with v := v, vb := b } := by
  unfold turnW
  by_cases h : c.t = 0
  · rw [if_pos (show (emptyW c v b).t = 0 from h), if_pos (show (emptyW c 0 false).t = 0 from h)]; rfl
  · rw [if_neg (show ¬ (emptyW c v b).t = 0 from h), if_neg (show ¬ (emptyW c 0 false).t = 0 from h)]; rfl
theorem asked_eq (c : Cp) (v : Int) (b : Bool) : askM (turnS (emptyW c v b)).1 (turnW (emptyW c v b)) = askedM c := by
  rw [turn_v, ask_v]
  rfl
theorem take_ctl (c : Cp) (v : Int) (b i n q : Bool) : (takeM c v b i n q).ctl = ((workM c v b).ctl || hasV (workM c v b).ps 4) := by
  unfold takeM
  generalize workM c v b = d
  have e : (endW d).ctl = d.ctl ∧ (endW d).ps = d.ps := by
    unfold endW
    split
    · exact ⟨rfl, rfl⟩
    · split <;> exact ⟨rfl, rfl⟩
  unfold hearW
  cases q <;> exact (congr (congrArg or e.1) (congrArg (hasV · 4) e.2))
theorem take_op (c : Cp) (v : Int) (b i n q : Bool) : (takeM c v b i n q).op = (workM c v b).op ∧ (takeM c v b i n q).t = if q then 0 else (workM c v b).nx := by
  unfold takeM
  generalize workM c v b = d
  have e : (endW d).op = d.op ∧ (endW d).t = d.nx := by
    unfold endW
    split
    · exact ⟨rfl, rfl⟩
    · rename_i h
      have h : d.nx = 0 := by simpa using h
      split <;> exact ⟨rfl, h.symm⟩
  unfold hearW
  cases q
  · exact e
  · exact ⟨e.1, rfl⟩
theorem all_drop {p : AskI × DoI → Bool} (l : List (AskI × DoI)) (j : Nat) (h : (l.drop j).all p = true) : (l.drop (j + 1)).all p = true := by
  rw [← List.drop_drop]
  exact List.all_eq_true.2 fun e he => List.all_eq_true.1 h e (List.mem_of_mem_drop he)
/-- WHAT COMES OF WHAT IS ALIKE IS ALIKE, or a secret tells it, in both. -/
theorem al_take {z : Bool} {c d : Cp} (h : AC z c d) (F : Fit c) (G : Fit d) (hok : okB c = true) (hz : z = true → lateB c.op c.t = true) {v v' : Int} {b b' : Bool} (hb : b = b') (hv : b = false → v = v') (v0 : 0 ≤ v) (v1 : v < 256) (v0' : 0 ≤ v') (v1' : v' < 256) (i n q : Bool) :
    (takeM c v b i n q).ctl = (takeM d v' b' i n q).ctl ∧ ((takeM c v b i n q).ctl = false → (askedM c).sc = false ∧ ∃ y, (y = true → lateB (takeM c v b i n q).op (takeM c v b i n q).t = true) ∧ AC y (takeM c v b i n q) (takeM d v' b' i n q)) := by
  obtain ⟨hw, hs⟩ := h.turn hb hv
  have ht := tab_late c.op F.op0 F.op1
  rw [Bool.and_eq_true] at ht
  obtain ⟨ht0, _⟩ := ((okB_iff c).1 hok).1
  have ha := hw.ask (fit_turn F b v0 v1) (fit_turn G b' v0' v1') (turnS (emptyW c v b)).1
  have hsc : (askM (turnS (emptyW c v b)).1 (turnW (emptyW c v b))).sc = (askedM c).sc := by rw [asked_eq]
  have hsc2 : (askM (turnS (emptyW c v b)).1 (turnW (emptyW d v' b'))).sc = (askedM c).sc := ha.sc.symm.trans hsc
  have hk : workM c v b = doM (turnS (emptyW c v b)).2 { turnW (emptyW c v b) with ctl := (turnW (emptyW c v b)).ctl || (askedM c).sc } := by unfold workM; dsimp only; rw [hsc]
  have hk2 : workM d v' b' = doM (turnS (emptyW c v b)).2 { turnW (emptyW d v' b') with ctl := (turnW (emptyW d v' b')).ctl || (askedM c).sc } := by unfold workM; dsimp only; rw [← hs, hsc2]
  have hS : AW z { turnW (emptyW c v b) with ctl := (turnW (emptyW c v b)).ctl || (askedM c).sc } { turnW (emptyW d v' b') with ctl := (turnW (emptyW d v' b')).ctl || (askedM c).sc } := { hw with ctl := by show ((turnW (emptyW c v b)).ctl || _) = ((turnW (emptyW d v' b')).ctl || _); rw [hw.ctl] }
  by_cases hq : (askedM c).sc = true
  · have k1 : ∀ s : Wk, ∀ k, ({ s with ctl := s.ctl || (askedM c).sc } : Wk).ctl = true → (doM k { s with ctl := s.ctl || (askedM c).sc }).ctl = true := fun s k hh => (kp_do k _).ctl hh
    have c1 : (workM c v b).ctl = true := by rw [hk]; exact k1 _ _ (by rw [hq]; simp)
    have c2 : (workM d v' b').ctl = true := by rw [hk2]; exact k1 _ _ (by rw [hq]; simp)
    rw [take_ctl, take_ctl, c1, c2]
    exact ⟨rfl, fun e => by cases e⟩
  have hq : (askedM c).sc = false := by simpa using hq
  -- where the instruction is
  have hpos : c.t ≠ 0 → turnS (emptyW c v b) = (stepsL (modeV c.op) (useV c.op)).getD (c.t - 1).toNat (.pc, .rest) := fun h0 => by
    unfold turnS
    rw [if_neg (show ¬ (emptyW c v b).t = 0 from h0)]
    rfl
  have hzero : c.t = 0 → turnS (emptyW c v b) = (.pc, .begin) := fun h0 => by
    unfold turnS
    rw [if_pos (show (emptyW c v b).t = 0 from h0)]
  have hmem : ∀ k, (turnS (emptyW c v b)).2 = k → k ≠ .begin → k ≠ .rest → c.t ≠ 0 ∧ (stepsL (modeV c.op) (useV c.op))[(c.t - 1).toNat]? = some (turnS (emptyW c v b)) := fun k hk h1 h2 => by
    by_cases h0 : c.t = 0
    · rw [hzero h0] at hk
      exact absurd hk.symm h1
    · refine ⟨h0, ?_⟩
      have e := hpos h0
      rw [List.getD_eq_getElem?_getD] at e
      cases hg : (stepsL (modeV c.op) (useV c.op))[(c.t - 1).toNat]? with
      | none => rw [hg] at e; rw [e] at hk; exact absurd hk.symm h2
      | some x => rw [hg] at e; rw [e]; rfl
  have hcond : condD (turnS (emptyW c v b)).2 { turnW (emptyW c v b) with ctl := (turnW (emptyW c v b)).ctl || (askedM c).sc } := by
    have hp := List.all_eq_true.1 ht.1
    have hq2 : (askM (turnS (emptyW c v b)).1 (turnW (emptyW c v b))).sc = false := hsc.trans hq
    cases hkk : (turnS (emptyW c v b)).2
    case aim =>
      obtain ⟨_, hg⟩ := hmem _ hkk (by decide) (by decide)
      have := hp _ (List.mem_of_getElem? hg)
      generalize turnS (emptyW c v b) = e at *
      obtain ⟨e1, e2⟩ := e
      subst hkk
      cases e1 <;> first | (cases this; done) | exact hq2
    case cross =>
      obtain ⟨_, hg⟩ := hmem _ hkk (by decide) (by decide)
      have := hp _ (List.mem_of_getElem? hg)
      generalize turnS (emptyW c v b) = e at *
      obtain ⟨e1, e2⟩ := e
      subst hkk
      cases e1 <;> first | (cases this; done) | exact hq2
    all_goals trivial
  have hres : (turnS (emptyW c v b)).2.resets = true → z = false := fun hr => by
    cases z
    · rfl
    · exfalso
      obtain ⟨h0, hg⟩ := hmem _ rfl (by intro e; rw [e] at hr; cases hr) (by intro e; rw [e] at hr; cases hr)
      have hl := hz rfl
      unfold lateB at hl
      rw [Bool.or_eq_true, decide_eq_true_eq] at hl
      rcases hl with hl | hl
      · exact h0 hl
      · have := List.all_eq_true.1 hl _ (List.mem_of_getElem? (i := 0) (by rw [List.getElem?_drop, Nat.add_zero]; exact hg))
        rw [hr] at this
        cases this
  obtain ⟨ec, hA⟩ := hS.done (turnS (emptyW c v b)).2 hcond hres
  rw [← hk, ← hk2] at ec hA
  by_cases hd : (workM c v b).ctl = true
  · rw [take_ctl, take_ctl, ← ec, hd]
    exact ⟨rfl, fun e => by cases e⟩
  have hd : (workM c v b).ctl = false := by simpa using hd
  obtain ⟨e1, e2⟩ := (hA hd).end.hear i n q
  refine ⟨e1, fun hn => ⟨hq, lateK (turnS (emptyW c v b)).2 z, fun hy => ?_, { e2 hn with nm := rfl, md := rfl, us := rfl, nx := rfl, vb := rfl, v := fun _ => rfl }⟩⟩
  obtain ⟨eo, et⟩ := take_op c v b i n q
  rw [eo, et]
  by_cases hqq : q = true
  · rw [if_pos hqq]
    rfl
  rw [if_neg hqq]
  have hbeg : (turnS (emptyW c v b)).2 ≠ .begin := fun e => by rw [e] at hy; cases hy
  have h0 : c.t ≠ 0 := fun h0 => hbeg (by rw [hzero h0])
  have hop : (workM c v b).op = c.op := by
    rw [hk]
    refine (op_do _ _ hbeg).trans ?_
    show (turnW (emptyW c v b)).op = c.op
    rw [turnW_cp]; rfl
  have hwt : ({ turnW (emptyW c v b) with ctl := (turnW (emptyW c v b)).ctl || (askedM c).sc } : Wk).t = c.t := by
    show (turnW (emptyW c v b)).t = c.t
    rw [turnW_cp]; rfl
  have hwn : ({ turnW (emptyW c v b) with ctl := (turnW (emptyW c v b)).ctl || (askedM c).sc } : Wk).nx = 0 ∨ ({ turnW (emptyW c v b) with ctl := (turnW (emptyW c v b)).ctl || (askedM c).sc } : Wk).nx = c.t + 1 := by
    show (turnW (emptyW c v b)).nx = 0 ∨ (turnW (emptyW c v b)).nx = c.t + 1
    unfold turnW
    rw [if_neg (show ¬ (emptyW c v b).t = 0 from h0)]
    show (if c.t = _ then (0 : Int) else c.t + 1) = 0 ∨ (if c.t = _ then (0 : Int) else c.t + 1) = c.t + 1
    split
    · exact .inl rfl
    · exact .inr rfl
  have hL0 : lateB c.op 0 = true := rfl
  have hnext : (((stepsL (modeV c.op) (useV c.op)).drop ((c.t - 1).toNat + 1)).all fun e => !e.2.resets) = true → lateB c.op (c.t + 1) = true := fun hh => by
    unfold lateB
    rw [show (c.t + 1 - 1).toNat = (c.t - 1).toNat + 1 by omega, hh, Bool.or_true]
  rw [hop]
  by_cases hzt : z = true
  · have hl := hz hzt
    have hl' := hl
    unfold lateB at hl'
    rw [decide_eq_false h0, Bool.false_or] at hl'
    have hn1 := hnext (all_drop _ _ hl')
    have N := nx_any (turnS (emptyW c v b)).2 { turnW (emptyW c v b) with ctl := (turnW (emptyW c v b)).ctl || (askedM c).sc }
    rw [← hk, hwt] at N
    rcases N with N | N | N
    · rw [N]
      rcases hwn with e | e
      · rw [e]; exact hL0
      · rw [e]; exact hn1
    · rw [N]; exact hL0
    · rw [N]; exact hl
  · have hzf : z = false := by simpa using hzt
    have hr : (turnS (emptyW c v b)).2.reaches = true := by
      rw [hzf] at hy
      generalize (turnS (emptyW c v b)).2 = k at *
      cases k <;> first | rfl | (cases hy; done)
    have hends : (turnS (emptyW c v b)).2.ends = false := by
      generalize (turnS (emptyW c v b)).2 = k at *
      cases k <;> first | rfl | (cases hr; done)
    obtain ⟨_, hg⟩ := hmem _ rfl hbeg (by intro e; rw [e] at hr; cases hr)
    have hn1 := hnext (reach_drop _ _ _ ht.2 hg hr)
    have N := nx_do (turnS (emptyW c v b)).2 { turnW (emptyW c v b) with ctl := (turnW (emptyW c v b)).ctl || (askedM c).sc } hends
    rw [← hk] at N
    rw [N]
    rcases hwn with e | e
    · rw [e]; exact hL0
    · rw [e]; exact hn1
end Go.Proofs.YtcgnnbgknaamdaaGreatDoor
