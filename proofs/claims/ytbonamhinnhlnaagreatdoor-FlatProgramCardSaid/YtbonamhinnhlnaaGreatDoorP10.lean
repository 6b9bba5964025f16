/-
  Several texts in one: what is read and written by the functions on the way to the statements. Conditions stand in each theorem.
-/
import Derived.Test.YtbonamhinnhlnaaGreatDoorRows
import Derived.Test.YtbonamhinnhlnaaGreatDoorP07
import Derived.Test.YtbonamhinnhlnaaGreatDoorP09
import Derived.Test.YtbonamhinnhlnaaGreatDoorP02
import Derived.Test.YtbonamhinnhlnaaGreatDoorP05
namespace Go.Proofs.YtbonamhinnhlnaaGreatDoor
open Go Go.RowKit Go.WideShapes Go.ChangeShapes

theorem nCyc : Tryz.prog.globalNamed "seepage/opcode.cycles" = some 0 := by kernel_rfl
theorem yCyc : (Tryz.prog.globals[0]?).map (·.type) = some 129 := by kernel_rfl
def rowZ (i : Nat) : List Int := (cyZ.drop (4 * i)).take 4
set_option maxRecDepth 100000 in
theorem globo_of {W : World} {l : List (String × DataW Unit)} (h : laidMet Tryz.prog l W) (m : ("seepage/opcode.cycles", Rows.laid_seepage_opcode_cycles) ∈ l) : GlobO W := by
  obtain ⟨g, t, cs, fuel, p, hg, hty, hvar, hd⟩ := Lib.laidMet.reads h m
  obtain rfl := Option.some.inj (nCyc.symm.trans hg)
  obtain rfl := Option.some.inj (yCyc.symm.trans hty)
  have c5 : Tryz.prog.cellsOf 5 = 1 := by kernel_rfl
  have c40 : Tryz.prog.cellsOf 128 = 4 := by kernel_rfl
  have hcell : ∀ (k : Nat) (c : Int), cyZ[k]? = some c → W.cell? ⟨0, k, none⟩ = some (.int .u8 c) := by
    intro k c hk
    have hk84 : k < 84 := (List.getElem?_eq_some_iff.1 hk).1
    rw [show (Rows.laid_seepage_opcode_cycles : DataW Unit) = .agg ((List.range 21).map fun i => Lib.tabData .u8 (rowZ i)) from rfl] at hd
    obtain ⟨fuel', d, q, hdi, he⟩ := Lib.array_elem Tryz.underlying129 hd (k / 4) (by omega)
    simp only [List.getElem?_map, List.getElem?_range (show k / 4 < 21 by omega), Option.map_some, Option.some.injEq] at hdi
    subst hdi
    rw [c40] at he
    have hcs := Lib.cells_of_tab (zs := rowZ (k / 4)) Tryz.underlying128 Tryz.underlying5 c5 c40 he
    have e := congrArg (·[k % 4]?) hcs
    simp only [List.getElem?_take, List.getElem?_drop] at e
    rw [World.var?_cell nCyc hvar k, ← Array.getElem?_toList]
    rw [if_pos (by omega), show k / 4 * 4 + k % 4 = k by omega] at e
    rw [e, List.getElem?_map]
    unfold rowZ
    rw [List.getElem?_take, List.getElem?_drop, if_pos (by omega), show 4 * (k / 4) + k % 4 = k by omega, hk]
    rfl
  exact ⟨hcell, World.block_lt_of_cell? W _ (hcell 0 2 rfl)⟩
end Go.Proofs.YtbonamhinnhlnaaGreatDoor
namespace Go.Proofs.YtbonamhinnhlnaaGreatDoor
set_option linter.unusedSimpArgs false
set_option linter.unusedVariables false

/-- A processor's numbers are of their kinds, and its flags have no bits 4 and 5. -/
structure Fit (c : Cp) : Prop where
  a0 : 0 ≤ c.av
  a1 : c.av < 256
  x0 : 0 ≤ c.xv
  x1 : c.xv < 256
  y0 : 0 ≤ c.yv
  y1 : c.yv < 256
  s0 : 0 ≤ c.sv
  s1 : c.sv < 256
  p0 : 0 ≤ c.p
  p1 : c.p < 256
  q0 : 0 ≤ c.ps
  q1 : c.ps < 256
  cp : clr c.p = c.p
  cq : clr c.ps = c.ps
  pc0 : 0 ≤ c.pc
  pc1 : c.pc < 65536
  op0 : 0 ≤ c.op
  op1 : c.op < 256
  ad0 : 0 ≤ c.ad
  ad1 : c.ad < 65536
  d0 : 0 ≤ c.dv
  d1 : c.dv < 256
structure Fiw (s : Wk) : Prop where
  f : Fit s.toCp
  v0 : 0 ≤ s.v
  v1 : s.v < 256

theorem byName_all {α : Type} (l : List (ByteArray × α)) (n : ByteArray) (d : α) (Q : α → Prop) (hd : Q d) (h : ∀ e ∈ l, Q e.2) : Q (byName l n d) := by
  unfold byName
  cases hf : l.find? (fun e => nmEq e.1 n) with
  | none => exact hd
  | some e => exact h e (List.mem_of_find?_eq_some hf)

theorem orV_le (a m : Int) (h0 : 0 ≤ a) (h1 : a < 256) (g0 : 0 ≤ m) (g1 : m < 256) : 0 ≤ orV a m ∧ orV a m < 256 := by
  unfold orV
  rw [u8_or a m h0 h1 g0 g1]
  have := Nat.or_lt_two_pow (x := a.toNat) (y := m.toNat) (n := 8) (by omega) (by omega)
  omega
theorem xorV_le (a m : Int) (h0 : 0 ≤ a) (h1 : a < 256) (g0 : 0 ≤ m) (g1 : m < 256) : 0 ≤ xorV a m ∧ xorV a m < 256 := xor_le a m h0 h1 g0 g1

theorem Fit.loadA {s : Wk} (h : Fiw s) {v : Int} {b : Bool} (g : 0 ≤ v ∧ v < 256) : Fiw (loadA s v b) :=
  ⟨{ h.f with a0 := g.1, a1 := g.2, p0 := (nzP_le _ _).1, p1 := (nzP_le _ _).2, q0 := (nzS_le _ _).1, q1 := (nzS_le _ _).2, cp := clr_nzP _ _, cq := clr_nzS _ _ }, h.v0, h.v1⟩
theorem Fit.loadX {s : Wk} (h : Fiw s) {v : Int} {b : Bool} (g : 0 ≤ v ∧ v < 256) : Fiw (loadX s v b) :=
  ⟨{ h.f with x0 := g.1, x1 := g.2, p0 := (nzP_le _ _).1, p1 := (nzP_le _ _).2, q0 := (nzS_le _ _).1, q1 := (nzS_le _ _).2, cp := clr_nzP _ _, cq := clr_nzS _ _ }, h.v0, h.v1⟩
theorem Fit.loadY {s : Wk} (h : Fiw s) {v : Int} {b : Bool} (g : 0 ≤ v ∧ v < 256) : Fiw (loadY s v b) :=
  ⟨{ h.f with y0 := g.1, y1 := g.2, p0 := (nzP_le _ _).1, p1 := (nzP_le _ _).2, q0 := (nzS_le _ _).1, q1 := (nzS_le _ _).2, cp := clr_nzP _ _, cq := clr_nzS _ _ }, h.v0, h.v1⟩
theorem Fit.setX {s : Wk} (h : Fiw s) {v : Int} {b : Bool} (g : 0 ≤ v ∧ v < 256) : Fiw { s with xv := v, xb := b } :=
  ⟨{ h.f with x0 := g.1, x1 := g.2 }, h.v0, h.v1⟩
theorem Fit.setA {s : Wk} (h : Fiw s) {v : Int} {b : Bool} (g : 0 ≤ v ∧ v < 256) : Fiw { s with av := v, ab := b } :=
  ⟨{ h.f with a0 := g.1, a1 := g.2 }, h.v0, h.v1⟩
theorem Fit.setS {s : Wk} (h : Fiw s) {v : Int} {b : Bool} (g : 0 ≤ v ∧ v < 256) : Fiw { s with sv := v, sb := b } :=
  ⟨{ h.f with s0 := g.1, s1 := g.2 }, h.v0, h.v1⟩
/-- Flags that something was put over last. -/
def Fl1 (n : Int) : Prop := 0 ≤ n ∧ n < 256 ∧ clr n = n
theorem fl1_put (n b : Int) (z : Bool) : Fl1 (pbV n b z) := ⟨(pbV_le _ _ _).1, (pbV_le _ _ _).2, clr_put _ _ _⟩
theorem Fit.flags {s : Wk} (h : Fiw s) {p q : Int} (hp : Fl1 p) (hq : Fl1 q) : Fiw { s with p := p, ps := q } :=
  ⟨{ h.f with p0 := hp.1, p1 := hp.2.1, q0 := hq.1, q1 := hq.2.1, cp := hp.2.2, cq := hq.2.2 }, h.v0, h.v1⟩
theorem mod8_le (n : Int) : 0 ≤ n % 256 ∧ n % 256 < 256 := by omega
theorem fl1_pull (x : Bool) : Fl1 (pullS x) := by cases x <;> exact ⟨by decide, by decide, by decide⟩
theorem fl1_clr (n : Int) (h0 : 0 ≤ n) (h1 : n < 256) : Fl1 (clr n) := ⟨(clr_le _ h0 h1).1, (clr_le _ h0 h1).2, clr_clr _⟩

theorem Fit.alone {s : Wk} (h : Fiw s) : ∀ e ∈ aloneL, Fiw (e.2 s) := by
  intro e he
  simp only [aloneL, List.mem_cons, List.not_mem_nil, or_false] at he
  rcases he with rfl | rfl | rfl | rfl | rfl | rfl | rfl | rfl | rfl | rfl | rfl | rfl | rfl | rfl | rfl | rfl | rfl | rfl
  · exact Fit.loadX h ⟨h.f.a0, h.f.a1⟩
  · exact Fit.loadY h ⟨h.f.a0, h.f.a1⟩
  · exact Fit.loadA h ⟨h.f.x0, h.f.x1⟩
  · exact Fit.loadA h ⟨h.f.y0, h.f.y1⟩
  · exact Fit.loadX h ⟨h.f.s0, h.f.s1⟩
  · exact Fit.setS h ⟨h.f.x0, h.f.x1⟩
  · exact Fit.loadX h (mod8_le _)
  · exact Fit.loadY h (mod8_le _)
  · exact Fit.loadX h (mod8_le _)
  · exact Fit.loadY h (mod8_le _)
  · exact Fit.flags h (fl1_put _ _ _) (fl1_put _ _ _)
  · exact Fit.flags h (fl1_put _ _ _) (fl1_put _ _ _)
  · exact Fit.flags h (fl1_put _ _ _) (fl1_put _ _ _)
  · exact Fit.flags h (fl1_put _ _ _) (fl1_put _ _ _)
  · exact Fit.flags h (fl1_put _ _ _) (fl1_put _ _ _)
  · exact Fit.flags h (fl1_put _ _ _) (fl1_put _ _ _)
  · exact Fit.flags h (fl1_put _ _ _) (fl1_put _ _ _)
  · exact h
theorem Fit.adc {s : Wk} (h : Fiw s) (v : Int) (b : Bool) : Fiw (adcW s v b) := Fit.flags (Fit.setA h (adcV_le _ _ _)) (fl1_put _ _ _) (fl1_put _ _ _)
theorem Fit.sbc {s : Wk} (h : Fiw s) (v : Int) (b : Bool) : Fiw (sbcW s v b) := Fit.flags (Fit.setA h (adcV_le _ _ _)) (fl1_put _ _ _) (fl1_put _ _ _)
theorem Fit.cmp {s : Wk} (h : Fiw s) (a : Int) (x : Bool) (v : Int) (b : Bool) : Fiw (cmpW s a x v b) := Fit.flags h (fl1_put _ _ _) (fl1_put _ _ _)
theorem Fit.reads {s : Wk} (h : Fiw s) (v : Int) (b : Bool) (g : 0 ≤ v ∧ v < 256) : ∀ e ∈ readsL, Fiw (e.2 s v b) := by
  intro e he
  have o0 := orV_le s.av v h.f.a0 h.f.a1 g.1 g.2
  have o1 := bothV_le s.av v h.f.a0 h.f.a1 g.1 g.2
  have o2 := xorV_le s.av v h.f.a0 h.f.a1 g.1 g.2
  have o3 := bothV_le v s.sv g.1 g.2 h.f.s0 h.f.s1
  have o4 := orV_le s.av 238 h.f.a0 h.f.a1 (by decide) (by decide)
  have o5 := bothV_le _ v o4.1 o4.2 g.1 g.2
  have o6 := bothV_le _ s.xv o4.1 o4.2 h.f.x0 h.f.x1
  have o7 := bothV_le _ v o6.1 o6.2 g.1 g.2
  simp only [readsL, List.mem_cons, List.not_mem_nil, or_false] at he
  rcases he with rfl | rfl | rfl | rfl | rfl | rfl | rfl | rfl | rfl | rfl | rfl | rfl | rfl | rfl | rfl | rfl | rfl | rfl | rfl | rfl | rfl
  · exact Fit.loadA h g
  · exact Fit.loadX h g
  · exact Fit.loadY h g
  · exact Fit.setX (Fit.loadA h g) g
  · exact Fit.setS (Fit.setX (Fit.loadA h o3) o3) o3
  · exact Fit.loadA h o0
  · exact Fit.loadA h o1
  · exact Fit.loadA h o2
  · exact Fit.adc h _ _
  · exact Fit.sbc h _ _
  · exact Fit.cmp h _ _ _ _
  · exact Fit.cmp h _ _ _ _
  · exact Fit.cmp h _ _ _ _
  · exact Fit.flags h (fl1_put _ _ _) (fl1_put _ _ _)
  · exact Fit.flags (Fit.loadA h o1) (fl1_put _ _ _) (fl1_put _ _ _)
  · exact Fit.flags (Fit.setA (Fit.loadA (b := s.ab || b) h o1) (rightV_le _ _)) (fl1_put _ _ _) (fl1_put _ _ _)
  · exact Fit.flags (Fit.setA h (rightV_le _ _)) (fl1_put _ _ _) (fl1_put _ _ _)
  · exact Fit.flags (Fit.setX h (lessV_le _ _)) (fl1_put _ _ _) (fl1_put _ _ _)
  · exact Fit.loadA h o7
  · exact Fit.setX (Fit.loadA h o5) o5
  · exact h
def FiwV (r : Wk × Int × Bool) : Prop := Fiw r.1 ∧ 0 ≤ r.2.1 ∧ r.2.1 < 256
theorem Fit.ora {s : Wk} (h : Fiw s) (v : Int) (b : Bool) (g : 0 ≤ v ∧ v < 256) : Fiw (oraW s v b) := Fit.loadA h (orV_le s.av v h.f.a0 h.f.a1 g.1 g.2)
theorem Fit.and {s : Wk} (h : Fiw s) (v : Int) (b : Bool) (g : 0 ≤ v ∧ v < 256) : Fiw (andW s v b) := Fit.loadA h (bothV_le s.av v h.f.a0 h.f.a1 g.1 g.2)
theorem Fit.eor {s : Wk} (h : Fiw s) (v : Int) (b : Bool) (g : 0 ≤ v ∧ v < 256) : Fiw (eorW s v b) := Fit.loadA h (xorV_le s.av v h.f.a0 h.f.a1 g.1 g.2)
theorem Fit.changes {s : Wk} (h : Fiw s) (v : Int) (b : Bool) : ∀ e ∈ changesL, FiwV (e.2 s v b) := by
  intro e he
  have ka : FiwV (aslM s v b) := ⟨Fit.flags h (fl1_put _ _ _) (fl1_put _ _ _), leftV_le _ _⟩
  have kl : FiwV (lsrM s v b) := ⟨Fit.flags h (fl1_put _ _ _) (fl1_put _ _ _), rightV_le _ _⟩
  have kr : FiwV (rolM s v b) := ⟨Fit.flags h (fl1_put _ _ _) (fl1_put _ _ _), leftV_le _ _⟩
  have ko : FiwV (rorM s v b) := ⟨Fit.flags h (fl1_put _ _ _) (fl1_put _ _ _), rightV_le _ _⟩
  have ki : FiwV (incM s v b) := ⟨Fit.flags h (fl1_put _ _ _) (fl1_put _ _ _), mod8_le _⟩
  have kd : FiwV (decM s v b) := ⟨Fit.flags h (fl1_put _ _ _) (fl1_put _ _ _), mod8_le _⟩
  simp only [changesL, List.mem_cons, List.not_mem_nil, or_false] at he
  rcases he with rfl | rfl | rfl | rfl | rfl | rfl | rfl | rfl | rfl | rfl | rfl | rfl
  · exact ka
  · exact kl
  · exact kr
  · exact ko
  · exact ki
  · exact kd
  · exact ⟨Fit.ora ka.1 _ _ ka.2, ka.2⟩
  · exact ⟨Fit.and kr.1 _ _ kr.2, kr.2⟩
  · exact ⟨Fit.eor kl.1 _ _ kl.2, kl.2⟩
  · exact ⟨Fit.adc ko.1 _ _, ko.2⟩
  · exact ⟨Fit.cmp kd.1 _ _ _ _, kd.2⟩
  · exact ⟨Fit.sbc ki.1 _ _, ki.2⟩
theorem Fit.stores {s : Wk} (h : Fiw s) : ∀ e ∈ storesL, Fiw (e.2 s).1 := by
  intro e he
  simp only [storesL, List.mem_cons, List.not_mem_nil, or_false] at he
  rcases he with rfl | rfl | rfl | rfl | rfl | rfl | rfl | rfl
  all_goals first | exact h | exact Fit.setS h (bothV_le _ _ h.f.a0 h.f.a1 h.f.x0 h.f.x1)
theorem Fit.aloneM {s : Wk} (h : Fiw s) : Fiw (aloneM s) := byName_all aloneL s.nm _ (fun f => Fiw (f s)) h (Fit.alone h)
theorem Fit.readM {s : Wk} (h : Fiw s) (v : Int) (b : Bool) (g : 0 ≤ v ∧ v < 256) : Fiw (readM s v b) := byName_all readsL s.nm _ (fun f => Fiw (f s v b)) h (Fit.reads h v b g)
theorem Fit.changeM {s : Wk} (h : Fiw s) (v : Int) (b : Bool) (g : 0 ≤ v ∧ v < 256) : FiwV (changeM s v b) := byName_all changesL s.nm _ (fun f => FiwV (f s v b)) ⟨h, g⟩ (Fit.changes h v b)
theorem Fit.storeM {s : Wk} (h : Fiw s) : Fiw (storeM s).1 := byName_all storesL s.nm _ (fun f => Fiw (f s).1) h (Fit.stores h)

theorem Fit.pcM {s : Wk} (h : Fiw s) {n : Int} (g : 0 ≤ n ∧ n < 65536) : Fiw { s with pc := n } := ⟨{ h.f with pc0 := g.1, pc1 := g.2 }, h.v0, h.v1⟩
theorem Fit.adM {s : Wk} (h : Fiw s) {n : Int} (g : 0 ≤ n ∧ n < 65536) : Fiw { s with ad := n } := ⟨{ h.f with ad0 := g.1, ad1 := g.2 }, h.v0, h.v1⟩
theorem Fit.on {s : Wk} (h : Fiw s) : Fiw (onW s) := Fit.pcM h (by omega)
theorem Fit.keep {s : Wk} (h : Fiw s) : Fiw (keepW s) := ⟨{ h.f with d0 := h.v0, d1 := h.v1 }, h.v0, h.v1⟩
theorem Fit.jump {s : Wk} (h : Fiw s) : Fiw (jumpW s) := by
  have := h.f.d0; have := h.f.d1; have := h.v0; have := h.v1
  exact ⟨{ h.f with pc0 := (by show 0 ≤ s.dv + 256 * s.v; omega), pc1 := (by show s.dv + 256 * s.v < 65536; omega) }, h.v0, h.v1⟩
theorem Fit.pulled {s : Wk} (h : Fiw s) : Fiw (pulledW s) := ⟨{ h.f with s0 := (mod8_le _).1, s1 := (mod8_le _).2 }, h.v0, h.v1⟩
theorem Fit.pushed {s : Wk} (h : Fiw s) : Fiw (pushedW s) := ⟨{ h.f with s0 := (mod8_le _).1, s1 := (mod8_le _).2 }, h.v0, h.v1⟩
theorem Fit.reach {s : Wk} (h : Fiw s) (v : Int) (b : Bool) : Fiw (reachW s v b) := by
  have := h.v0; have := h.v1
  exact ⟨{ h.f with ad0 := (by show 0 ≤ (s.dv + v) % 256 + 256 * s.v; omega), ad1 := (by show (s.dv + v) % 256 + 256 * s.v < 65536; omega) }, h.v0, h.v1⟩
theorem Fit.begin {s : Wk} (h : Fiw s) : Fiw (beginW s) := by
  unfold beginW
  split
  · exact ⟨{ h.f with ad0 := (by show (0 : Int) ≤ 0; omega), ad1 := (by show (0 : Int) < 65536; omega), d0 := (by show (0 : Int) ≤ 0; omega), d1 := (by show (0 : Int) < 256; omega), op0 := h.v0, op1 := h.v1, pc0 := (by show 0 ≤ (s.pc + 1) % 65536; omega), pc1 := (by show (s.pc + 1) % 65536 < 65536; omega) }, h.v0, h.v1⟩
  · exact ⟨{ h.f with ad0 := (by show (0 : Int) ≤ 0; omega), ad1 := (by show (0 : Int) < 65536; omega), d0 := (by show (0 : Int) ≤ 0; omega), d1 := (by show (0 : Int) < 256; omega), op0 := (by show (0 : Int) ≤ 0; omega), op1 := (by show (0 : Int) < 256; omega) }, h.v0, h.v1⟩
theorem aimT_le (s : Wk) : 0 ≤ aimT s ∧ aimT s < 65536 := by unfold aimT; omega
theorem Fit.done {s : Wk} (h : Fiw s) (k : DoI) : Fiw (doM k s) := by
  have v0 := h.v0; have v1 := h.v1; have d0 := h.f.d0; have d1 := h.f.d1; have a0 := h.f.ad0; have a1 := h.f.ad1; have p0 := h.f.pc0; have p1 := h.f.pc1
  cases k <;> unfold doM <;> dsimp only
  case begin => exact Fit.begin h
  case alone => exact Fit.aloneM h
  case accA => have := Fit.changeM h s.av s.ab ⟨h.f.a0, h.f.a1⟩; exact Fit.setA this.1 this.2
  case doOn => exact Fit.on (Fit.readM h _ _ ⟨h.v0, h.v1⟩)
  case branch =>
    unfold branchW
    have := Fit.on (Fit.keep h)
    dsimp only
    split
    · exact ⟨{ this.f with }, h.v0, h.v1⟩
    · exact ⟨{ this.f with }, h.v0, h.v1⟩
  case aim =>
    have ht := aimT_le s
    unfold aimW
    dsimp only
    split
    · exact ⟨{ h.f with pc0 := ht.1, pc1 := ht.2 }, h.v0, h.v1⟩
    · exact ⟨{ h.f with ad0 := ht.1, ad1 := ht.2, pc0 := (by show 0 ≤ s.pc / 256 * 256 + aimT s % 256; omega), pc1 := (by show s.pc / 256 * 256 + aimT s % 256 < 65536; omega) }, h.v0, h.v1⟩
  case leave => exact ⟨{ h.f with pc0 := a0, pc1 := a1 }, h.v0, h.v1⟩
  case keepOn => exact Fit.on (Fit.keep h)
  case addrOn => exact ⟨{ h.f with ad0 := (by show 0 ≤ s.dv + 256 * s.v; omega), ad1 := (by show s.dv + 256 * s.v < 65536; omega), pc0 := (by show 0 ≤ (s.pc + 1) % 65536; omega), pc1 := (by show (s.pc + 1) % 65536 < 65536; omega) }, h.v0, h.v1⟩
  case keepInPage => exact Fit.adM (Fit.keep h) (by omega)
  case jump => exact Fit.jump h
  case jam => exact ⟨{ h.f with }, h.v0, h.v1⟩
  case rest => exact h
  case pushed => exact Fit.pushed h
  case pulled => exact Fit.pulled h
  case pullData => exact Fit.pulled (Fit.keep h)
  case on => exact Fit.on h
  case pullFlags => exact Fit.pulled (Fit.flags h (fl1_clr _ h.v0 h.v1) (fl1_pull _))
  case breakOn => split <;> first | exact Fit.on h | exact h
  case keep => exact Fit.keep h
  case interrupt => exact Fit.flags (Fit.jump h) (fl1_put _ _ _) (fl1_put _ _ _)
  case pullOne => split <;> first | exact Fit.flags h (fl1_clr _ h.v0 h.v1) (fl1_pull _) | exact Fit.loadA h ⟨h.v0, h.v1⟩
  case zeroOn => exact ⟨{ h.f with ad0 := (by show 0 ≤ s.v + 256 * 0; omega), ad1 := (by show s.v + 256 * 0 < 65536; omega), pc0 := (by show 0 ≤ (s.pc + 1) % 65536; omega), pc1 := (by show (s.pc + 1) % 65536 < 65536; omega) }, h.v0, h.v1⟩
  case addX => exact ⟨{ h.f with ad0 := (by show 0 ≤ (s.ad + s.xv) % 256; omega), ad1 := (by show (s.ad + s.xv) % 256 < 65536; omega) }, h.v0, h.v1⟩
  case addY => exact ⟨{ h.f with ad0 := (by show 0 ≤ (s.ad + s.yv) % 256; omega), ad1 := (by show (s.ad + s.yv) % 256 < 65536; omega) }, h.v0, h.v1⟩
  case reachX => exact Fit.on (Fit.reach h _ _)
  case reachY => exact Fit.on (Fit.reach h _ _)
  case cross =>
    unfold crossW
    split
    · exact Fit.adM h (by omega)
    · split
      · exact ⟨{ (Fit.readM h s.v s.vb ⟨h.v0, h.v1⟩).f with }, (Fit.readM h s.v s.vb ⟨h.v0, h.v1⟩).v0, (Fit.readM h s.v s.vb ⟨h.v0, h.v1⟩).v1⟩
      · exact h
  case keepInZero => exact Fit.adM (Fit.keep h) (by omega)
  case point => exact ⟨{ h.f with ad0 := (by show 0 ≤ s.dv + 256 * s.v; omega), ad1 := (by show s.dv + 256 * s.v < 65536; omega) }, h.v0, h.v1⟩
  case pointY => have := Fit.reach h s.yv s.yb; exact ⟨{ this.f with }, h.v0, h.v1⟩
  case stored => exact Fit.storeM h
  case changed => exact (Fit.changeM h s.dv s.db ⟨h.f.d0, h.f.d1⟩).1
  case does => exact Fit.readM h _ _ ⟨h.v0, h.v1⟩

/-! ### what each cycle leaves -/
structure Kp (s r : Wk) : Prop where
  t : r.t = s.t
  md : r.md = s.md
  us : r.us = s.us
  nm : r.nm = s.nm
  intr : r.intr = s.intr
  pend : r.pend = s.pend
  nmi : r.nmi = s.nmi
  got : r.got = s.got
  v : r.v = s.v
  vb : r.vb = s.vb
  ctl : s.ctl = true → r.ctl = true
/-- What is done by name leaves more. -/
structure Kn (s r : Wk) : Prop where
  k : Kp s r
  op : r.op = s.op
  jam : r.jam = s.jam
  nx : r.nx = s.nx
  pc : r.pc = s.pc
  ad : r.ad = s.ad
  cr : r.cr = s.cr
  dv : r.dv = s.dv
theorem Kn.rfl' (s : Wk) : Kn s s := ⟨⟨rfl, rfl, rfl, rfl, rfl, rfl, rfl, rfl, rfl, rfl, fun h => h⟩, rfl, rfl, rfl, rfl, rfl, rfl, rfl⟩
theorem kn_alone (s : Wk) : Kn s (aloneM s) := byName_all aloneL s.nm _ (fun f => Kn s (f s)) (Kn.rfl' s) (by
  intro e he
  simp only [aloneL, List.mem_cons, List.not_mem_nil, or_false] at he
  rcases he with rfl | rfl | rfl | rfl | rfl | rfl | rfl | rfl | rfl | rfl | rfl | rfl | rfl | rfl | rfl | rfl | rfl | rfl
  all_goals exact ⟨⟨rfl, rfl, rfl, rfl, rfl, rfl, rfl, rfl, rfl, rfl, fun h => h⟩, rfl, rfl, rfl, rfl, rfl, rfl, rfl⟩)
theorem kn_read (s : Wk) (v : Int) (b : Bool) : Kn s (readM s v b) := byName_all readsL s.nm _ (fun f => Kn s (f s v b)) (Kn.rfl' s) (by
  intro e he
  simp only [readsL, List.mem_cons, List.not_mem_nil, or_false] at he
  rcases he with rfl | rfl | rfl | rfl | rfl | rfl | rfl | rfl | rfl | rfl | rfl | rfl | rfl | rfl | rfl | rfl | rfl | rfl | rfl | rfl | rfl
  all_goals exact ⟨⟨rfl, rfl, rfl, rfl, rfl, rfl, rfl, rfl, rfl, rfl, fun h => h⟩, rfl, rfl, rfl, rfl, rfl, rfl, rfl⟩)
theorem kn_change (s : Wk) (v : Int) (b : Bool) : Kn s (changeM s v b).1 := byName_all changesL s.nm _ (fun f => Kn s (f s v b).1) (Kn.rfl' s) (by
  intro e he
  simp only [changesL, List.mem_cons, List.not_mem_nil, or_false] at he
  rcases he with rfl | rfl | rfl | rfl | rfl | rfl | rfl | rfl | rfl | rfl | rfl | rfl
  all_goals exact ⟨⟨rfl, rfl, rfl, rfl, rfl, rfl, rfl, rfl, rfl, rfl, fun h => h⟩, rfl, rfl, rfl, rfl, rfl, rfl, rfl⟩)
theorem kn_store (s : Wk) : Kn s (storeM s).1 := byName_all storesL s.nm _ (fun f => Kn s (f s).1) (Kn.rfl' s) (by
  intro e he
  simp only [storesL, List.mem_cons, List.not_mem_nil, or_false] at he
  rcases he with rfl | rfl | rfl | rfl | rfl | rfl | rfl | rfl
  all_goals exact ⟨⟨rfl, rfl, rfl, rfl, rfl, rfl, rfl, rfl, rfl, rfl, fun h => h⟩, rfl, rfl, rfl, rfl, rfl, rfl, rfl⟩)
/-- A cycle that is done: what stays, and where it goes on. -/
theorem kp_do (k : DoI) (s : Wk) : Kp s (doM k s) := by
  have H : Kp s s := (Kn.rfl' s).k
  cases k
  case alone => exact (kn_alone s).k
  case accA => exact { (kn_change s s.av s.ab).k with }
  case doOn => exact { (kn_read s s.v s.vb).k with }
  case stored => exact (kn_store s).k
  case changed => exact (kn_change s s.dv s.db).k
  case does => exact (kn_read s s.v s.vb).k
  case cross =>
    show Kp s (crossW s)
    unfold crossW
    split
    · exact { H with }
    · split
      · exact { (kn_read s s.v s.vb).k with }
      · exact H
  case begin => show Kp s (beginW s); unfold beginW; split <;> exact { H with ctl := fun h => by simp [begunW, h] }
  case branch => show Kp s (branchW s); unfold branchW; dsimp only; split <;> exact { H with ctl := fun h => by simp [onW, keepW, h] }
  case aim => show Kp s (aimW s); unfold aimW; dsimp only; split <;> exact { H with ctl := fun h => by simp [h] }
  case breakOn => show Kp s (if s.intr = 0 then onW s else s); split <;> exact { H with }
  case pullOne => show Kp s (if nmEq s.nm (S3 80 76 80) = true then _ else _); split <;> exact { H with }
  all_goals exact { H with }
theorem op_do (k : DoI) (s : Wk) (h : k ≠ .begin) : (doM k s).op = s.op := by
  cases k
  case begin => exact absurd rfl h
  case alone => exact (kn_alone s).op
  case accA => exact (kn_change s s.av s.ab).op
  case doOn => exact (kn_read s s.v s.vb).op
  case stored => exact (kn_store s).op
  case changed => exact (kn_change s s.dv s.db).op
  case does => exact (kn_read s s.v s.vb).op
  case cross =>
    show (crossW s).op = s.op
    unfold crossW
    split
    · rfl
    · split
      · exact (kn_read s s.v s.vb).op
      · rfl
  case branch => show (branchW s).op = s.op; unfold branchW; dsimp only; split <;> rfl
  case aim => show (aimW s).op = s.op; unfold aimW; dsimp only; split <;> rfl
  case breakOn => show (if s.intr = 0 then onW s else s).op = s.op; split <;> rfl
  case pullOne => show (if nmEq s.nm (S3 80 76 80) = true then _ else _ : Wk).op = s.op; split <;> rfl
  all_goals rfl
/-- Which cycles may end an instruction by themselves. -/
def DoI.ends : DoI → Bool
  | .branch | .aim | .cross | .jam => true
  | _ => false
theorem nx_do (k : DoI) (s : Wk) (h : k.ends = false) : (doM k s).nx = s.nx := by
  cases k
  case alone => exact (kn_alone s).nx
  case accA => exact (kn_change s s.av s.ab).nx
  case doOn => exact (kn_read s s.v s.vb).nx
  case stored => exact (kn_store s).nx
  case changed => exact (kn_change s s.dv s.db).nx
  case does => exact (kn_read s s.v s.vb).nx
  case cross => cases h
  case branch => cases h
  case aim => cases h
  case jam => cases h
  case begin => show (beginW s).nx = s.nx; unfold beginW; split <;> rfl
  case breakOn => show (if s.intr = 0 then onW s else s).nx = s.nx; split <;> rfl
  case pullOne => show (if nmEq s.nm (S3 80 76 80) = true then _ else _ : Wk).nx = s.nx; split <;> rfl
  all_goals rfl
theorem nx_any (k : DoI) (s : Wk) : (doM k s).nx = s.nx ∨ (doM k s).nx = 0 ∨ (doM k s).nx = s.t := by
  cases h : k.ends
  · exact .inl (nx_do k s h)
  · cases k <;> first | (cases h; done) | skip
    case branch => show (branchW s).nx = _ ∨ (branchW s).nx = _ ∨ (branchW s).nx = _; unfold branchW; dsimp only; split <;> simp [onW, keepW]
    case aim => show (aimW s).nx = _ ∨ (aimW s).nx = _ ∨ (aimW s).nx = _; unfold aimW; dsimp only; split <;> simp
    case cross =>
      show (crossW s).nx = _ ∨ (crossW s).nx = _ ∨ (crossW s).nx = _
      unfold crossW
      split
      · exact .inl rfl
      · split
        · exact .inr (.inl rfl)
        · exact .inl rfl
    case jam => exact .inr (.inr rfl)

/-! ### erased -/
theorem turnW_cp (s : Wk) : (turnW s).toCp = s.toCp := by
  by_cases h : s.t = 0
  · unfold turnW; rw [if_pos h]
  · unfold turnW; rw [if_neg h]; rfl
theorem turnW_v (s : Wk) : (turnW s).v = s.v := by
  by_cases h : s.t = 0
  · unfold turnW; rw [if_pos h]
  · unfold turnW; rw [if_neg h]; rfl
theorem tab_all (op : Int) (h0 : 0 ≤ op) (h1 : op < 256) : mostV op = ((stepsL (modeV op) (useV op)).length : Int) + 1 ∧ 2 ≤ mostV op :=
  byte_all (p := fun op => mostV op = ((stepsL (modeV op) (useV op)).length : Int) + 1 ∧ 2 ≤ mostV op) (by decide +kernel) op h0 h1
theorem steps_no_begin (md us : Int) : ∀ e ∈ stepsL md us, e.2 ≠ .begin := by
  intro e he
  have ha : ∀ e ∈ aheadL md, e.2 ≠ .begin := by
    unfold aheadL
    split; · decide
    split; · decide
    split; · decide
    split; · decide
    split; · decide
    split; · decide
    split <;> decide
  have hw : ∀ e ∈ worksL us, e.2 ≠ .begin := by
    unfold worksL
    split; · decide
    split <;> decide
  have hs : ∀ e ∈ stackL md, e.2 ≠ .begin := by
    unfold stackL
    split; · decide
    split; · decide
    split; · decide
    split; · decide
    split <;> decide
  revert e
  unfold stepsL
  split; · decide
  split; · decide
  split; · decide
  split; · decide
  split; · decide
  split; · decide
  split; · exact hs
  split; · decide
  intro e he
  rcases List.mem_append.1 he with h | h
  · exact ha e h
  · exact hw e h
theorem turnS_no_begin (s : Wk) (h : s.t ≠ 0) : (turnS s).2 ≠ .begin := by
  unfold turnS
  rw [if_neg h, List.getD_eq_getElem?_getD]
  cases hg : (stepsL (modeV s.op) (useV s.op))[(s.t - 1).toNat]? with
  | none => exact fun h => by cases h
  | some e => exact steps_no_begin _ _ e (List.mem_of_getElem? hg)
theorem okB_iff (c : Cp) : okB c = true ↔ (0 ≤ c.t ∧ c.t < mostV c.op) ∧ (0 ≤ c.intr ∧ c.intr ≤ 3) ∧ (0 ≤ c.pend ∧ c.pend ≤ 2) ∧ clr c.p = c.p ∧ clr c.ps = c.ps := by
  unfold okB
  simp only [Bool.and_eq_true, decide_eq_true_eq]
  constructor
  · rintro ⟨⟨⟨⟨⟨⟨⟨a, b⟩, c⟩, d⟩, e⟩, f⟩, g⟩, h⟩; exact ⟨⟨a, b⟩, ⟨c, d⟩, ⟨e, f⟩, g, h⟩
  · rintro ⟨⟨a, b⟩, ⟨c, d⟩, ⟨e, f⟩, g, h⟩; exact ⟨⟨⟨⟨⟨⟨⟨a, b⟩, c⟩, d⟩, e⟩, f⟩, g⟩, h⟩
theorem hear_ok (s : Wk) (i n r : Bool) (F : Fit s.toCp) (h : okB s.toCp = true) : okB (hearW s i n r).toCp = true ∧ Fit (hearW s i n r).toCp ∧ (s.ctl = true → (hearW s i n r).ctl = true) := by
  obtain ⟨⟨h1, h2⟩, ⟨h3, h4⟩, ⟨h5, h6⟩, h7, h8⟩ := (okB_iff _).1 h
  have hm := (tab_all s.op F.op0 F.op1).2
  unfold hearW
  cases r
  · refine ⟨(okB_iff _).2 ⟨⟨h1, h2⟩, ⟨h3, h4⟩, ?_, h7, h8⟩, { F with }, fun hc => by simp [hc]⟩
    dsimp only
    simp only [Bool.false_eq_true, if_false]
    split
    · omega
    · split <;> omega
  · refine ⟨(okB_iff _).2 ⟨⟨by show (0 : Int) ≤ 0; omega, by show (0 : Int) < mostV s.op; omega⟩, ⟨by show (0 : Int) ≤ 3; omega, by show (3 : Int) ≤ 3; omega⟩, ?_, h7, h8⟩, { F with }, fun hc => by simp [hc]⟩
    dsimp only
    simp only [if_true]
    split
    · omega
    · split <;> omega
theorem work_ok (c : Cp) (v : Int) (b : Bool) (F : Fit c) (h : okB c = true) (v0 : 0 ≤ v) (v1 : v < 256) : okB (endW (workM c v b)).toCp = true ∧ Fit (endW (workM c v b)).toCp ∧ (c.ctl = true → (endW (workM c v b)).ctl = true) := by
  obtain ⟨⟨h1, h2⟩, ⟨h3, h4⟩, ⟨h5, h6⟩, h7, h8⟩ := (okB_iff _).1 h
  have hm := tab_all c.op F.op0 F.op1
  have key : ∃ (k : DoI) (s : Wk), workM c v b = doM k s ∧ Fiw s ∧ s.t = c.t ∧ s.intr = c.intr ∧ s.pend = c.pend ∧ s.op = c.op ∧ (c.ctl = true → s.ctl = true) ∧ (c.t = 0 → k = .begin ∧ s.nx = 1 ∧ s.v = v) ∧ (c.t ≠ 0 → k ≠ .begin ∧ (s.nx = 0 ∨ s.nx = c.t + 1 ∧ c.t + 1 < mostV c.op)) := by
    refine ⟨_, _, rfl, ?_, ?_, ?_, ?_, ?_, ?_, ?_, ?_⟩
    · refine ⟨?_, ?_, ?_⟩
      · have F2 : Fit (turnW (emptyW c v b)).toCp := by rw [turnW_cp]; exact F
        exact { F2 with }
      · show 0 ≤ (turnW (emptyW c v b)).v; rw [turnW_v]; exact v0
      · show (turnW (emptyW c v b)).v < 256; rw [turnW_v]; exact v1
    · show (turnW (emptyW c v b)).t = c.t; rw [turnW_cp]; rfl
    · show (turnW (emptyW c v b)).intr = c.intr; rw [turnW_cp]; rfl
    · show (turnW (emptyW c v b)).pend = c.pend; rw [turnW_cp]; rfl
    · show (turnW (emptyW c v b)).op = c.op; rw [turnW_cp]; rfl
    · intro hc
      have : (turnW (emptyW c v b)).ctl = true := (congrArg Cp.ctl (turnW_cp (emptyW c v b))).trans hc
      show ((turnW (emptyW c v b)).ctl || _) = true
      rw [this]; rfl
    · intro ht
      have ht' : (emptyW c v b).t = 0 := ht
      refine ⟨?_, ?_, ?_⟩
      · show (turnS (emptyW c v b)).2 = .begin
        unfold turnS; rw [if_pos ht']
      · show (turnW (emptyW c v b)).nx = 1
        unfold turnW; rw [if_pos ht']
      · show (turnW (emptyW c v b)).v = v
        rw [turnW_v]; rfl
    · intro ht
      have ht' : ¬ (emptyW c v b).t = 0 := ht
      refine ⟨turnS_no_begin _ ht, ?_⟩
      show (turnW (emptyW c v b)).nx = 0 ∨ (turnW (emptyW c v b)).nx = c.t + 1 ∧ c.t + 1 < mostV c.op
      unfold turnW
      rw [if_neg ht']
      show (if c.t = ((stepsL (modeV c.op) (useV c.op)).length : Int) then (0 : Int) else c.t + 1) = 0 ∨ (if c.t = ((stepsL (modeV c.op) (useV c.op)).length : Int) then (0 : Int) else c.t + 1) = c.t + 1 ∧ c.t + 1 < mostV c.op
      by_cases hl : c.t = ((stepsL (modeV c.op) (useV c.op)).length : Int)
      · rw [if_pos hl]; exact .inl rfl
      · rw [if_neg hl]; exact .inr ⟨rfl, by rw [hm.1] at h2 ⊢; omega⟩
  obtain ⟨k, s, hk, Fs, et, ei, ep, eo, ec, e0, e1⟩ := key
  rw [hk]
  have K := kp_do k s
  have G := Fit.done Fs k
  have N := nx_any k s
  have hpend : (doM k s).pend = c.pend := K.pend.trans ep
  have hintr : (doM k s).intr = c.intr := K.intr.trans ei
  have ht : (doM k s).t = c.t := K.t.trans et
  have hctl : c.ctl = true → (doM k s).ctl = true := fun h => K.ctl (ec h)
  have hmost : 2 ≤ mostV (doM k s).op := (tab_all _ G.f.op0 G.f.op1).2
  have hnx : (doM k s).nx ≠ 0 → 0 ≤ (doM k s).nx ∧ (doM k s).nx < mostV (doM k s).op := by
    intro hne
    by_cases h0 : c.t = 0
    · obtain ⟨rfl, en, ev⟩ := e0 h0
      have : (doM .begin s).nx = 1 := by rw [nx_do .begin s rfl]; exact en
      rw [this]
      omega
    · obtain ⟨hb, hn⟩ := e1 h0
      have eop : (doM k s).op = c.op := (op_do k s hb).trans eo
      rw [eop]
      rcases N with N | N | N
      · rw [N] at hne ⊢
        rcases hn with hn | ⟨hn, hl⟩
        · exact absurd hn hne
        · rw [hn]; omega
      · exact absurd N hne
      · rw [N, et]; omega
  generalize doM k s = q at *
  obtain ⟨⟨f⟩, w0, w1⟩ := G
  unfold endW
  split
  · rename_i hne
    exact ⟨(okB_iff _).2 ⟨hnx hne, ⟨by show 0 ≤ q.intr; omega, by show q.intr ≤ 3; omega⟩, ⟨by show 0 ≤ q.pend; omega, by show q.pend ≤ 2; omega⟩, by assumption, by assumption⟩, by constructor <;> assumption, hctl⟩
  · split
    · exact ⟨(okB_iff _).2 ⟨⟨by show (0 : Int) ≤ 0; omega, by show (0 : Int) < mostV q.op; omega⟩, ⟨by show (0 : Int) ≤ 0; omega, by show (0 : Int) ≤ 3; omega⟩, ⟨by show 0 ≤ q.pend; omega, by show q.pend ≤ 2; omega⟩, by assumption, by assumption⟩, by constructor <;> assumption, hctl⟩
    · exact ⟨(okB_iff _).2 ⟨⟨by show (0 : Int) ≤ 0; omega, by show (0 : Int) < mostV q.op; omega⟩, ⟨by show 0 ≤ q.pend; omega, by show q.pend ≤ 3; omega⟩, ⟨by show 0 ≤ q.pend; omega, by show q.pend ≤ 2; omega⟩, by assumption, by assumption⟩, by constructor <;> assumption, hctl⟩
/-- WHAT MAY BE STAYS SO. -/
theorem take_ok (c : Cp) (v : Int) (b i n r : Bool) (F : Fit c) (h : okB c = true) (v0 : 0 ≤ v) (v1 : v < 256) : okB (takeM c v b i n r) = true ∧ Fit (takeM c v b i n r) ∧ (c.ctl = true → (takeM c v b i n r).ctl = true) := by
  obtain ⟨k1, k2, k3⟩ := work_ok c v b F h v0 v1
  obtain ⟨j1, j2, j3⟩ := hear_ok (endW (workM c v b)) i n r k2 k1
  exact ⟨j1, j2, fun hc => j3 (k3 hc)⟩
end Go.Proofs.YtbonamhinnhlnaaGreatDoor
namespace Go.Proofs.YtbonamhinnhlnaaGreatDoor
open Go.RowKit
set_option linter.unusedSimpArgs false
set_option linter.unusedVariables false

section
variable {P : Program} {ops : Array Oper} {Q : Exit → Act → World → Prop}
/-- Each operation waits for earlier ones alone, and none hangs on a test. -/
def lowB (ops : Array Oper) : Bool := (List.range ops.size).all fun k => match ops[k]? with
  | some o => o.guard.isNone && o.after.all fun e => !Region.binds .any e || decide (e.on < k)
  | none => false
def Settles (P : Program) (Q : Exit → Act → World → Prop) (S : (Nat → Bool) → Act → World → Prop) : Nat → List Oper → Prop
  | _, [] => True
  | k, o :: rest => (∀ D a w, D k = false → (∀ e ∈ o.after, Region.binds .any e = true → D e.on = true) → S D a w → o.wp P a w (S (fun j => D j || j == k)) Q) ∧ Settles P Q S (k + 1) rest
theorem settles_at {S : (Nat → Bool) → Act → World → Prop} : ∀ (l : List Oper) (k i : Nat) (o : Oper), Settles P Q S k l → l[i]? = some o →
    ∀ D a w, D (k + i) = false → (∀ e ∈ o.after, Region.binds .any e = true → D e.on = true) → S D a w → o.wp P a w (S (fun j => D j || j == k + i)) Q
  | [], _, _, _, _, h => by simp at h
  | x :: l, k, 0, o, hs, h => by
    simp at h
    subst h
    exact hs.1
  | x :: l, k, i + 1, o, hs, h => by
    have := settles_at l (k + 1) i o hs.2 (by simpa using h)
    rwa [show k + 1 + i = k + (i + 1) by omega] at this
theorem wp_region_settle {id : Nat} {a : Act} {w : World} (hm : P.follows .mixedOrders = true) (hB : lowB ops = true) (S : (Nat → Bool) → Act → World → Prop)
    (h0 : S (fun _ => false) a { w with drawn := w.drawn + 1 }) (hs : Settles P Q S 0 ops.toList)
    (hend : ∀ D a w, (∀ k, k < ops.size → D k = true) → S D a w → Q .normal a w) : (Code.region id ops true).wp P Q a w := by
  refine wp_region_any hm ?_
  have hlow : ∀ k o, ops[k]? = some o → o.guard = none ∧ ∀ e ∈ o.after, Region.binds .any e = true → e.on < k := fun k o ho => by
    have hk : k < ops.size := (Array.getElem?_eq_some_iff.1 ho).1
    have := List.all_eq_true.1 hB k (List.mem_range.2 hk)
    rw [ho] at this
    simp only [Bool.and_eq_true, Option.isNone_iff_eq_none, Array.all_eq_true_iff_forall_mem] at this
    exact ⟨this.1, fun e he hb => by have := this.2 e he; simpa [hb] using this⟩
  have key : ∀ (fuel : Nat) (listed : Array Bool) (a : Act) (w : World), listed.size = ops.size → listed.toList.count false ≤ fuel → S (fun j => listed.getD j false) a w → wpAny P .any ops Q fuel listed a w := by
    have hready : ∀ listed : Array Bool, listed.size = ops.size → Region.ready .any ops listed = [] → ∀ k, k < ops.size → listed.getD k false = true := by
      intro listed hsz hr k
      induction k using Nat.strongRecOn with
      | _ k ih =>
        intro hk
        rcases hl : listed.getD k false with _ | _
        · exfalso
          have hmem : k ∈ Region.ready .any ops listed := by
            unfold Region.ready
            rw [List.mem_filter]
            refine ⟨List.mem_range.2 hk, ?_⟩
            have hko : ops[k]? = some ops[k] := Array.getElem?_eq_getElem hk
            have hgt : listed.getD k true = false := by
              have hkl : k < listed.size := by omega
              simp [Array.getD, hkl] at hl ⊢
              exact hl
            rw [hgt, hko]
            simp only [Bool.not_false, Option.map_some, Option.getD_some, Bool.true_and, Array.all_eq_true_iff_forall_mem]
            intro e he
            cases hb : Region.binds .any e
            · rfl
            · have hlt := (hlow k _ hko).2 e he hb
              simp [ih e.on hlt (by omega)]
          rw [hr] at hmem
          cases hmem
        · rfl
    intro fuel
    induction fuel with
    | zero =>
      intro listed a w hsz hc hS
      have hall : ∀ k, k < ops.size → listed.getD k false = true := fun k hk => by
        have hkl : k < listed.size := by omega
        rcases hl : listed.getD k false with _ | _
        · exfalso
          have : 0 < listed.toList.count false := List.count_pos_iff.2 (by
            simp [Array.getD, hkl] at hl
            rw [← hl]
            simp)
          omega
        · rfl
      refine ⟨?_, hend _ _ _ hall hS⟩
      unfold Region.ready
      rw [List.filter_eq_nil_iff]
      intro i hi
      have hi := List.mem_range.1 hi
      have hil : i < listed.size := by omega
      have := hall i hi
      simp [Array.getD, hil] at this ⊢
      simp [this]
    | succ fuel ih =>
      intro listed a w hsz hc hS
      refine ⟨fun hr => hend _ _ _ (hready listed hsz hr) hS, fun i hi => ?_⟩
      unfold Region.ready at hi
      rw [List.mem_filter] at hi
      obtain ⟨hi, hr⟩ := hi
      have hi := List.mem_range.1 hi
      have hil : i < listed.size := by omega
      have hio : ops[i]? = some ops[i] := Array.getElem?_eq_getElem hi
      rw [hio] at hr
      simp only [Bool.and_eq_true, Option.map_some, Option.getD_some, Array.all_eq_true_iff_forall_mem] at hr
      obtain ⟨hr1, hr2⟩ := hr
      have hfalse : listed[i] = false := by simpa [Array.getD, hil] using hr1
      unfold wpOp
      rw [hio]
      simp only [Region.wanted, (hlow i _ hio).1, if_true]
      left
      have h1 := settles_at ops.toList 0 i ops[i] hs (by simp [hio]) (fun j => listed.getD j false) a w (by simp [Array.getD, hil, hfalse]) (fun e he hb => by have := hr2 e he; simpa [hb] using this) hS
      refine Oper.wp_mono (fun a' w' h => ih _ a' w' (by simpa using hsz) ?_ ?_) h1
      · have h2 : (listed.setIfInBounds i true).toList = listed.toList.set i true := by simp
        rw [h2, List.count_set (by simpa using hil)]
        have hpos : 0 < listed.toList.count false := List.count_pos_iff.2 (by rw [← hfalse]; simp)
        have hget : listed.toList[i]'(by simpa using hil) = false := by simpa using hfalse
        rw [hget]
        have e9 : (if (true == false) = true then 1 else 0) = (0 : Nat) := rfl
        have e8 : (if (false == false) = true then 1 else 0) = (1 : Nat) := rfl
        rw [e8, e9]
        omega
      · have h2 : (fun j => (listed.setIfInBounds i true).getD j false) = fun j => listed.getD j false || j == 0 + i := by
          funext j
          by_cases hj : j = i
          · subst hj
            simp [Array.getD, hil]
          · by_cases hjl : j < listed.size
            · simp [Array.getD, hjl, Array.getElem_setIfInBounds, Ne.symm hj, hj]
            · simp [Array.getD, hjl, hj]
        rw [h2]
        exact h
  refine key ops.size _ a _ (by simp) ?_ ?_
  · simp [List.count_replicate]
  · have : (fun j => (Array.replicate ops.size false).getD j false) = fun _ => false := by
      funext j
      by_cases hj : j < ops.size <;> simp [Array.getD, hj]
    rw [this]
    exact h0

/-- What stands in slot j where the operations of D have been done. -/
def lookS (T : Array Value) (D : Nat → Bool) : Nat → List (Option Nat × Value) → Nat → Value
  | _, [], j => T.getD j undef
  | k, x :: rest, j => if x.1 = some j then (if D k = true then x.2 else T.getD j undef) else lookS T D (k + 1) rest j
def putAll (a : Act) (vs : List (Option Nat × Value)) : Act := vs.foldl (fun a x => a.put x.1 x.2) a
def oneB (ds : List (Option Nat)) : Bool := match ds with
  | [] => true
  | d :: rest => (d.isNone || !rest.contains d) && oneB rest
theorem lookS_absent {T : Array Value} {D : Nat → Bool} {j : Nat} : ∀ (l : List (Option Nat × Value)) (k : Nat), some j ∉ l.map (·.1) → lookS T D k l j = T.getD j undef
  | [], _, _ => rfl
  | x :: l, k, h => by
    simp only [List.map_cons, List.mem_cons, not_or] at h
    unfold lookS
    rw [if_neg (fun e => h.1 e.symm), lookS_absent l (k + 1) h.2]
theorem lookS_step {T : Array Value} {D : Nat → Bool} {j : Nat} : ∀ (l : List (Option Nat × Value)) (k i : Nat) (d : Option Nat) (v : Value), oneB (l.map (·.1)) = true → l[i]? = some (d, v) →
    lookS T (fun n => D n || n == k + i) k l j = if d = some j then v else lookS T D k l j
  | [], _, _, _, _, _, h => by simp at h
  | x :: l, k, 0, d, v, ho, h => by
    simp at h
    subst h
    unfold lookS
    by_cases hd : d = some j
    · subst hd
      simp
    · simp only [hd, if_false]
      have hcong : ∀ (l : List (Option Nat × Value)) (m : Nat), k < m → lookS T (fun n => D n || n == k + 0) m l j = lookS T D m l j := by
        intro l
        induction l with
        | nil => intro m _; rfl
        | cons y l ih =>
          intro m hm
          unfold lookS
          rw [ih (m + 1) (by omega)]
          have : (m == k + 0) = false := by simp; omega
          rw [this]
          simp
      exact hcong l (k + 1) (by omega)
  | x :: l, k, i + 1, d, v, ho, h => by
    simp only [List.map_cons, oneB, Bool.and_eq_true] at ho
    have ih := lookS_step (T := T) (D := D) (j := j) l (k + 1) i d v ho.2 (by simpa using h)
    unfold lookS
    rw [show k + (i + 1) = k + 1 + i by omega, ih]
    have hk : (k == k + 1 + i) = false := by simp; omega
    rw [hk]
    by_cases hx : x.1 = some j
    · have hne : d ≠ some j := fun e => by
        have h1 : d ∈ l.map (·.1) := List.mem_map.2 ⟨(d, v), List.mem_of_getElem? (by simpa using h), rfl⟩
        have h2 := ho.1
        rw [hx] at h2
        simp only [Option.isNone_some, Bool.false_or, Bool.not_eq_true', List.contains_eq_mem, decide_eq_false_iff_not] at h2
        exact h2 (e ▸ h1)
      simp [hx, hne]
    · simp [hx]
theorem putAll_size : ∀ (l : List (Option Nat × Value)) (a : Act), (putAll a l).tmps.size = a.tmps.size ∧ (putAll a l).defers = a.defers
  | [], _ => ⟨rfl, rfl⟩
  | x :: l, a => by
    have := putAll_size l (a.put x.1 x.2)
    refine ⟨this.1.trans ?_, this.2.trans ?_⟩
    · cases hx : x.1 <;> simp [Act.put]
    · cases hx : x.1 <;> simp [Act.put]
theorem put_get (a : Act) (d : Option Nat) (v : Value) (j : Nat) (hd : ∀ n, d = some n → n < a.tmps.size) : (a.put d v).tmps.getD j undef = if d = some j then v else a.tmps.getD j undef := by
  cases d with
  | none => simp [Act.put]
  | some n =>
    have hn := hd n rfl
    by_cases hj : n = j
    · subst hj
      simp [Act.put, Array.getD, hn]
    · by_cases hjs : j < a.tmps.size
      · simp [Act.put, Array.getD, hjs, hj, Array.getElem_setIfInBounds]
      · simp [Act.put, Array.getD, hjs, hj]
theorem putAll_get {D : Nat → Bool} {j : Nat} : ∀ (l : List (Option Nat × Value)) (k : Nat) (a : Act), oneB (l.map (·.1)) = true → (∀ x ∈ l, ∀ n, x.1 = some n → n < a.tmps.size) → (∀ i, i < l.length → D (k + i) = true) →
    (putAll a l).tmps.getD j undef = lookS a.tmps D k l j
  | [], _, _, _, _, _ => rfl
  | x :: l, k, a, ho, hin, hD => by
    have ho' := ho
    simp only [List.map_cons, oneB, Bool.and_eq_true] at ho
    have hsz : (a.put x.1 x.2).tmps.size = a.tmps.size := by cases hx : x.1 <;> simp [Act.put]
    have ih := putAll_get (D := D) (j := j) l (k + 1) (a.put x.1 x.2) ho.2 (fun y hy n hn => by rw [hsz]; exact hin y (by simp [hy]) n hn) (fun i hi => by have := hD (i + 1) (by simp; omega); rwa [show k + (i + 1) = k + 1 + i by omega] at this)
    have e : putAll a (x :: l) = putAll (a.put x.1 x.2) l := rfl
    rw [e, ih]
    have hg := put_get a x.1 x.2 j (hin x (by simp))
    unfold lookS
    by_cases hx : x.1 = some j
    · have habs : some j ∉ l.map (·.1) := fun hm => by
        have h2 := ho.1
        rw [hx] at h2
        simp only [Option.isNone_some, Bool.false_or, Bool.not_eq_true', List.contains_eq_mem, decide_eq_false_iff_not] at h2
        exact h2 hm
      have h0 := hD 0 (by simp)
      simp only [Nat.add_zero] at h0
      rw [if_pos hx, if_pos h0]
      have e1 := lookS_absent (T := (a.put x.1 x.2).tmps) (D := D) l (k + 1) habs
      rw [hg, if_pos hx] at e1
      cases l with
      | nil => exact e1
      | cons y l => exact e1
    · rw [if_neg hx]
      have hcong : ∀ (l : List (Option Nat × Value)) (m : Nat), lookS (a.put x.1 x.2).tmps D m l j = lookS a.tmps D m l j := by
        intro l
        rw [if_neg hx] at hg
        induction l with
        | nil => intro m; exact hg
        | cons y l ih =>
          intro m
          unfold lookS
          rw [ih (m + 1), hg]
      have := hcong l (k + 1)
      cases l with
      | nil => exact this
      | cons y l => exact this
theorem act_eq {a b : Act} (h1 : a.tmps.size = b.tmps.size) (h2 : a.defers = b.defers) (h3 : ∀ j, a.tmps.getD j undef = b.tmps.getD j undef) : a = b := by
  obtain ⟨ta, da⟩ := a
  obtain ⟨tb, db⟩ := b
  simp only at h1 h2 h3
  subst h2
  have : ta = tb := by
    apply Array.ext h1
    intro i hi1 hi2
    have := h3 i
    simpa [Array.getD, hi1, hi2] using this
  rw [this]

def inN (N : Nat) : Option Nat → Bool
  | some n => decide (n < N)
  | none => true
theorem lookS_at {T : Array Value} {D : Nat → Bool} {j i : Nat} {v : Value} {l : List (Option Nat × Value)} (ho : oneB (l.map (·.1)) = true) (hD : D i = true) (hi : l[i]? = some (some j, v)) : lookS T D 0 l j = v := by
  have key : ∀ (l : List (Option Nat × Value)) (k i : Nat), oneB (l.map (·.1)) = true → D (k + i) = true → l[i]? = some (some j, v) → lookS T D k l j = v := by
    intro l
    induction l with
    | nil => intro k i _ _ h; simp at h
    | cons x l ih =>
      intro k i ho hD hi
      simp only [List.map_cons, oneB, Bool.and_eq_true] at ho
      cases i with
      | zero =>
        simp at hi
        subst hi
        unfold lookS
        simp only [if_true]
        rw [if_pos (by simpa using hD)]
      | succ i =>
        have h1 : l[i]? = some (some j, v) := by simpa using hi
        have hm : some j ∈ l.map (·.1) := List.mem_map.2 ⟨_, List.mem_of_getElem? h1, rfl⟩
        have hx : x.1 ≠ some j := fun e => by
          have h2 := ho.1
          rw [e] at h2
          simp only [Option.isNone_some, Bool.false_or, Bool.not_eq_true', List.contains_eq_mem, decide_eq_false_iff_not] at h2
          exact h2 hm
        unfold lookS
        rw [if_neg hx]
        exact ih (k + 1) i ho.2 (by rwa [show k + 1 + i = k + (i + 1) by omega]) h1
  exact key l 0 i ho (by rwa [Nat.zero_add]) hi
section
variable {o : Oper} {a : Act} {w : World} {K : Act → World → Prop} {n : Nat} {X : List Nat} {w0 : World} {l : List (Nat × Array Value)}
theorem wp_val (v : Value) (h : (execOp a.eval o).run P w = .ok (.value v) w) (hk : K (a.put o.dst v) w) : o.wp P a w K Q := by
  unfold Oper.wp
  rw [h]
  exact hk
theorem wp_sload (ty : TypeId) (x : Operand) (ho : o.op = .load ty x) (R off : Nat) (hx : a.eval x = .pointer (some ⟨R, off, none⟩)) (i : Nat) (H : Mem n X w0 w l) (cs sub : Array Value) (hi : l[i]? = some (R, cs))
    (hu : (P.underlying ty).map aggB = some true) (hz : (P.info? ty).map (·.size) = some sub.size) (hs : ∀ j v, sub[j]? = some v → cs[off + j]? = some v)
    (h : K (a.put o.dst (.agg sub)) w) : o.wp P a w K Q := by
  obtain ⟨t, hg⟩ := H.get hi
  unfold Oper.wp execOp
  simp only [ho, hx, Instr.loadAt, Instr.sureAddr, Sem.run_bind, Sem.run_pure, Result.andThen_ok, run_loadVar_part w R off t ty cs sub hg hu hz hs]
  exact h
theorem wp_sload1 (ty : TypeId) (x : Operand) (ho : o.op = .load ty x) (R off : Nat) (hx : a.eval x = .pointer (some ⟨R, off, none⟩)) (i : Nat) (H : Mem n X w0 w l) (cs : Array Value) (v : Value) (hi : l[i]? = some (R, cs)) (hs : cs[off]? = some v)
    (hu : (P.underlying ty).map aggB = some false) (h : K (a.put o.dst v) w) : o.wp P a w K Q := by
  obtain ⟨t, hg⟩ := H.get hi
  unfold Oper.wp execOp
  simp only [ho, hx, Instr.loadAt, Instr.sureAddr, Sem.run_bind, Sem.run_pure, Result.andThen_ok, run_loadVar_one w R off t ty cs v hg hu hs]
  exact h
theorem wp_sstoreA (ty : TypeId) (x y : Operand) (ho : o.op = .store ty x y) (hdst : o.dst = none) (R : Nat) (hx : a.eval x = .pointer (some ⟨R, 0, none⟩)) (i : Nat) (H : Mem n X w0 w l) (cs cs' : Array Value) (hi : l[i]? = some (R, cs)) (hy : a.eval y = .agg cs')
    (hz : (P.info? ty).map (·.size) = some cs'.size) (hl : cs'.size = cs.size) (h1 : cs'.all (·.oneCell') = true)
    (h : ∀ w1, Mem n X w0 w1 (l.set i (R, cs')) → K a w1) : o.wp P a w K Q := by
  obtain ⟨t, hg⟩ := H.get hi
  have hc : (splice cs.toList 0 (Value.agg cs').cells.toList).toArray = cs' := by
    have e : (Value.agg cs').cells.toList = cs'.toList := rfl
    have e2 : cs.toList.drop (0 + cs'.toList.length) = [] := List.drop_of_length_le (by simp; omega)
    unfold splice
    rw [e, e2]
    simp
  unfold Oper.wp execOp
  simp only [ho, hx, hy, Instr.storeAt, Instr.sureAddr, Sem.run_bind, Sem.run_pure, Result.andThen_ok, run_storeVar_part w R 0 t ty cs (.agg cs') hg hz (by show 0 + cs'.size ≤ _; omega) h1]
  rw [hc]
  have := h _ (H.setRow hi cs')
  simp only [Oper.upon_skip, hdst, Act.put]
  exact this
end
end
section
variable {P : Program} {Q : Exit → Act → World → Prop}
end
section
variable {n : Nat} {X : List Nat} {w0 w w1 : World} {L : List (Nat × Array Value)} {st al k b b' : Nat} {zs cs : Array Value} {D : Nat → Bool}
theorem Mem.drew (h : Mem n X w0 w L) : Mem n X w0 { w with drawn := w.drawn + 1 } L := h.next ⟨rfl, rfl, rfl, Nat.le_refl _, fun _ _ => rfl⟩
/-- One variable is made by operation al, and written by operation st. -/
def WBox (n : Nat) (X : List Nat) (w0 : World) (al st : Nat) (zs cs : Array Value) (L : List (Nat × Array Value)) (D : Nat → Bool) (b : Nat) (w : World) : Prop :=
  (D st = true → D al = true) ∧ Mem n X w0 w (if D al = true then (b, if D st = true then cs else zs) :: L else L)
theorem WBox.start (h : Mem n X w0 w L) : WBox n X w0 al st zs cs L (fun _ => false) 0 { w with drawn := w.drawn + 1 } := ⟨fun e => (by cases e), (by simpa using h.drew)⟩
theorem WBox.base (h : WBox n X w0 al st zs cs L D b w) : Mem n X w0 w L := by
  have := h.2
  split at this
  · exact this.sub (List.Sublist.cons _ (List.Sublist.refl _))
  · exact this
theorem WBox.keep (h : WBox n X w0 al st zs cs L D b w) (h1 : al ≠ k) (h2 : st ≠ k) : WBox n X w0 al st zs cs L (fun j => D j || j == k) b w := by
  have e1 : (D al || al == k) = D al := by simp [h1]
  have e2 : (D st || st == k) = D st := by simp [h2]
  unfold WBox
  simp only [e1, e2]
  exact h
theorem WBox.next (h : WBox n X w0 al st zs cs L D b w) (hb : Below w.heap.size w w1) : WBox n X w0 al st zs cs L D b w1 := ⟨h.1, h.2.next hb⟩
theorem WBox.alloc (h : WBox n X w0 al st zs cs L D b w) (hd : D al = false) (hne : st ≠ al) (hM : Mem n X w0 w1 ((b', zs) :: L)) : WBox n X w0 al st zs cs L (fun j => D j || j == al) b' w1 := by
  have e3 : D st = false := by
    rcases hs : D st with _ | _
    · rfl
    · have := h.1 hs
      rw [hd] at this
      cases this
  have e1 : (D al || al == al) = true := by simp
  have e2 : (D st || st == al) = false := by simp [e3, hne]
  unfold WBox
  simp only [e1, e2]
  exact ⟨fun _ => trivial, hM⟩
theorem WBox.on (h : WBox n X w0 al st zs cs L D b w) (hd : D al = true) (hs : D st = false) : Mem n X w0 w ((b, zs) :: L) := by
  have := h.2
  simpa [hd, hs] using this
theorem WBox.store (hd : D al = true) (hM : Mem n X w0 w1 ((b, cs) :: L)) : WBox n X w0 al st zs cs L (fun j => D j || j == st) b w1 := by
  have e1 : (D al || al == st) = true := by simp [hd]
  have e2 : (D st || st == st) = true := by simp
  unfold WBox
  simp only [e1, e2]
  exact ⟨fun _ => trivial, hM⟩
theorem WBox.done (h : WBox n X w0 al st zs cs L D b w) (hd : D al = true) (hs : D st = true) : Mem n X w0 w ((b, cs) :: L) := by
  have := h.2
  simpa [hd, hs] using this
end
end Go.Proofs.YtbonamhinnhlnaaGreatDoor
namespace Go.Proofs.YtbonamhinnhlnaaGreatDoor
open Go.RowKit
set_option linter.unusedSimpArgs false
set_option linter.unusedVariables false

section
variable {P : Program} {ops : Array Oper} {Q : Exit → Act → World → Prop}
/-- What an operation has to show. -/
def StepG {β : Type} (P : Program) (Q : Exit → Act → World → Prop) (T : Array Value) (vs : β → List (Option Nat × Value)) (W : (Nat → Bool) → β → World → Prop) (k : Nat) (o : Oper) : Prop :=
  ∀ D b a w, D k = false → (∀ e ∈ o.after, Region.binds .any e = true → D e.on = true) → (∀ j, a.tmps.getD j undef = lookS T D 0 (vs b) j) → W D b w →
    o.wp P a w (fun a' w' => ∃ b', (∀ j, lookS T D 0 (vs b') j = lookS T D 0 (vs b) j) ∧ (∃ v, (vs b')[k]? = some (o.dst, v) ∧ a' = a.put o.dst v) ∧ W (fun j => D j || j == k) b' w') Q
def StepsG {β : Type} (P : Program) (Q : Exit → Act → World → Prop) (T : Array Value) (vs : β → List (Option Nat × Value)) (W : (Nat → Bool) → β → World → Prop) : Nat → List Oper → Prop
  | _, [] => True
  | k, o :: rest => StepG P Q T vs W k o ∧ StepsG P Q T vs W (k + 1) rest
/-- **THE LAW.** b: what is not known ahead: the numbers of blocks that are made, values that a callee tells. -/
theorem wp_region_settledG {β : Type} (b0 : β) {id : Nat} {a : Act} {w : World} (hm : P.follows .mixedOrders = true) (hB : lowB ops = true) (vs : β → List (Option Nat × Value)) (W : (Nat → Bool) → β → World → Prop)
    (N : Nat) (hN : a.tmps.size = N) (h1 : ∀ b, oneB ((vs b).map (·.1)) = true) (h2b : ∀ b, ((vs b).map (·.1)).all (inN N) = true) (h3 : ∀ b, (vs b).length = ops.size)
    (h0 : W (fun _ => false) b0 { w with drawn := w.drawn + 1 }) (hs : StepsG P Q a.tmps vs W 0 ops.toList)
    (hend : ∀ D b w', (∀ k, k < ops.size → D k = true) → W D b w' → Q .normal (putAll a (vs b)) w') : (Code.region id ops true).wp P Q a w := by
  have h2 : ∀ b, ∀ x ∈ vs b, ∀ n, x.1 = some n → n < a.tmps.size := fun b x hx n hn => by
    have := List.all_eq_true.1 (h2b b) x.1 (List.mem_map.2 ⟨x, hx, rfl⟩)
    rw [hn] at this
    rw [hN]
    simpa [inN] using this
  refine wp_region_settle hm hB (fun D a' w' => ∃ b, a'.tmps.size = a.tmps.size ∧ a'.defers = a.defers ∧ (∀ j, a'.tmps.getD j undef = lookS a.tmps D 0 (vs b) j) ∧ W D b w') ⟨b0, rfl, rfl, fun j => ?_, h0⟩ ?_ ?_
  · have : ∀ (l : List (Option Nat × Value)) (k : Nat), lookS a.tmps (fun _ => false) k l j = a.tmps.getD j undef := by
      intro l
      induction l with
      | nil => intro k; rfl
      | cons x l ih => intro k; unfold lookS; rw [ih]; simp
    exact (this _ _).symm
  · have key : ∀ (l : List Oper) (k : Nat), StepsG P Q a.tmps vs W k l → Settles P Q (fun D a' w' => ∃ b, a'.tmps.size = a.tmps.size ∧ a'.defers = a.defers ∧ (∀ j, a'.tmps.getD j undef = lookS a.tmps D 0 (vs b) j) ∧ W D b w') k l := by
      intro l
      induction l with
      | nil => intro k _; trivial
      | cons o l ih =>
        intro k h
        refine ⟨fun D a' w' hk he ⟨b, hz, hdf, hl, hW⟩ => ?_, ih (k + 1) h.2⟩
        refine Oper.wp_mono (fun a2 w2 ⟨b', hb, ⟨v, hv, ha⟩, hW'⟩ => ?_) (h.1 D b a' w' hk he hl hW)
        subst ha
        have hdin : ∀ n, o.dst = some n → n < a'.tmps.size := fun n hn => by rw [hz]; exact h2 b' _ (List.mem_of_getElem? hv) n hn
        refine ⟨b', ?_, ?_, fun j => ?_, hW'⟩
        · rw [← hz]; cases hd : o.dst <;> simp [Act.put]
        · rw [← hdf]; cases hd : o.dst <;> simp [Act.put]
        · have e := lookS_step (T := a.tmps) (D := D) (j := j) (vs b') 0 k o.dst v (h1 b') hv
          rw [Nat.zero_add] at e
          rw [put_get a' o.dst v j hdin, e, hb j, hl j]
    exact key _ _ hs
  · rintro D a' w' hD ⟨b, hz, hdf, hl, hW⟩
    have e : a' = putAll a (vs b) := by
      have hp := putAll_size (vs b) a
      refine act_eq (hz.trans hp.1.symm) (hdf.trans hp.2.symm) fun j => ?_
      rw [hl j, putAll_get (D := D) (vs b) 0 a (h1 b) (h2 b) (fun i hi => by rw [Nat.zero_add]; exact hD i (by rw [← h3 b]; exact hi))]
    rw [e]
    exact hend D b w' hD hW
end
section
variable {P : Program} {Q : Exit → Act → World → Prop}
/-- A function is called, known by a contract that tells what comes back, and what holds then. -/
theorem wp_callp {o : Oper} {a : Act} {w : World} {K : Act → World → Prop} {f : FuncId} {c : Call} {vals : Array Value} {R : Ending → World → Prop} (ho : o.op = .call c) (hc : c.callee = .value (.func f)) (ha : c.args.map a.eval = vals)
    (hb : ((P.funcs[f]?).map fun fn => fn.body.isNone || fn.name == "runtime.NumGoroutine") = some false) (hC : Calls P f vals w R) (hk : ∀ e w', R e w' → ∃ v, e = .returned v ∧ K (a.put o.dst v) w') : o.wp P a w K Q := by
  obtain ⟨callee, cargs, ctypes⟩ := c
  simp only at hc ha
  subst hc
  have hr : (execOp a.eval o).run P w = .ok (.enter f vals) w := by
    unfold execOp
    rw [ho]
    have e1 : a.eval (.func f) = .func (.func f) #[] #[] := rfl
    cases hf : P.funcs[f]? with
    | none => rw [hf] at hb; simp at hb
    | some fn =>
      rw [hf] at hb
      have hb : fn.body.isNone = false ∧ ¬ fn.name = "runtime.NumGoroutine" := by simpa using hb
      obtain ⟨hb, hb2⟩ := hb
      have hb3 : ¬ fn.body = none := by intro e; rw [e] at hb; cases hb
      simp [resolve, e1, Deferred.ofValue, Sem.run_bind, Sem.run_pure, Result.andThen_ok, invoke, callFunc, run_program, hf, hb2, hb3, ha]
  unfold Oper.wp
  rw [hr, Oper.upon_enter]
  refine hC.mono ?_
  intro e w' h
  obtain ⟨v, rfl, hK⟩ := hk e w' h
  exact hK
end
end Go.Proofs.YtbonamhinnhlnaaGreatDoor
namespace Go.Proofs.YtbonamhinnhlnaaGreatDoor
open Go.RowKit Go.Sort
set_option linter.unusedSimpArgs false
set_option linter.unusedVariables false

/-- A variable, or a row: the operation that makes it, the one that writes it, the one that reads it (none: a number beyond), what its maker hands back, what it holds at first, and then, and what is read. -/
structure Bx where
  al : Nat
  st : Nat
  rd : Nat
  V : Nat → Value
  z : Array Value
  c : Array Value
  r : Value
/-- What the walk takes an operation for: a variable's number is β's; a write is nothing; what is read is known. -/
def swapO (β : Nat → Nat) (B : List Bx) (k : Nat) (o : Oper) : Oper :=
  match B.find? fun b => b.al == k with
  | some b => ⟨o.dst, .move (.const (b.V (β k))), o.type, o.pos, o.after, o.guard⟩
  | none => match B.find? fun b => b.st == k with
    | some _ => ⟨o.dst, .move (.const undef), o.type, o.pos, o.after, o.guard⟩
    | none => match B.find? fun b => b.rd == k with
      | some b => ⟨o.dst, .move (.const b.r), o.type, o.pos, o.after, o.guard⟩
      | none => o
def swapL (β : Nat → Nat) (B : List Bx) : Nat → List Oper → List Oper
  | _, [] => []
  | k, o :: r => swapO β B k o :: swapL β B (k + 1) r
theorem swapL_get (β : Nat → Nat) (B : List Bx) : ∀ (l : List Oper) (k i : Nat), (swapL β B k l)[i]? = (l[i]?).map (swapO β B (k + i))
  | [], _, _ => by simp [swapL]
  | o :: l, k, 0 => by simp [swapL]
  | o :: l, k, i + 1 => by
    simp only [swapL, List.getElem?_cons_succ]
    rw [swapL_get β B l (k + 1) i, show k + 1 + i = k + (i + 1) by omega]
theorem swapL_length (β : Nat → Nat) (B : List Bx) : ∀ (l : List Oper) (k : Nat), (swapL β B k l).length = l.length
  | [], _ => rfl
  | o :: l, k => by simp [swapL, swapL_length β B l]
theorem swapO_dst (β : Nat → Nat) (B : List Bx) (k : Nat) (o : Oper) : (swapO β B k o).dst = o.dst := by
  unfold swapO
  split
  · rfl
  · split
    · rfl
    · split <;> rfl
theorem swapO_after (β : Nat → Nat) (B : List Bx) (k : Nat) (o : Oper) : (swapO β B k o).after = o.after := by
  unfold swapO
  split
  · rfl
  · split
    · rfl
    · split <;> rfl
theorem swapO_guard (β : Nat → Nat) (B : List Bx) (k : Nat) (o : Oper) : (swapO β B k o).guard = o.guard := by
  unfold swapO
  split
  · rfl
  · split
    · rfl
    · split <;> rfl
theorem swap_ready (β : Nat → Nat) (B : List Bx) (l : List Oper) (X : Array Bool) (j : Nat) : j ∈ Region.ready .any (swapL β B 0 l).toArray X ↔ j ∈ Region.ready .any l.toArray X := by
  rw [mem_ready, mem_ready]
  have e : (swapL β B 0 l).toArray[j]? = (l.toArray[j]?).map (swapO β B j) := by
    have := swapL_get β B l 0 j
    rw [Nat.zero_add] at this
    simpa using this
  rw [e]
  constructor
  · rintro ⟨h, o, ho, ha⟩
    obtain ⟨o', ho', rfl⟩ := Option.map_eq_some_iff.1 ho
    rw [swapO_after] at ha
    exact ⟨h, o', ho', ha⟩
  · rintro ⟨h, o, ho, ha⟩
    exact ⟨h, swapO β B j o, by rw [ho]; rfl, by rw [swapO_after]; exact ha⟩
theorem swap_ready_nil (β : Nat → Nat) (B : List Bx) (l : List Oper) (X : Array Bool) : Region.ready .any (swapL β B 0 l).toArray X = [] ↔ Region.ready .any l.toArray X = [] := by
  rw [List.eq_nil_iff_forall_not_mem, List.eq_nil_iff_forall_not_mem]
  exact ⟨fun h i hi => h i ((swap_ready β B l X i).2 hi), fun h i hi => h i ((swap_ready β B l X i).1 hi)⟩
theorem swap_yielded (β : Nat → Nat) (B : List Bx) (l : List Oper) (t : Array Value) (j : Nat) : yielded (swapL β B 0 l).toArray t j = yielded l.toArray t j := by
  unfold yielded
  have e : (swapL β B 0 l).toArray[j]? = (l.toArray[j]?).map (swapO β B j) := by
    have := swapL_get β B l 0 j
    rw [Nat.zero_add] at this
    simpa using this
  rw [e]
  cases l.toArray[j]? with
  | none => rfl
  | some o => simp [swapO_dst]
theorem swap_wanted (β : Nat → Nat) (B : List Bx) (l : List Oper) (t : Array Value) (k : Nat) (o : Oper) : Region.wanted (swapO β B k o) (yielded (swapL β B 0 l).toArray t) = Region.wanted o (yielded l.toArray t) := by
  have e : yielded (swapL β B 0 l).toArray t = yielded l.toArray t := funext fun j => swap_yielded β B l t j
  rw [e]
  unfold Region.wanted
  rw [swapO_guard]

def waitsB (o : Oper) (i : Nat) : Bool := o.after.toList.any fun e => Region.binds .any e && e.on == i
/-- All that an operation looks at is made ahead of it. -/
def settledB (l : List Oper) (p : Oper) : Bool := (p.looksAt l.toArray).all fun t => (List.range l.length).all fun i => match l[i]? with
  | some o => o.dst != some t || waitsB p i
  | none => true
def bxB (l : List Oper) (b : Bx) : Bool := match l[b.al]? with
  | none => false
  | some p => p.guard.isNone && settledB l p && (match p.dst with
    | none => false
    | some d => match l[b.st]? with
      | none => true
      | some s => s.guard.isNone && s.dst.isNone && waitsB s b.al && match s.op with
        | .store _ (.tmp x) (.tmp t) => x == d && (List.range l.length).all fun i => (match l[i]? with
          | some o => o.dst != some t || waitsB s i
          | none => true)
        | .store _ (.tmp x) (.const _) => x == d
        | _ => false) && match l[b.rd]? with
          | none => true
          | some s => s.guard.isNone && waitsB s b.al && settledB l s && (l[b.st]?).isNone
def inOpB (l : List Oper) (i : Nat) : Option Nat := if i < l.length then some i else none
def rebB (P : Program) (N : Nat) (l : List Oper) (B : List Bx) : Bool :=
  B.all (bxB l) && ((List.range l.length).all fun k => match l[k]? with
    | none => true
    | some o => (o.after.toList.all fun e => !Region.binds .any e || decide (e.on < k)) && (match o.dst with
      | some d => decide (d < N)
      | none => true) && (plainOp P o || B.any fun b => b.al == k || b.st == k || b.rd == k)) && oneB (l.map (·.dst)) && oneB (B.map (fun b => inOpB l b.al) ++ (B.map (fun b => inOpB l b.st) ++ B.map fun b => inOpB l b.rd))
theorem oneB_at : ∀ {l : List (Option Nat)} {i j t : Nat}, oneB l = true → l[i]? = some (some t) → l[j]? = some (some t) → i = j
  | [], i, j, t, _, hi, _ => by simp at hi
  | x :: l, 0, 0, t, _, _, _ => rfl
  | x :: l, 0, j + 1, t, h, hi, hj => by
    simp only [oneB, Bool.and_eq_true] at h
    have h1 := h.1
    simp at hi hj
    subst hi
    simp only [Option.isNone_some, Bool.false_or, Bool.not_eq_true', List.contains_eq_mem, decide_eq_false_iff_not] at h1
    exact absurd (List.mem_of_getElem? hj) h1
  | x :: l, i + 1, 0, t, h, hi, hj => by
    simp only [oneB, Bool.and_eq_true] at h
    have h1 := h.1
    simp at hi hj
    subst hj
    simp only [Option.isNone_some, Bool.false_or, Bool.not_eq_true', List.contains_eq_mem, decide_eq_false_iff_not] at h1
    exact absurd (List.mem_of_getElem? hi) h1
  | x :: l, i + 1, j + 1, t, h, hi, hj => by
    simp only [oneB, Bool.and_eq_true] at h
    simp at hi hj
    rw [oneB_at h.2 hi hj]
theorem waitsB_of {o : Oper} {i : Nat} (h : waitsB o i = true) : ∃ e ∈ o.after, Region.binds .any e = true ∧ e.on = i := by
  unfold waitsB at h
  obtain ⟨e, he, h⟩ := List.any_eq_true.1 h
  rw [Bool.and_eq_true, beq_iff_eq] at h
  exact ⟨e, by simpa using he, h⟩

section
variable {P : Program}
/-- What is made, written and read, by the frame that is there. -/
def okOne (P : Program) (l : List Oper) (β : Nat → Nat) (a : Act) (b : Bx) : Prop :=
  (match l[b.al]? with
    | none => False
    | some p => ∃ T, ∀ w : World, (execOp a.eval p).run P w = .ok (.value (b.V w.heap.size)) (w.alloc (.cells b.z T))) ∧
  (match l[b.st]? with
    | none => b.c = b.z
    | some s => match s.op with
      | .store ty _ y => (a.eval y).cells = b.c ∧ (P.info? ty).map (·.size) = some b.c.size ∧ b.c.size = b.z.size ∧ b.c.all (·.oneCell') = true ∧ ∀ R, b.V R = ptrTo R
      | _ => False) ∧
  (match l[b.rd]? with
    | none => True
    | some p => ∀ (w : World) (T : TypeId), w.heap[β b.al]? = some (.cells b.z T) → (execOp a.eval p).run P w = .ok (.value b.r) w)
def okAll (P : Program) (l : List Oper) (β : Nat → Nat) (a : Act) : List Bx → Prop
  | [] => True
  | b :: B => okOne P l β a b ∧ okAll P l β a B
theorem okAll_mem {l : List Oper} {β : Nat → Nat} {a : Act} {b : Bx} : ∀ {B : List Bx}, okAll P l β a B → b ∈ B → okOne P l β a b
  | _ :: _, h, hb => by
    rcases List.mem_cons.1 hb with rfl | hb
    · exact h.1
    · exact okAll_mem h.2 hb

/-- From wherever the quiet walk is, it comes to an end; slots whose writers have come up stay. -/
theorem quiet_ends {ops ops0 : Array Oper} {C : World → Prop} {Post : Act → Prop} : ∀ (fuel : Nat) (X : Array Bool) (a : Act), wpAnyQ P .any ops C Post fuel X a →
    ∃ a', Post a' ∧ (∀ t, (∀ (i : Nat) (o : Oper), ops[i]? = some o → o.dst = some t → X.getD i true = true) → a'.tmps.getD t undef = a.tmps.getD t undef) ∧
      ∀ q : Oper, (∀ cs b, q.op ≠ .select cs b) → (∀ t ∈ q.looksAt ops0, ∀ (i : Nat) (o : Oper), ops[i]? = some o → o.dst = some t → X.getD i true = true) → execOp a'.eval q = execOp a.eval q
  | 0, X, a, h => ⟨a, h.2, fun _ _ => rfl, fun _ _ _ => rfl⟩
  | fuel + 1, X, a, h => by
    cases hr : Region.ready .any ops X with
    | nil => exact ⟨a, h.1 hr, fun _ _ => rfl, fun _ _ _ => rfl⟩
    | cons i r =>
      have hi : i ∈ Region.ready .any ops X := by rw [hr]; exact List.mem_cons_self
      obtain ⟨h0, o, ho, _⟩ := mem_ready.1 hi
      have hq := h.2 i hi
      have key : ∃ v, wpAnyQ P .any ops C Post fuel (X.setIfInBounds i true) (a.put o.dst v) := by
        unfold qOp at hq
        rw [ho] at hq
        simp only [] at hq
        split at hq
        · obtain ⟨v, _, hv⟩ := hq
          exact ⟨v, hv⟩
        · exact ⟨_, hq⟩
      obtain ⟨v, hv⟩ := key
      obtain ⟨a', hp, hs, hx⟩ := quiet_ends (ops0 := ops0) fuel _ _ hv
      have hne : ∀ t, (∀ (j : Nat) (q : Oper), ops[j]? = some q → q.dst = some t → X.getD j true = true) → o.dst ≠ some t := fun t ht e => by
        have := ht i o ho e
        rw [h0] at this
        cases this
      have hup : ∀ t, (∀ (j : Nat) (q : Oper), ops[j]? = some q → q.dst = some t → X.getD j true = true) → ∀ (j : Nat) (q : Oper), ops[j]? = some q → q.dst = some t → (X.setIfInBounds i true).getD j true = true := fun t ht j q hj hd => by
        by_cases e : i = j
        · subst e
          have := ht i q hj hd
          rw [h0] at this
          cases this
        · rw [getD_set_ne true e]
          exact ht j q hj hd
      refine ⟨a', hp, fun t ht => ?_, fun q hsel hl => ?_⟩
      · rw [hs t (hup t ht)]
        have := hne t ht
        cases hd : o.dst with
        | none => rfl
        | some d =>
          have : d ≠ t := fun e => this (by rw [hd, e])
          simp [Act.put, Array.getElem?_setIfInBounds_ne this]
      · rw [hx q hsel fun t ht => hup t (hl t ht)]
        exact execOp_put (ops := ops0) q hsel a _ _ fun d hd hin => hne d (hl d hin) hd

variable {l : List Oper} {B : List Bx} {N : Nat}
/-- What the check says. -/
structure RebOk (P : Program) (N : Nat) (l : List Oper) (B : List Bx) : Prop where
  box : ∀ b ∈ B, bxB l b = true
  low : ∀ (k : Nat) (o : Oper), l[k]? = some o → ∀ e ∈ o.after, Region.binds .any e = true → e.on < k
  dst : ∀ (k : Nat) (o : Oper) (d : Tmp), l[k]? = some o → o.dst = some d → d < N
  kind : ∀ (k : Nat) (o : Oper), l[k]? = some o → plainOp P o = true ∨ ∃ b ∈ B, b.al = k ∨ b.st = k ∨ b.rd = k
  one : ∀ (i j : Nat) (p q : Oper) (t : Tmp), l[i]? = some p → l[j]? = some q → p.dst = some t → q.dst = some t → i = j
  alal : ∀ b ∈ B, ∀ b' ∈ B, b.al < l.length → b.al = b'.al → b = b'
  stst : ∀ b ∈ B, ∀ b' ∈ B, b.st < l.length → b.st = b'.st → b = b'
  rdrd : ∀ b ∈ B, ∀ b' ∈ B, b.rd < l.length → b.rd = b'.rd → b = b'
  alst : ∀ b ∈ B, ∀ b' ∈ B, b.al < l.length → b.al ≠ b'.st
  alrd : ∀ b ∈ B, ∀ b' ∈ B, b.al < l.length → b.al ≠ b'.rd
  strd : ∀ b ∈ B, ∀ b' ∈ B, b.st < l.length → b.st ≠ b'.rd
theorem rebOk (h : rebB P N l B = true) : RebOk P N l B := by
  unfold rebB at h
  simp only [Bool.and_eq_true] at h
  obtain ⟨⟨⟨h1, h2⟩, h3⟩, h4⟩ := h
  have g : ∀ (k : Nat) (o : Oper), l[k]? = some o → ((o.after.toList.all fun e => !Region.binds .any e || decide (e.on < k)) = true ∧ (match o.dst with
      | some d => decide (d < N)
      | none => true) = true) ∧ (plainOp P o || B.any fun b => b.al == k || b.st == k || b.rd == k) = true := fun k o ho => by
    have hk : k < l.length := (List.getElem?_eq_some_iff.1 ho).1
    have := List.all_eq_true.1 h2 k (List.mem_range.2 hk)
    rw [ho] at this
    simpa only [Bool.and_eq_true] using this
  have inb : ∀ i, i < l.length → inOpB l i = some i := fun i hi => by unfold inOpB; rw [if_pos hi]
  have A : ∀ b ∈ B, b.al < l.length → ∃ i, B[i]? = some b ∧ i < B.length ∧ (B.map (fun b => inOpB l b.al) ++ (B.map (fun b => inOpB l b.st) ++ B.map fun b => inOpB l b.rd))[i]? = some (some b.al) := fun b hb hk => by
    obtain ⟨i, hi⟩ := List.getElem?_of_mem hb
    have hil := (List.getElem?_eq_some_iff.1 hi).1
    exact ⟨i, hi, hil, by rw [List.getElem?_append_left (by simpa using hil), List.getElem?_map, hi]; simp [inb _ hk]⟩
  have S : ∀ b ∈ B, b.st < l.length → ∃ i, B[i]? = some b ∧ i < B.length ∧ (B.map (fun b => inOpB l b.al) ++ (B.map (fun b => inOpB l b.st) ++ B.map fun b => inOpB l b.rd))[B.length + i]? = some (some b.st) := fun b hb hk => by
    obtain ⟨i, hi⟩ := List.getElem?_of_mem hb
    have hil := (List.getElem?_eq_some_iff.1 hi).1
    exact ⟨i, hi, hil, by rw [List.getElem?_append_right (by simp), List.getElem?_append_left (by simpa using hil), List.length_map, show B.length + i - B.length = i by omega, List.getElem?_map, hi]; simp [inb _ hk]⟩
  have R : ∀ b ∈ B, b.rd < l.length → ∃ i, B[i]? = some b ∧ i < B.length ∧ (B.map (fun b => inOpB l b.al) ++ (B.map (fun b => inOpB l b.st) ++ B.map fun b => inOpB l b.rd))[B.length + (B.length + i)]? = some (some b.rd) := fun b hb hk => by
    obtain ⟨i, hi⟩ := List.getElem?_of_mem hb
    have hil := (List.getElem?_eq_some_iff.1 hi).1
    exact ⟨i, hi, hil, by rw [List.getElem?_append_right (by simp), List.getElem?_append_right (by simp), List.length_map, List.length_map, show B.length + (B.length + i) - B.length - B.length = i by omega, List.getElem?_map, hi]; simp [inb _ hk]⟩
  refine ⟨List.all_eq_true.1 h1, fun k o ho e he hb => ?_, fun k o d ho hd => ?_, fun k o ho => ?_, fun i j p q t hp hq hi hj => ?_, fun b hb b' hb' hk e => ?_, fun b hb b' hb' hk e => ?_, fun b hb b' hb' hk e => ?_, fun b hb b' hb' hk e => ?_, fun b hb b' hb' hk e => ?_, fun b hb b' hb' hk e => ?_⟩
  · have := List.all_eq_true.1 (g k o ho).1.1 e (by simpa using he)
    simpa [hb] using this
  · have := (g k o ho).1.2
    rw [hd] at this
    simpa using this
  · have := (g k o ho).2
    rw [Bool.or_eq_true] at this
    rcases this with this | this
    · exact .inl this
    · obtain ⟨b, hb, e⟩ := List.any_eq_true.1 this
      simp only [Bool.or_eq_true, beq_iff_eq] at e
      exact .inr ⟨b, hb, by rcases e with (e | e) | e <;> simp [e]⟩
  · exact oneB_at (l := l.map (·.dst)) (t := t) h3 (by rw [List.getElem?_map, hp]; simp [hi]) (by rw [List.getElem?_map, hq]; simp [hj])
  · obtain ⟨i, hi, _, ei⟩ := A b hb hk
    obtain ⟨j, hj, _, ej⟩ := A b' hb' (e ▸ hk)
    rw [← e] at ej
    have := oneB_at h4 ei ej
    subst this
    exact Option.some.inj (hi.symm.trans hj)
  · obtain ⟨i, hi, _, ei⟩ := S b hb hk
    obtain ⟨j, hj, _, ej⟩ := S b' hb' (e ▸ hk)
    rw [← e] at ej
    have := oneB_at h4 ei ej
    obtain rfl : i = j := by omega
    exact Option.some.inj (hi.symm.trans hj)
  · obtain ⟨i, hi, _, ei⟩ := R b hb hk
    obtain ⟨j, hj, _, ej⟩ := R b' hb' (e ▸ hk)
    rw [← e] at ej
    have := oneB_at h4 ei ej
    obtain rfl : i = j := by omega
    exact Option.some.inj (hi.symm.trans hj)
  · obtain ⟨i, hi, _, ei⟩ := A b hb hk
    obtain ⟨j, hj, _, ej⟩ := S b' hb' (e ▸ hk)
    rw [← e] at ej
    have := oneB_at h4 ei ej
    omega
  · obtain ⟨i, hi, _, ei⟩ := A b hb hk
    obtain ⟨j, hj, _, ej⟩ := R b' hb' (e ▸ hk)
    rw [← e] at ej
    have := oneB_at h4 ei ej
    omega
  · obtain ⟨i, hi, _, ei⟩ := S b hb hk
    obtain ⟨j, hj, _, ej⟩ := R b' hb' (e ▸ hk)
    rw [← e] at ej
    have := oneB_at h4 ei ej
    omega
theorem swap_none {f : Bx → Nat} {k : Nat} (h : ∀ b ∈ B, f b ≠ k) : (B.find? fun b => f b == k) = none := by
  rw [List.find?_eq_none]
  intro b hb
  simpa using h b hb
theorem swap_some {f : Bx → Nat} {k : Nat} {b : Bx} (hb : b ∈ B) (h : f b = k) (hu : ∀ b' ∈ B, f b' = k → b' = b) : (B.find? fun b => f b == k) = some b := by
  cases hf : B.find? fun b => f b == k with
  | none =>
    rw [List.find?_eq_none] at hf
    exact absurd h (by simpa using hf b hb)
  | some b' =>
    have h1 := List.mem_of_find?_eq_some hf
    have h2 := List.find?_some hf
    rw [hu b' h1 (by simpa using h2)]
theorem swap_al (ok : RebOk P N l B) {b : Bx} (hb : b ∈ B) (hk : b.al < l.length) (β : Nat → Nat) (o : Oper) : (swapO β B b.al o).op = .move (.const (b.V (β b.al))) := by
  unfold swapO
  rw [swap_some (f := fun b => b.al) hb rfl fun b' hb' e => (ok.alal b hb b' hb' hk e.symm).symm]
theorem swap_rd (ok : RebOk P N l B) {b : Bx} (hb : b ∈ B) (hk : b.rd < l.length) (β : Nat → Nat) (o : Oper) : (swapO β B b.rd o).op = .move (.const b.r) := by
  unfold swapO
  rw [swap_none (f := fun b => b.al) fun b' hb' e => ok.alrd b' hb' b hb (e ▸ hk) e, swap_none (f := fun b => b.st) fun b' hb' e => ok.strd b' hb' b hb (e ▸ hk) e, swap_some (f := fun b => b.rd) hb rfl fun b' hb' e => (ok.rdrd b hb b' hb' hk e.symm).symm]
theorem swap_plain {k : Nat} (h : ∀ b ∈ B, b.al ≠ k ∧ b.st ≠ k ∧ b.rd ≠ k) (β : Nat → Nat) (o : Oper) : swapO β B k o = o := by
  unfold swapO
  rw [swap_none (f := fun b => b.al) fun b hb => (h b hb).1, swap_none (f := fun b => b.st) fun b hb => (h b hb).2.1, swap_none (f := fun b => b.rd) fun b hb => (h b hb).2.2]
theorem settledB_of {p : Oper} (h : settledB l p = true) : ∀ t ∈ p.looksAt l.toArray, ∀ (i : Nat) (o : Oper), l[i]? = some o → o.dst = some t → waitsB p i = true := fun t ht i o ho hd => by
  have := List.all_eq_true.1 (List.all_eq_true.1 h t ht) i (List.mem_range.2 (List.getElem?_eq_some_iff.1 ho).1)
  rw [ho] at this
  simpa [hd] using this
/-- What is known of a variable's operations. -/
theorem bx_parts {b : Bx} (h : bxB l b = true) : ∃ (p : Oper) (d : Tmp), l[b.al]? = some p ∧ p.guard = none ∧ p.dst = some d ∧ settledB l p = true ∧
    (∀ s : Oper, l[b.st]? = some s → s.guard = none ∧ s.dst = none ∧ waitsB s b.al = true ∧ ∃ ty y, s.op = .store ty (.tmp d) y ∧ ∀ t, y = .tmp t → ∀ (i : Nat) (o : Oper), l[i]? = some o → o.dst = some t → waitsB s i = true) ∧
    (∀ s : Oper, l[b.st]? = some s → ∀ ty x y, s.op = .store ty x y → (∃ t, y = .tmp t) ∨ ∃ v, y = .const v) ∧
    (∀ s : Oper, l[b.rd]? = some s → s.guard = none ∧ waitsB s b.al = true ∧ settledB l s = true ∧ l[b.st]? = none) := by
  unfold bxB at h
  cases hp : l[b.al]? with
  | none => rw [hp] at h; cases h
  | some p =>
    rw [hp] at h
    simp only [Bool.and_eq_true, Option.isNone_iff_eq_none] at h
    obtain ⟨⟨⟨hg, hse⟩, h⟩, hrd⟩ := h
    cases hd : p.dst with
    | none => rw [hd] at h; cases h
    | some d =>
      rw [hd] at h
      refine ⟨p, d, rfl, hg, hd, hse, fun s hs => ?_, fun s hs ty x y hop => ?_, fun s hs => ?_⟩
      · rw [hs] at h
        simp only [Bool.and_eq_true, Option.isNone_iff_eq_none] at h
        obtain ⟨⟨⟨h1, h2⟩, h3⟩, h4⟩ := h
        refine ⟨h1, h2, h3, ?_⟩
        split at h4
        · rename_i ty x t hop
          rw [Bool.and_eq_true, beq_iff_eq] at h4
          obtain ⟨rfl, h5⟩ := h4
          refine ⟨ty, .tmp t, hop, fun t' ht i o ho hdo => ?_⟩
          cases ht
          have := List.all_eq_true.1 h5 i (List.mem_range.2 (List.getElem?_eq_some_iff.1 ho).1)
          rw [ho] at this
          simpa [hdo] using this
        · rename_i ty x v hop
          rw [beq_iff_eq] at h4
          subst h4
          exact ⟨ty, .const v, hop, fun t' ht => by cases ht⟩
        · cases h4
      · rw [hs] at h
        simp only [Bool.and_eq_true] at h
        obtain ⟨_, h4⟩ := h
        rw [hop] at h4
        split at h4
        · rename_i e
          cases e
          exact .inl ⟨_, rfl⟩
        · rename_i e
          cases e
          exact .inr ⟨_, rfl⟩
        · cases h4
      · rw [hs] at hrd
        simp only [Bool.and_eq_true, Option.isNone_iff_eq_none] at hrd
        obtain ⟨⟨⟨h1, h2⟩, h3⟩, h4⟩ := hrd
        exact ⟨h1, h2, h3, h4⟩

/-- What a write writes. -/
def putV (l : List Oper) (st : Nat) (a : Act) : Value := match l[st]? with
  | some s => match s.op with
    | .store _ _ y => a.eval y
    | _ => undef
  | none => undef
def slotB (l : List Oper) (b : Bx) : Tmp := ((l[b.al]?).bind (·.dst)).getD 0
def contB (l : List Oper) (X : Array Bool) (a : Act) (b : Bx) : Array Value := if X.getD b.st false = true then (putV l b.st a).cells else b.z
/-- What holds of the run. -/
structure RebInv (l : List Oper) (B : List Bx) (N : Nat) (w : World) (β : Nat → Nat) (X : Array Bool) (a : Act) (w1 : World) : Prop where
  size : X.size = l.length
  slots : a.tmps.size = N
  below : Below w.heap.size w w1
  made : ∀ b ∈ B, X.getD b.al false = true → w.heap.size ≤ β b.al ∧ β b.al < w1.heap.size ∧ a.tmps.getD (slotB l b) undef = b.V (β b.al) ∧ ∃ T, w1.heap[β b.al]? = some (.cells (contB l X a b) T (0, 0))
  diff : ∀ b ∈ B, ∀ b' ∈ B, X.getD b.al false = true → X.getD b'.al false = true → β b.al = β b'.al → b = b'
theorem put_getD (a : Act) (d : Option Nat) (v : Value) (j : Nat) (h : d ≠ some j) : (a.put d v).tmps.getD j undef = a.tmps.getD j undef := by
  cases d with
  | none => rfl
  | some d =>
    have : d ≠ j := fun e => h (by rw [e])
    simp [Act.put, Array.getElem?_setIfInBounds_ne this]
theorem put_size (a : Act) (d : Option Nat) (v : Value) : (a.put d v).tmps.size = a.tmps.size := by
  cases d <;> simp [Act.put]
theorem getD_both {X : Array Bool} {i : Nat} (h : i < X.size) : X.getD i true = X.getD i false := by simp [h]
/-- What is written stays as it is while others come up. -/
theorem putV_keep (ok : RebOk P N l B) {X : Array Bool} {a : Act} {b : Bx} (hb : b ∈ B) {i : Nat} {o : Oper} {v : Value} (hi : l[i]? = some o) (hn : X.getD i false = false) (hst : ∀ s, l[b.st]? = some s → ∀ e ∈ s.after, Region.binds .any e = true → X.getD e.on false = true) :
    putV l b.st (a.put o.dst v) = putV l b.st a := by
  obtain ⟨p, d, hp, hg, hd, _, h1, h2, _⟩ := bx_parts (ok.box b hb)
  unfold putV
  cases hs : l[b.st]? with
  | none => rfl
  | some s =>
    obtain ⟨_, _, _, ty, y, hop, hy⟩ := h1 s hs
    simp only [hop]
    rcases h2 s hs ty _ y hop with ⟨t, rfl⟩ | ⟨u, rfl⟩
    · have hne : o.dst ≠ some t := fun e => by
        obtain ⟨e1, he1, hb1, hon⟩ := waitsB_of (hy t rfl i o hi e)
        have := hst s hs e1 he1 hb1
        rw [hon, hn] at this
        cases this
      have := put_getD a o.dst v t hne
      simpa [Act.eval] using this
    · rfl
theorem reb_end (ok : RebOk P N l B) {Q : Exit → Act → World → Prop} {w : World} {β : Nat → Nat} {X : Array Bool} {a : Act} {w1 : World} (h : RebInv l B N w β X a w1) (h0 : Region.ready .any l.toArray X = [])
    (hok : okAll P l β a B) : Below w.heap.size w w1 ∧ (∀ b ∈ B, w.heap.size ≤ β b.al ∧ ∃ T, w1.heap[β b.al]? = some (.cells b.c T (0, 0))) ∧ ∀ b ∈ B, ∀ b' ∈ B, β b.al = β b'.al → b = b' := by
  have hall : ∀ k, k < l.length → X.getD k true = true := by
    intro k
    induction k using Nat.strongRecOn with
    | _ k ih =>
      intro hk
      rcases hl : X.getD k true with _ | _
      · exfalso
        have hko : l[k]? = some l[k] := List.getElem?_eq_getElem hk
        have hm : k ∈ Region.ready .any l.toArray X := mem_ready.2 ⟨hl, l[k], by simp [hk], fun e he hb => by
          have hlt := ok.low k _ hko e he hb
          rw [← getD_both (by rw [h.size]; omega)]
          exact ih e.on hlt (by omega)⟩
        rw [h0] at hm
        cases hm
      · rfl
  have hal : ∀ b ∈ B, X.getD b.al false = true := fun b hb => by
    obtain ⟨p, d, hp, _⟩ := bx_parts (ok.box b hb)
    have hk := (List.getElem?_eq_some_iff.1 hp).1
    rw [← getD_both (by rw [h.size]; exact hk)]
    exact hall _ hk
  refine ⟨h.below, fun b hb => ?_, fun b hb b' hb' e => h.diff b hb b' hb' (hal b hb) (hal b' hb') e⟩
  obtain ⟨g1, g2, g3, T, g4⟩ := h.made b hb (hal b hb)
  refine ⟨g1, T, ?_⟩
  have e : contB l X a b = b.c := by
    have ho := (okAll_mem hok hb).2.1
    unfold contB putV
    cases hs : l[b.st]? with
    | none =>
      rw [hs] at ho
      have hn : ¬ b.st < l.length := fun hk => by rw [List.getElem?_eq_getElem hk] at hs; cases hs
      have : X.getD b.st false = false := by
        have hz := h.size
        simp [show ¬ b.st < X.size by omega]
      rw [this, if_neg (by decide)]
      exact ho.symm
    | some s =>
      rw [hs] at ho
      have hk := (List.getElem?_eq_some_iff.1 hs).1
      rw [← getD_both (by rw [h.size]; exact hk), hall _ hk, if_pos rfl]
      obtain ⟨_, _, _, ty, y, hop, _⟩ := (bx_parts (ok.box b hb)).choose_spec.choose_spec.2.2.2.2.1 s hs
      simp only [hop] at ho ⊢
      exact ho.1
  rw [← e]
  exact g4
theorem below_setRow {n : Nat} {w w1 : World} (h : Below n w w1) {g : Nat} (hg : n ≤ g) (cs : Array Value) : Below n w (w1.setRow g cs) :=
  ⟨h.os, h.tape, h.output, by simpa using h.size, fun k hk => (setRow_other w1 g k cs (by omega)).trans (h.block k hk)⟩
theorem swap_move {β : Nat → Nat} {k : Nat} {o : Oper} {x : Operand} {a : Act} {C : World → Prop} {w : World} {v : Value} (hop : (swapO β B k o).op = .move x) (h : (swapO β B k o).quietAt P a C w v) : v = a.eval x := by
  unfold Oper.quietAt at h
  rw [BigFrame.run_move x hop] at h
  simp only [Oper.quietUpon] at h
  exact h.2.symm
/-- **THE WALK OF ALL ORDERS.** -/
theorem reb_any (ok : RebOk P N l B) {Q : Exit → Act → World → Prop} {w : World} (hsel : ∀ (j : Nat) (o : Oper) cs b, l[j]? = some o → o.op ≠ .select cs b)
    (Fin : (Nat → Nat) → Act → World → Prop) (hfin : ∀ β a w1, Below w.heap.size w w1 → (∀ b ∈ B, w.heap.size ≤ β b.al ∧ ∃ T, w1.heap[β b.al]? = some (.cells b.c T (0, 0))) → (∀ b ∈ B, ∀ b' ∈ B, β b.al = β b'.al → b = b') → Fin β a w1) :
    ∀ (fuel : Nat) (X : Array Bool) (a : Act) (w1 : World) (β : Nat → Nat), RebInv l B N w β X a w1 →
      (∀ (k : Nat) (o : Oper), l[k]? = some o → X.getD k false = true → ∀ e ∈ o.after, Region.binds .any e = true → X.getD e.on false = true) →
      (∀ β', (∀ b ∈ B, X.getD b.al false = true → β' b.al = β b.al) → ∀ w2, Below w.heap.size w w2 → wpAnyQ P .any (swapL β' B 0 l).toArray (ClassOf w2) (fun a' => okAll P l β' a' B ∧ ∀ w', Fin β' a' w' → Q .normal a' w') fuel X a) →
      wpAny P .any l.toArray Q fuel X a w1 := by
  have finish : ∀ (X : Array Bool) (a : Act) (w1 : World) (β : Nat → Nat), RebInv l B N w β X a w1 → Region.ready .any l.toArray X = [] → (okAll P l β a B ∧ ∀ w', Fin β a w' → Q .normal a w') → Q .normal a w1 := fun X a w1 β h h0 hp => by
    obtain ⟨e1, e2, e3⟩ := reb_end ok (Q := Q) h h0 hp.1
    exact hp.2 w1 (hfin β a w1 e1 e2 e3)
  have isal : ∀ b ∈ B, ∃ p, l[b.al]? = some p ∧ p.guard = none ∧ p.dst = some (slotB l b) ∧ settledB l p = true := fun b hb => by
    obtain ⟨p, d, hp, hg, hd, hs, _⟩ := bx_parts (ok.box b hb)
    refine ⟨p, hp, hg, ?_, hs⟩
    unfold slotB
    rw [hp]
    simp [hd]
  have isst : ∀ b ∈ B, ∀ s, l[b.st]? = some s → s.guard = none ∧ s.dst = none ∧ waitsB s b.al = true ∧ ∃ ty y, s.op = .store ty (.tmp (slotB l b)) y ∧ (∀ t, y = .tmp t → ∀ (i : Nat) (o : Oper), l[i]? = some o → o.dst = some t → waitsB s i = true) ∧ ((∃ t, y = .tmp t) ∨ ∃ v, y = .const v) := fun b hb s hs => by
    obtain ⟨p, d, hp, hg, hd, _, h1, h2, _⟩ := bx_parts (ok.box b hb)
    obtain ⟨e1, e2, e3, ty, y, hop, hy⟩ := h1 s hs
    have : slotB l b = d := by
      unfold slotB
      rw [hp]
      simp [hd]
    rw [this]
    exact ⟨e1, e2, e3, ty, y, hop, hy, h2 s hs ty _ y hop⟩
  have isrd : ∀ b ∈ B, ∀ s, l[b.rd]? = some s → s.guard = none ∧ waitsB s b.al = true ∧ settledB l s = true ∧ l[b.st]? = none := fun b hb s hs => by
    obtain ⟨p, d, hp, hg, hd, _, _, _, h3⟩ := bx_parts (ok.box b hb)
    exact h3 s hs
  have ltal : ∀ b ∈ B, b.al < l.length := fun b hb => by
    obtain ⟨p, hp, _⟩ := isal b hb
    exact (List.getElem?_eq_some_iff.1 hp).1
  intro fuel
  induction fuel with
  | zero =>
    intro X a w1 β h ho H
    have h1 := H β (fun _ _ _ => rfl) w (Below.refl _ _)
    have h0 := (swap_ready_nil β B l X).1 h1.1
    exact ⟨h0, finish X a w1 β h h0 h1.2⟩
  | succ fuel ih =>
    intro X a w1 β h hcl H
    refine ⟨fun h0 => finish X a w1 β h h0 ((H β (fun _ _ _ => rfl) w (Below.refl _ _)).1 ((swap_ready_nil β B l X).2 h0)), fun i hi => ?_⟩
    obtain ⟨hn, o, ho', hedge⟩ := mem_ready.1 hi
    have ho : l[i]? = some o := by simpa using ho'
    have hil : i < l.length := (List.getElem?_eq_some_iff.1 ho).1
    have hiX : i < X.size := by rw [h.size]; exact hil
    have hn' : X.getD i false = false := by rw [← getD_both hiX]; exact hn
    have hq := fun β' hβ w2 hw2 => (H β' hβ w2 hw2).2 i ((swap_ready β' B l X i).2 hi)
    have hget : ∀ β', (swapL β' B 0 l).toArray[i]? = some (swapO β' B i o) := fun β' => by
      have := swapL_get β' B l 0 i
      rw [Nat.zero_add, ho] at this
      simpa using this
    have hset : ∀ j d, j ≠ i → (X.setIfInBounds i true).getD j d = X.getD j d := fun j d hj => getD_set_ne d (Ne.symm hj)
    have hseti : (X.setIfInBounds i true).getD i false = true := by simp [hiX]
    have hcl' : ∀ (k : Nat) (o : Oper), l[k]? = some o → (X.setIfInBounds i true).getD k false = true → ∀ e ∈ o.after, Region.binds .any e = true → (X.setIfInBounds i true).getD e.on false = true := fun k q hk hx e he hb => by
      by_cases e1 : k = i
      · subst e1
        rw [ho] at hk
        cases hk
        exact getD_set_true (hedge e he hb)
      · rw [hset k false e1] at hx
        exact getD_set_true (hcl k q hk hx e he hb)
    have hord : ∀ b ∈ B, X.getD b.st false = true → X.getD b.al false = true := fun b hb hx => by
      have hk : b.st < l.length := by
        rcases Nat.lt_or_ge b.st l.length with hk | hk
        · exact hk
        · have hz := h.size
          rw [show X.getD b.st false = false by simp [show ¬ b.st < X.size by omega]] at hx
          cases hx
      have hs : l[b.st]? = some l[b.st] := List.getElem?_eq_getElem hk
      obtain ⟨e1, he1, hb1, hon⟩ := waitsB_of (isst b hb _ hs).2.2.1
      rw [← hon]
      exact hcl _ _ hs hx e1 he1 hb1
    have keep : ∀ b ∈ B, X.getD b.st false = true → ∀ v, putV l b.st (a.put o.dst v) = putV l b.st a := fun b hb hx v =>
      putV_keep ok hb ho hn' (X := X) fun s hs e he hbd => hcl _ s hs hx e he hbd
    have cont : ∀ b ∈ B, b.st ≠ i → ∀ v, contB l (X.setIfInBounds i true) (a.put o.dst v) b = contB l X a b := fun b hb hne v => by
      unfold contB
      rw [hset _ _ hne]
      split
      · rename_i hx
        rw [keep b hb hx v]
      · rfl
    -- where all that an operation looks at has come up, it does at the end of the quiet walk what it does now
    have same : ∀ q : Oper, (∀ cs b, q.op ≠ .select cs b) → (∀ t ∈ q.looksAt l.toArray, ∀ (j : Nat) (p : Oper), l[j]? = some p → p.dst = some t → X.getD j false = true) → ∃ a2, okAll P l β a2 B ∧ execOp a2.eval q = execOp a.eval q ∧
        ∀ t, (∀ (j : Nat) (p : Oper), l[j]? = some p → p.dst = some t → X.getD j false = true) → a2.tmps.getD t undef = a.tmps.getD t undef := fun q hqs hql => by
      obtain ⟨a2, ha2, hsl, hex⟩ := quiet_ends (ops0 := l.toArray) (fuel + 1) X a (H β (fun _ _ _ => rfl) w (Below.refl _ _))
      have up : ∀ t, (∀ (j : Nat) (p : Oper), l[j]? = some p → p.dst = some t → X.getD j false = true) → ∀ (j : Nat) (p : Oper), (swapL β B 0 l).toArray[j]? = some p → p.dst = some t → X.getD j true = true := fun t ht j p hj hd => by
        have hj' : l[j]?.map (swapO β B j) = some p := by
          have := swapL_get β B l 0 j
          rw [Nat.zero_add] at this
          rw [← this]
          simpa using hj
        obtain ⟨p', hp', rfl⟩ := Option.map_eq_some_iff.1 hj'
        rw [swapO_dst] at hd
        rw [getD_both (by rw [h.size]; exact (List.getElem?_eq_some_iff.1 hp').1)]
        exact ht j p' hp' hd
      exact ⟨a2, ha2.1, hex q hqs fun t ht => up t (hql t ht), fun t ht => hsl t (up t ht)⟩
    have others : (∀ b ∈ B, b.al ≠ i) → (∀ b ∈ B, b.st ≠ i) → ∀ (v : Value) (w' : World), Below w1.heap.size w1 w' →
        (∀ β', (∀ b ∈ B, X.getD b.al false = true → β' b.al = β b.al) → ∀ w2, Below w.heap.size w w2 → wpAnyQ P .any (swapL β' B 0 l).toArray (ClassOf w2) (fun a' => okAll P l β' a' B ∧ ∀ w', Fin β' a' w' → Q .normal a' w') fuel (X.setIfInBounds i true) (a.put o.dst v)) →
        wpAny P .any l.toArray Q fuel (X.setIfInBounds i true) (a.put o.dst v) w' := fun halne hstne v w' hw' H' => by
      have hz := hw'.size
      refine ih _ _ w' β ⟨by simpa using h.size, by rw [put_size]; exact h.slots, h.below.trans (hw'.mono h.below.size), fun b hb hx => ?_, fun b hb b' hb' hx hx' he => ?_⟩ hcl' fun β' hβ w2 hw2 => H' β' (fun b hb hx => hβ b hb (by rw [hset _ _ (halne b hb)]; exact hx)) w2 hw2
      · rw [hset _ _ (halne b hb)] at hx
        obtain ⟨k1, k2, k3, T2, k4⟩ := h.made b hb hx
        obtain ⟨p1, hp1, _, hd1, _⟩ := isal b hb
        refine ⟨k1, by omega, ?_, T2, ?_⟩
        · rw [put_getD a o.dst _ _ fun e1 => halne b hb (ok.one b.al i p1 o _ hp1 ho hd1 e1)]
          exact k3
        · rw [cont b hb (hstne b hb), hw'.block _ k2]
          exact k4
      · rw [hset _ _ (halne b hb)] at hx
        rw [hset _ _ (halne b' hb')] at hx'
        exact h.diff b hb b' hb' hx hx' he
    by_cases hisal : ∃ b ∈ B, b.al = i
    · -- a variable is made
      obtain ⟨b0, hb0, hbi⟩ := hisal
      obtain ⟨p, hp, hg, hd, hse⟩ := isal b0 hb0
      rw [hbi, ho] at hp
      cases hp
      have hdN := ok.dst i o _ ho hd
      have hstne : ∀ b ∈ B, b.st ≠ i := fun b hb e => ok.alst b0 hb0 b hb (ltal b0 hb0) (hbi.trans e.symm)
      have hwd : Region.wanted o (yielded l.toArray a.tmps) = true := by
        unfold Region.wanted
        rw [hg]
      obtain ⟨a2, ha2, hex, _⟩ := same o (hsel i o · · ho) fun t ht j p hj hdj => by
        obtain ⟨e1, he1, hb1, hon⟩ := waitsB_of (settledB_of hse t ht j p hj hdj)
        rw [← hon]
        exact hedge e1 he1 hb1
      have hone := (okAll_mem ha2 hb0).1
      rw [hbi, ho] at hone
      simp only [] at hone
      obtain ⟨T, hrun⟩ := hone
      rw [hex] at hrun
      unfold wpOp
      rw [ho']
      simp only [hwd, if_true]
      left
      unfold Oper.wp
      rw [hrun w1]
      simp only [Oper.upon]
      have hnew : Below w1.heap.size w1 (w1.alloc (.cells b0.z T)) := (Below.refl _ _).alloc (Nat.le_refl _) _
      have hbz := h.below.size
      have hlast : (w1.alloc (.cells b0.z T)).heap[w1.heap.size]? = some (.cells b0.z T) := heap_alloc_new w1 _
      have hal2 : ∀ b ∈ B, b.al = i → b = b0 := fun b hb e => ok.alal b hb b0 hb0 (ltal b hb) (e.trans hbi.symm)
      refine ih _ _ _ (fun j => if j = i then w1.heap.size else β j) ⟨by simpa using h.size, by rw [put_size]; exact h.slots, h.below.trans (hnew.mono hbz), fun b hb hx => ?_, fun b hb b' hb' hx hx' he => ?_⟩ hcl' fun β' hβ w2 hw2 => ?_
      · by_cases e : b.al = i
        · obtain rfl := hal2 b hb e
          rw [if_pos e]
          refine ⟨hbz, by simp, ?_, T, ?_⟩
          · rw [hd]
            have hlt : slotB l b < a.tmps.size := by rw [h.slots]; exact hdN
            simp [Act.put, hlt]
          · rw [cont b hb (hstne b hb)]
            have hz : contB l X a b = b.z := by
              unfold contB
              rw [if_neg]
              intro hs
              have := hord b hb hs
              rw [e, hn'] at this
              cases this
            rw [hz]
            exact hlast
        · rw [hset _ _ e] at hx
          obtain ⟨g1, g2, g3, T1, g4⟩ := h.made b hb hx
          rw [if_neg e]
          refine ⟨g1, by simp; omega, ?_, T1, ?_⟩
          · obtain ⟨p1, hp1, _, hd1, _⟩ := isal b hb
            rw [put_getD a o.dst _ _ fun e1 => e (ok.one b.al i p1 o _ hp1 ho hd1 e1)]
            exact g3
          · rw [cont b hb (hstne b hb), hnew.block _ g2]
            exact g4
      · by_cases e : b.al = i
        · by_cases e' : b'.al = i
          · exact (hal2 b hb e).trans (hal2 b' hb' e').symm
          · rw [if_pos e, if_neg e'] at he
            rw [hset _ _ e'] at hx'
            have := (h.made b' hb' hx').2.1
            omega
        · by_cases e' : b'.al = i
          · rw [if_neg e, if_pos e'] at he
            rw [hset _ _ e] at hx
            have := (h.made b hb hx).2.1
            omega
          · rw [if_neg e, if_neg e'] at he
            rw [hset _ _ e] at hx
            rw [hset _ _ e'] at hx'
            exact h.diff b hb b' hb' hx hx' he
      · have hag : ∀ b ∈ B, X.getD b.al false = true → β' b.al = β b.al := fun b hb hx => by
          have hne : b.al ≠ i := fun e => by rw [e, hn'] at hx; cases hx
          have := hβ b hb (by rw [hset _ _ hne]; exact hx)
          rw [if_neg hne] at this
          exact this
        have h2 := hq β' hag w2 hw2
        unfold qOp at h2
        rw [hget β'] at h2
        simp only [swap_wanted, hwd, if_true] at h2
        obtain ⟨v, hv, hK⟩ := h2
        have hv0 := swap_move (x := .const (b0.V (β' i))) (by have := swap_al ok hb0 (ltal b0 hb0) β' o; rw [hbi] at this; exact this) (hv w2 (classOf_self w2))
        have hβi : β' i = w1.heap.size := by
          have := hβ b0 hb0 (by rw [hbi]; exact hseti)
          rw [if_pos hbi, hbi] at this
          exact this
        rw [swapO_dst, hv0, hβi] at hK
        exact hK
    · have halne : ∀ b ∈ B, b.al ≠ i := fun b hb e => hisal ⟨b, hb, e⟩
      by_cases hisst : ∃ b ∈ B, b.st = i
      · -- one is written
        obtain ⟨b0, hb0, hbi⟩ := hisst
        have hs0 : l[b0.st]? = some o := by rw [hbi]; exact ho
        obtain ⟨hg, hd, hwt, ty, y, hop', hy, hyk⟩ := isst b0 hb0 o hs0
        have hwd : Region.wanted o (yielded l.toArray a.tmps) = true := by
          unfold Region.wanted
          rw [hg]
        have hx0 : X.getD b0.al false = true := by
          obtain ⟨e1, he1, hb1, hon⟩ := waitsB_of hwt
          rw [← hon]
          exact hedge e1 he1 hb1
        obtain ⟨g1, g2, g3, T1, g4⟩ := h.made b0 hb0 hx0
        have hcz : contB l X a b0 = b0.z := by
          unfold contB
          rw [if_neg]
          rw [hbi, hn']
          decide
        rw [hcz] at g4
        obtain ⟨a2, ha2, _, hsl⟩ := same ⟨none, .ready 0, 0, "", #[], none⟩ (fun _ _ e => by cases e) (fun t ht => by simp [Oper.looksAt, Op.operands] at ht)
        have hy2 : a2.eval y = a.eval y := by
          rcases hyk with ⟨t, rfl⟩ | ⟨v, rfl⟩
          · have := hsl t fun j q' hq' hdj => by
              obtain ⟨e1, he1, hb1, hon⟩ := waitsB_of (hy t rfl j q' hq' hdj)
              rw [← hon]
              exact hedge e1 he1 hb1
            simpa [Act.eval] using this
          · rfl
        have hone := (okAll_mem ha2 hb0).2.1
        rw [hs0] at hone
        simp only [hop', hy2] at hone
        obtain ⟨hc, hz, hzs, hall1, hV⟩ := hone
        rw [hV] at g3
        have hxa : a.eval (.tmp (slotB l b0)) = .pointer (some ⟨β b0.al, 0, none⟩) := by simpa [Act.eval, ptrTo] using g3
        have hsp : (splice b0.z.toList 0 (a.eval y).cells.toList).toArray = b0.c := by
          have e2 : b0.z.toList.drop (0 + b0.c.toList.length) = [] := List.drop_of_length_le (by simp; omega)
          unfold splice
          rw [hc, e2]
          simp
        have hrun := run_storeVar_part (P := P) w1 (β b0.al) 0 T1 ty b0.z (a.eval y) g4 (by rw [hc]; exact hz) (by rw [hc, hzs]; omega) (by rw [hc]; exact hall1)
        rw [hsp] at hrun
        unfold wpOp
        rw [ho']
        simp only [hwd, if_true]
        left
        unfold Oper.wp execOp
        simp only [hop', hxa, Instr.storeAt, Instr.sureAddr, Sem.run_bind, Sem.run_pure, Result.andThen_ok, hrun, Oper.upon, hd, Act.put]
        have hst2 : ∀ b ∈ B, b.st = i → b = b0 := fun b hb e => ok.stst b hb b0 hb0 (by omega) (e.trans hbi.symm)
        refine ih _ a _ β ⟨by simpa using h.size, h.slots, below_setRow h.below g1 _, fun b hb hx => ?_, fun b hb b' hb' hx hx' he => ?_⟩ hcl' fun β' hβ w2 hw2 => ?_
        · rw [hset _ _ (halne b hb)] at hx
          obtain ⟨k1, k2, k3, T2, k4⟩ := h.made b hb hx
          refine ⟨k1, by simpa using k2, k3, ?_⟩
          by_cases e : b.st = i
          · obtain rfl := hst2 b hb e
            refine ⟨T1, ?_⟩
            have : contB l (X.setIfInBounds i true) a b = b.c := by
              unfold contB
              rw [e, hseti, if_pos rfl]
              unfold putV
              rw [ho]
              simp only [hop']
              exact hc
            rw [this]
            exact setRow_heap w1 _ _ _ T1 _ g4
          · have hne : b ≠ b0 := fun e1 => e (by rw [e1]; exact hbi)
            have hbn : β b.al ≠ β b0.al := fun e1 => hne (h.diff b hb b0 hb0 hx hx0 e1)
            have : contB l (X.setIfInBounds i true) a b = contB l X a b := by
              unfold contB
              rw [hset _ _ e]
            rw [this, setRow_other w1 _ _ _ hbn]
            exact ⟨T2, k4⟩
        · rw [hset _ _ (halne b hb)] at hx
          rw [hset _ _ (halne b' hb')] at hx'
          exact h.diff b hb b' hb' hx hx' he
        · have hag : ∀ b ∈ B, X.getD b.al false = true → β' b.al = β b.al := fun b hb hx => hβ b hb (by rw [hset _ _ (halne b hb)]; exact hx)
          have h2 := hq β' hag w2 hw2
          unfold qOp at h2
          rw [hget β'] at h2
          simp only [swap_wanted, hwd, if_true] at h2
          obtain ⟨v, hv, hK⟩ := h2
          rw [swapO_dst, hd] at hK
          exact hK
      · have hstne : ∀ b ∈ B, b.st ≠ i := fun b hb e => hisst ⟨b, hb, e⟩
        by_cases hisrd : ∃ b ∈ B, b.rd = i
        · -- one is read
          obtain ⟨b0, hb0, hbi⟩ := hisrd
          have hs0 : l[b0.rd]? = some o := by rw [hbi]; exact ho
          obtain ⟨hg, hwt, hse, hnst⟩ := isrd b0 hb0 o hs0
          have hwd : Region.wanted o (yielded l.toArray a.tmps) = true := by
            unfold Region.wanted
            rw [hg]
          have hx0 : X.getD b0.al false = true := by
            obtain ⟨e1, he1, hb1, hon⟩ := waitsB_of hwt
            rw [← hon]
            exact hedge e1 he1 hb1
          obtain ⟨g1, g2, g3, T1, g4⟩ := h.made b0 hb0 hx0
          have hcz : contB l X a b0 = b0.z := by
            unfold contB
            have hk : ¬ b0.st < l.length := fun hk => by rw [List.getElem?_eq_getElem hk] at hnst; cases hnst
            have hz := h.size
            rw [if_neg]
            simp [show ¬ b0.st < X.size by omega]
          rw [hcz] at g4
          obtain ⟨a2, ha2, hex, _⟩ := same o (hsel i o · · ho) fun t ht j p hj hdj => by
            obtain ⟨e1, he1, hb1, hon⟩ := waitsB_of (settledB_of hse t ht j p hj hdj)
            rw [← hon]
            exact hedge e1 he1 hb1
          have hone := (okAll_mem ha2 hb0).2.2
          rw [hs0] at hone
          simp only [] at hone
          have hrun := hone w1 T1 g4
          rw [hex] at hrun
          unfold wpOp
          rw [ho']
          simp only [hwd, if_true]
          left
          unfold Oper.wp
          rw [hrun]
          simp only [Oper.upon]
          refine others halne hstne b0.r w1 (Below.refl _ _) fun β' hβ w2 hw2 => ?_
          have h2 := hq β' hβ w2 hw2
          unfold qOp at h2
          rw [hget β'] at h2
          simp only [swap_wanted, hwd, if_true] at h2
          obtain ⟨v, hv, hK⟩ := h2
          have hv0 := swap_move (x := .const b0.r) (by have := swap_rd ok hb0 (by omega) β' o; rw [hbi] at this; exact this) (hv w2 (classOf_self w2))
          rw [swapO_dst, hv0] at hK
          exact hK
        · -- all others
          have hrdne : ∀ b ∈ B, b.rd ≠ i := fun b hb e => hisrd ⟨b, hb, e⟩
          have hsw : ∀ β', swapO β' B i o = o := fun β' => swap_plain (fun b hb => ⟨halne b hb, hstne b hb, hrdne b hb⟩) β' o
          have hplain : plainOp P o = true := by
            rcases ok.kind i o ho with hp | ⟨b, hb, e | e | e⟩
            · exact hp
            · exact absurd e (halne b hb)
            · exact absurd e (hstne b hb)
            · exact absurd e (hrdne b hb)
          unfold wpOp
          rw [ho']
          by_cases hwd : Region.wanted o (yielded l.toArray a.tmps) = true
          · simp only [hwd, if_true]
            have hv : ∀ β', (∀ b ∈ B, X.getD b.al false = true → β' b.al = β b.al) → ∀ w2, Below w.heap.size w w2 → ∃ v, (∀ w', ClassOf w2 w' → o.quietAt P a (ClassOf w2) w' v) ∧ wpAnyQ P .any (swapL β' B 0 l).toArray (ClassOf w2) (fun a' => okAll P l β' a' B ∧ ∀ w', Fin β' a' w' → Q .normal a' w') fuel (X.setIfInBounds i true) (a.put o.dst v) := fun β' hβ w2 hw2 => by
              have h2 := hq β' hβ w2 hw2
              unfold qOp at h2
              rw [hget β'] at h2
              simp only [swap_wanted, hwd, if_true] at h2
              rw [hsw] at h2
              exact h2
            obtain ⟨v, hv0, _⟩ := hv β (fun _ _ _ => rfl) w (Below.refl _ _)
            have H' : ∀ β', (∀ b ∈ B, X.getD b.al false = true → β' b.al = β b.al) → ∀ w2, Below w.heap.size w w2 → (∀ w', ClassOf w2 w' → o.quietAt P a (ClassOf w2) w' v) ∧ wpAnyQ P .any (swapL β' B 0 l).toArray (ClassOf w2) (fun a' => okAll P l β' a' B ∧ ∀ w', Fin β' a' w' → Q .normal a' w') fuel (X.setIfInBounds i true) (a.put o.dst v) := fun β' hβ w2 hw2 => by
              obtain ⟨v2, hv2, hK⟩ := hv β' hβ w2 hw2
              obtain rfl : v2 = v := quiet_one hplain (hv2 w2 (classOf_self w2)) (hv0 w2 (regrown_of_below hw2))
              exact ⟨hv2, hK⟩
            refine .inl (Oper.wp_of_quiet (C := ClassOf w1) (K := fun a' => a' = a.put o.dst v) (classOf_self w1) (fun a' w' hC ha => ?_) ⟨v, fun w' hC => (H' β (fun _ _ _ => rfl) w1 h.below).1 w' hC, rfl⟩)
            subst ha
            exact others halne hstne v w' (below_of_class hC) fun β' hβ w2 hw2 => (H' β' hβ w2 hw2).2
          · simp only [hwd]
            refine others halne hstne undef w1 (Below.refl _ _) fun β' hβ w2 hw2 => ?_
            have h2 := hq β' hβ w2 hw2
            unfold qOp at h2
            rw [hget β'] at h2
            simp only [swap_wanted, hwd] at h2
            rw [hsw] at h2
            exact h2

theorem Mem.put' {n : Nat} {X : List Nat} {w0 w : World} {L : List (Nat × Array Value)} (h : Mem n X w0 w L) {b : Nat} {cs : Array Value} {T : TypeId} (hn : n ≤ b) (hO : w.heap[b]? = some (.cells cs T)) (hd : b ∉ L.map (·.1)) : Mem n X w0 w ((b, cs) :: L) := by
  refine ⟨h.os, h.tape, h.output, h.size, h.base, h.block, fun x hx => ?_, fun x hx => ?_, ?_⟩
  · rcases List.mem_cons.1 hx with rfl | hx
    · exact ⟨T, hO⟩
    · exact h.row x hx
  · rcases List.mem_cons.1 hx with rfl | hx
    · exact .inl hn
    · exact h.mine x hx
  · simp only [List.map_cons, List.nodup_cons]
    exact ⟨hd, h.nodup⟩
/-- The numbers of all variables. -/
def boxesL (β : Nat → Nat) : List Bx → List (Nat × Array Value)
  | [] => []
  | b :: B => (β b.al, b.c) :: boxesL β B
theorem boxesL_nums {β : Nat → Nat} {x : Nat} : ∀ {B : List Bx}, x ∈ (boxesL β B).map (·.1) → ∃ b ∈ B, x = β b.al
  | b :: B, h => by
    simp only [boxesL, List.map_cons, List.mem_cons] at h
    rcases h with rfl | h
    · exact ⟨b, List.mem_cons_self, rfl⟩
    · obtain ⟨b', hb', e⟩ := boxesL_nums h
      exact ⟨b', List.mem_cons_of_mem _ hb', e⟩
theorem mem_boxes {n : Nat} {X : List Nat} {w0 w w1 : World} {L : List (Nat × Array Value)} {β : Nat → Nat} (H : Mem n X w0 w L) (hb : Below w.heap.size w w1) :
    ∀ B : List Bx, (∀ b ∈ B, w.heap.size ≤ β b.al ∧ ∃ T, w1.heap[β b.al]? = some (.cells b.c T (0, 0))) → (B.map (fun b => β b.al)).Nodup → Mem n X w0 w1 (boxesL β B ++ L)
  | [], _, _ => H.next hb
  | b :: B, hB, hd => by
    obtain ⟨h1, T, h2⟩ := hB b List.mem_cons_self
    simp only [List.map_cons, List.nodup_cons] at hd
    refine (mem_boxes H hb B (fun b' hb' => hB b' (List.mem_cons_of_mem _ hb')) hd.2).put' (Nat.le_trans (Nat.le_trans H.base H.size) h1) h2 fun hin => ?_
    rw [List.map_append, List.mem_append] at hin
    rcases hin with hin | hin
    · obtain ⟨b', hb', e⟩ := boxesL_nums hin
      exact hd.1 (List.mem_map.2 ⟨b', hb', e.symm⟩)
    · obtain ⟨x, hx, e⟩ := List.mem_map.1 hin
      have := H.lt hx
      omega
/-- **THE LAW.** B: the variables. Behind the region they stand ahead in the list of the blocks that are known. -/
theorem wp_region_mem {id : Nat} {Q : Exit → Act → World → Prop} {a : Act} {w w0 : World} {n : Nat} {X0 : List Nat} {L : List (Nat × Array Value)} (N : Nat) (B : List Bx) (hm : P.follows .mixedOrders = true) (hns : Region.noSelect l.toArray = true) (hN : a.tmps.size = N) (hS : rebB P N l B = true)
    (hlex : ∀ β, Region.lexB .any (swapL β B 0 l).toArray = true) (hnd : (B.map (·.al)).Nodup) (H : Mem n X0 w0 w L)
    (h : ∀ β w2, Below w.heap.size w w2 → wpQuiet P (swapL β B 0 l).toArray (fun w' => ∃ p : Regrown, w' = Go.Sort.grow (redrawn w2 p.d) p.os) (fun a' => okAll P l β a' B ∧ ∀ w', Mem n X0 w0 w' (boxesL β B ++ L) → Q .normal a' w') (swapL β B 0 l) a) :
    (Code.region id l.toArray true).wp P Q a w := by
  have ok := rebOk hS
  have hsel : ∀ (j : Nat) (o : Oper) cs b, l[j]? = some o → o.op ≠ .select cs b := fun j o cs b hj => Region.noSelect_spec hns j o cs b (by simpa using hj)
  have hwd : Below w.heap.size w { w with drawn := w.drawn + 1 } := (Below.refl _ _).drew
  have rep : ∀ i, (Array.replicate l.length false).getD i false = false := fun i => by
    rcases Nat.lt_or_ge i l.length with h | h
    · simp [h]
    · simp [show ¬ i < l.length by omega]
  refine wp_region_any hm ?_
  have e : l.toArray.size = l.length := by simp
  rw [e]
  refine reb_any (N := N) (B := B) ok (w := w) hsel (fun β a' w' => Mem n X0 w0 w' (boxesL β B ++ L)) (fun β a' w1 h1 h2 h3 => ?_) l.length _ a _ (fun _ => 0) ⟨by simp, hN, hwd, fun b _ hx => ?_, fun b _ b' _ hx _ _ => ?_⟩ (fun k o _ hx => ?_) fun β _ w2 hw2 => ?_
  · refine mem_boxes H h1 B h2 ?_
    have key : ∀ B' : List Bx, (∀ b ∈ B', b ∈ B) → (B'.map (·.al)).Nodup → (B'.map fun b => β b.al).Nodup := by
      intro B'
      induction B' with
      | nil => intro _ _; exact List.nodup_nil
      | cons b B' ih =>
        intro hs hn
        simp only [List.map_cons, List.nodup_cons] at hn ⊢
        refine ⟨fun hin => ?_, ih (fun b hb => hs b (List.mem_cons_of_mem _ hb)) hn.2⟩
        obtain ⟨b', hb', e⟩ := List.mem_map.1 hin
        have := h3 b' (hs b' (List.mem_cons_of_mem _ hb')) b (hs b List.mem_cons_self) e
        exact hn.1 (List.mem_map.2 ⟨b', hb', by rw [this]⟩)
    exact key B (fun _ hb => hb) hnd
  · rw [rep] at hx; cases hx
  · rw [rep] at hx; cases hx
  · rw [rep] at hx; cases hx
  · have hl := hlex β
    simp only [Region.lexB, Bool.and_eq_true] at hl
    have h2 := h β w2 hw2
    have hsz : (swapL β B 0 l).toArray.size = l.length := by simp [swapL_length]
    have := wpAnyQ_lex (P := P) (C := ClassOf w2) (md := .any) hl.1 (swapL β B 0 l) 0 (Array.replicate l.length false) a (by simp) (by rw [swapL_length]; rw [hsz] at hl; exact hl.2) h2
    rw [swapL_length] at this
    exact this
end
end Go.Proofs.YtbonamhinnhlnaaGreatDoor
namespace Go.Proofs.YtbonamhinnhlnaaGreatDoor
open Go.RowKit
set_option linter.unusedSimpArgs false
set_option linter.unusedVariables false

/-- What each operation gives: b k is the number of the block that operation k has made. -/
def vsOf (b : Nat → Nat) : Nat → List (Option Nat × (Nat → Value)) → List (Option Nat × Value)
  | _, [] => []
  | k, x :: r => (x.1, x.2 (b k)) :: vsOf b (k + 1) r
def upN (b : Nat → Nat) (k R : Nat) : Nat → Nat := fun j => cond (Nat.beq j k) R (b j)
def doneB (D : Nat → Bool) (k : Nat) : Nat → Bool := fun j => Nat.beq j k || D j
theorem vsOf_length (b : Nat → Nat) : ∀ (fs : List (Option Nat × (Nat → Value))) (k : Nat), (vsOf b k fs).length = fs.length
  | [], _ => rfl
  | x :: r, k => by simp [vsOf, vsOf_length b r]
theorem vsOf_map (b : Nat → Nat) : ∀ (fs : List (Option Nat × (Nat → Value))) (k : Nat), (vsOf b k fs).map (·.1) = fs.map (·.1)
  | [], _ => rfl
  | x :: r, k => by simp [vsOf, vsOf_map b r]
theorem vsOf_get (b : Nat → Nat) : ∀ (fs : List (Option Nat × (Nat → Value))) (k i : Nat) (d : Option Nat) (f : Nat → Value), fs[i]? = some (d, f) → (vsOf b k fs)[i]? = some (d, f (b (k + i)))
  | [], _, _, _, _, h => by simp at h
  | x :: r, k, 0, d, f, h => by simp at h; subst h; simp [vsOf]
  | x :: r, k, i + 1, d, f, h => by
    simp only [vsOf, List.getElem?_cons_succ]
    rw [vsOf_get b r (k + 1) i d f (by simpa using h), show k + 1 + i = k + (i + 1) by omega]
theorem nbeq (j k : Nat) : (j == k) = Nat.beq j k := by
  cases h : Nat.beq j k
  · exact beq_eq_false_iff_ne.2 (Nat.ne_of_beq_eq_false h)
  · exact beq_iff_eq.2 (Nat.eq_of_beq_eq_true h)
theorem nbeq_ne {j k : Nat} (e : j ≠ k) : Nat.beq j k = false := by rw [← nbeq]; exact beq_eq_false_iff_ne.2 e
theorem vsOf_up (b : Nat → Nat) (T : Array Value) (D : Nat → Bool) (k0 R j : Nat) (hk : D k0 = false) : ∀ (fs : List (Option Nat × (Nat → Value))) (k : Nat), lookS T D k (vsOf (upN b k0 R) k fs) j = lookS T D k (vsOf b k fs) j
  | [], _ => rfl
  | x :: r, k => by
    unfold vsOf lookS
    rw [vsOf_up b T D k0 R j hk r (k + 1)]
    by_cases e : k = k0
    · subst e
      simp [hk]
    · have : upN b k0 R k = b k := by
        unfold upN
        rw [nbeq_ne e]
        rfl
      simp [this]

section
variable {P : Program} {ops : Array Oper} {Q : Exit → Act → World → Prop}
/-- What has been done is closed: what it waits for has been done too. -/
def ClosedX (ops : Array Oper) (D : Nat → Bool) : Prop := ∀ i o, ops[i]? = some o → ∀ e ∈ o.after, Region.binds .any e = true → D i = true → D e.on = true
def StepX (ops : Array Oper) (P : Program) (Q : Exit → Act → World → Prop) (T : Array Value) (fs : List (Option Nat × (Nat → Value))) (W : (Nat → Bool) → (Nat → Nat) → World → Prop) (k : Nat) (o : Oper) (f : Nat → Value) : Prop :=
  ∀ D b a w, D k = false → ClosedX ops D → (∀ e ∈ o.after, Region.binds .any e = true → D e.on = true) → (∀ j, a.tmps.getD j undef = lookS T D 0 (vsOf b 0 fs) j) → W D b w →
    o.wp P a w (fun a' w' => ∃ R, a' = a.put o.dst (f R) ∧ W (doneB D k) (upN b k R) w') Q
def StepsX (ops : Array Oper) (P : Program) (Q : Exit → Act → World → Prop) (T : Array Value) (fs : List (Option Nat × (Nat → Value))) (W : (Nat → Bool) → (Nat → Nat) → World → Prop) : Nat → List Oper → List (Option Nat × (Nat → Value)) → Prop
  | _, [], [] => True
  | k, o :: r, x :: gs => (o.dst = x.1 ∧ StepX ops P Q T fs W k o x.2) ∧ StepsX ops P Q T fs W (k + 1) r gs
  | _, _, _ => False
theorem stepsX_len {T : Array Value} {fs : List (Option Nat × (Nat → Value))} {W : (Nat → Bool) → (Nat → Nat) → World → Prop} : ∀ (k : Nat) (l : List Oper) (gs : List (Option Nat × (Nat → Value))), StepsX ops P Q T fs W k l gs → l.length = gs.length
  | _, [], [], _ => rfl
  | k, o :: r, x :: gs, h => by
    unfold StepsX at h
    simp [stepsX_len (k + 1) r gs h.2]
  | _, [], _ :: _, h => by unfold StepsX at h; exact h.elim
  | _, _ :: _, [], h => by unfold StepsX at h; exact h.elim
theorem stepsX_G {T : Array Value} {fs : List (Option Nat × (Nat → Value))} {W : (Nat → Bool) → (Nat → Nat) → World → Prop} : ∀ (k : Nat) (l : List Oper) (gs : List (Option Nat × (Nat → Value))), (∀ i x, gs[i]? = some x → fs[k + i]? = some x) → (∀ i o, l[i]? = some o → ops[k + i]? = some o) → StepsX ops P Q T fs W k l gs → StepsG P Q T (fun b => vsOf b 0 fs) (fun D b w => ClosedX ops D ∧ W D b w) k l
  | _, [], [], _, _, _ => trivial
  | _, [], _ :: _, _, _, h => by unfold StepsX at h; exact h.elim
  | _, _ :: _, [], _, _, h => by unfold StepsX at h; exact h.elim
  | k, o :: r, x :: gs, hg, ho, h => by
    unfold StepsX at h
    refine ⟨fun D b a w hk he hl hW => ?_, stepsX_G (k + 1) r gs (fun i y hi => by have := hg (i + 1) y (by simpa using hi); rwa [show k + (i + 1) = k + 1 + i by omega] at this) (fun i y hi => by have := ho (i + 1) y (by simpa using hi); rwa [show k + (i + 1) = k + 1 + i by omega] at this) h.2⟩
    refine Oper.wp_mono (fun a' w' => ?_) (h.1.2 D b a w hk hW.1 he hl hW.2)
    rintro ⟨R, ha, hW'⟩
    have hx : fs[k]? = some (o.dst, x.2) := by
      have := hg 0 x (by simp)
      rw [Nat.add_zero] at this
      rw [this, h.1.1]
    refine ⟨upN b k R, fun j => vsOf_up b T D k R j hk fs 0, ⟨x.2 R, ?_, ha⟩, ?_⟩
    · have := vsOf_get (upN b k R) fs 0 k _ _ hx
      rw [Nat.zero_add] at this
      rw [this]
      have e : upN b k R k = R := by
        unfold upN
        rw [show Nat.beq k k = true from Nat.beq_refl k]
        rfl
      rw [e]
    · have e : (fun j => D j || j == k) = doneB D k := by
        funext j
        unfold doneB
        rw [Bool.or_comm, nbeq]
      rw [e]
      refine ⟨fun i o2 ho2 e2 he2 hb hd => ?_, hW'⟩
      unfold doneB at hd ⊢
      rw [Bool.or_eq_true] at hd ⊢
      rcases hd with hd | hd
      · obtain rfl := Nat.eq_of_beq_eq_true hd
        have hko := ho 0 o (by simp)
        rw [Nat.add_zero, ho2] at hko
        obtain rfl := Option.some.inj hko
        exact .inr (he e2 he2 hb)
      · exact .inr (hW.1 i o2 ho2 e2 he2 hb hd)
/-- **THE LAW.** -/
theorem wp_region_x {id : Nat} {a : Act} {w : World} (hm : P.follows .mixedOrders = true) (hB : lowB ops = true) (fs : List (Option Nat × (Nat → Value))) (W : (Nat → Bool) → (Nat → Nat) → World → Prop)
    (N : Nat) (hN : a.tmps.size = N) (h1 : oneB (fs.map (·.1)) = true) (h2 : (fs.map (·.1)).all (inN N) = true)
    (h0 : W (fun _ => false) (fun _ => 0) { w with drawn := w.drawn + 1 }) (hs : StepsX ops P Q a.tmps fs W 0 ops.toList fs)
    (hend : ∀ D b w', (∀ k, k < ops.size → D k = true) → W D b w' → Q .normal (putAll a (vsOf b 0 fs)) w') : (Code.region id ops true).wp P Q a w := by
  have hlen := stepsX_len _ _ _ hs
  refine wp_region_settledG (fun _ => 0) hm hB (fun b => vsOf b 0 fs) (fun D b w => ClosedX ops D ∧ W D b w) N hN (fun b => by rw [vsOf_map]; exact h1) (fun b => by rw [vsOf_map]; exact h2) (fun b => by rw [vsOf_length, ← hlen]; simp) ⟨fun i o _ e _ _ h => (by cases h), h0⟩
    (stepsX_G 0 _ _ (fun i x hi => by rw [Nat.zero_add]; exact hi) (fun i o hi => by rw [Nat.zero_add]; simpa using hi) hs) fun D b w' hD hW => hend D b w' hD hW.2
theorem ClosedX.no {ops : Array Oper} {D : Nat → Bool} {i k : Nat} {o : Oper} (h : ClosedX ops D) (g : Ground) (hk : D k = false) (ho : ops[i]? = some o) (he : (⟨k, g⟩ : Edge) ∈ o.after) (hb : Region.binds .any ⟨k, g⟩ = true) : D i = false :=
  Bool.eq_false_iff.2 fun hi => by
    have := h i o ho _ he hb hi
    rw [hk] at this
    cases this
/-- A slot that an operation of the region has filled; one that none fills. -/
theorem vsx_at {T : Array Value} {D : Nat → Bool} {b : Nat → Nat} {fs : List (Option Nat × (Nat → Value))} {i j : Nat} {f : Nat → Value} (h1 : oneB (fs.map (·.1)) = true) (hD : D i = true) (hi : fs[i]? = some (some j, f)) : lookS T D 0 (vsOf b 0 fs) j = f (b i) := by
  have := vsOf_get b fs 0 i _ _ hi
  rw [Nat.zero_add] at this
  exact lookS_at (by rw [vsOf_map]; exact h1) hD this
theorem vsx_no {T : Array Value} {D : Nat → Bool} {b : Nat → Nat} {fs : List (Option Nat × (Nat → Value))} {j : Nat} (h : (fs.map (·.1)).contains (some j) = false) : lookS T D 0 (vsOf b 0 fs) j = T.getD j undef :=
  lookS_absent _ 0 (by rw [vsOf_map]; simpa using h)
end

section
variable {n : Nat} {X : List Nat} {w0 w w' : World} {l l2 : List (Nat × Array Value)} {R : Nat} {cs : Array Value} {c : Bool} {x : Nat × Array Value}
theorem Mem.condB (h : Mem n X w0 w (cond c (x :: l) l)) : Mem n X w0 w l := by
  cases c
  · exact h
  · exact h.sub (List.Sublist.cons _ (List.Sublist.refl _))
theorem Mem.condT (hc : c = true) (h : Mem n X w0 w l) : Mem n X w0 w (cond c l l2) := by subst hc; exact h
theorem Mem.ofT (hc : c = true) (h : Mem n X w0 w (cond c l l2)) : Mem n X w0 w l := by subst hc; exact h
theorem Mem.ofF (hc : c = false) (h : Mem n X w0 w (cond c l l2)) : Mem n X w0 w l2 := by subst hc; exact h
/-- A callee that turns one listed block, beside one that may be there. -/
theorem Mem.callC (h : Mem n X w0 w (cond c (x :: l) l)) {i : Nat} (hi : l[i]? = some (R, cs)) {cs' : Array Value} (hc : Mem w.heap.size [R] w w' [(R, cs')]) : Mem n X w0 w' (cond c (x :: l.set i (R, cs')) (l.set i (R, cs'))) := by
  cases c
  · exact Mem.call h hi hc
  · exact Mem.call (i := i + 1) h (by simpa using hi) hc
end
section
variable {P : Program} {Q : Exit → Act → World → Prop} {o : Oper} {a : Act} {w : World} {K : Act → World → Prop} {n : Nat} {X : List Nat} {w0 : World} {l : List (Nat × Array Value)} {c : Bool} {x : Nat × Array Value}
theorem wp_sstoreAC (ty : TypeId) (p y : Operand) (ho : o.op = .store ty p y) (hdst : o.dst = none) (R : Nat) (hx : a.eval p = .pointer (some ⟨R, 0, none⟩)) (i : Nat) (H : Mem n X w0 w (cond c (x :: l) l)) (cs cs' : Array Value) (hi : l[i]? = some (R, cs)) (hy : a.eval y = .agg cs')
    (hz : (P.info? ty).map (·.size) = some cs'.size) (hl : cs'.size = cs.size) (h1 : cs'.all (·.oneCell') = true)
    (h : ∀ w1, Mem n X w0 w1 (cond c (x :: l.set i (R, cs')) (l.set i (R, cs'))) → K a w1) : o.wp P a w K Q := by
  cases c
  · exact wp_sstoreA ty p y ho hdst R hx i H cs cs' hi hy hz hl h1 h
  · exact wp_sstoreA ty p y ho hdst R hx (i + 1) H cs cs' (by simpa using hi) hy hz hl h1 h
theorem ex_buildN {ρ : Operand → Value} {t : TypeId} {m : Nat} {xs : Array (Nat × Operand)} {vs : Array (Nat × Value)} {V : Nat → Value} {z : Array Value} {T : TypeId} (ho : o.op = .buildSlice t m xs) (hx : xs.map (fun (i, x) => (i, ρ x)) = vs)
    (hr : ∀ w : World, (Instr.buildSlice t m vs).run P w = .ok (V w.heap.size) (w.alloc (.cells z T))) (w : World) : (execOp ρ o).run P w = .ok (.value (V w.heap.size)) (w.alloc (.cells z T)) := by
  subst hx
  unfold execOp
  simp only [ho, Sem.run_bind, Sem.run_pure, hr, Result.andThen_ok]
/-- A variable is made. -/
theorem wp_alx (T : TypeId) (ho : o.op = .alloc T) (cs : Array Value)
    (hz : ∀ w : World, (Instr.alloc T true (.tuple #[])).run P w = .ok (.pointer (some ⟨w.heap.size, 0, none⟩)) (w.alloc (.cells cs T)))
    (h : K (a.put o.dst (.pointer (some ⟨w.heap.size, 0, none⟩))) (w.alloc (.cells cs T))) : o.wp P a w K Q := by
  unfold Oper.wp execOp
  simp only [ho, Sem.run_bind, hz, Result.andThen_ok, Sem.run_pure]
  exact h
/-- A struct is read whole. -/
theorem wp_sloadA (ty : TypeId) (p : Operand) (ho : o.op = .load ty p) (R : Nat) (hx : a.eval p = .pointer (some ⟨R, 0, none⟩)) (i : Nat) {l : List (Nat × Array Value)} (H : Mem n X w0 w l) (cs : Array Value) (hi : l[i]? = some (R, cs))
    (hu : (P.underlying ty).map aggB = some true) (hz : (P.info? ty).map (·.size) = some cs.size) (h : K (a.put o.dst (.agg cs)) w) : o.wp P a w K Q :=
  wp_sload ty p ho R 0 hx i H cs cs hi hu hz (fun j v hj => by rw [Nat.zero_add]; exact hj) h
/-- A row is built of what is at hand. -/
theorem wp_row (t : TypeId) (m : Nat) (xs : Array (Nat × Operand)) (ho : o.op = .buildSlice t m xs) (vs : Array (Nat × Value)) (hx : xs.map (fun (i, x) => (i, a.eval x)) = vs) (z : Array Value) (T : TypeId)
    (hr : ∀ w : World, (Instr.buildSlice t m vs).run P w = .ok (.slice (some ⟨w.heap.size, 0, none⟩) m m) (w.alloc (.cells z T)))
    (h : K (a.put o.dst (.slice (some ⟨w.heap.size, 0, none⟩) m m)) (w.alloc (.cells z T))) : o.wp P a w K Q := by
  unfold Oper.wp
  rw [ex_buildN (V := fun R => .slice (some ⟨R, 0, none⟩) m m) ho hx hr]
  simp only [Oper.upon]
  exact h
/-- A closure is called, known by a contract. -/
theorem wp_callc {f : FuncId} {c : Call} {x : Operand} {vals caps all : Array Value} {R : Ending → World → Prop} (ho : o.op = .call c) (hc : c.callee = .value x) (hx : a.eval x = .func (.func f) #[] caps) (ha : c.args.map a.eval = vals)
    (hb : ((P.funcs[f]?).map fun fn => fn.body.isNone || fn.name == "runtime.NumGoroutine") = some false) (hall : vals ++ caps = all) (hC : Calls P f all w R) (hk : ∀ e w', R e w' → ∃ v, e = .returned v ∧ K (a.put o.dst v) w') : o.wp P a w K Q := by
  subst hall
  obtain ⟨callee, cargs, ctypes⟩ := c
  simp only at hc ha
  subst hc
  have hr : (execOp a.eval o).run P w = .ok (.enter f (vals ++ caps)) w := by
    unfold execOp
    rw [ho]
    cases hf : P.funcs[f]? with
    | none => rw [hf] at hb; simp at hb
    | some fn =>
      rw [hf] at hb
      have hb : fn.body.isNone = false ∧ ¬ fn.name = "runtime.NumGoroutine" := by simpa using hb
      obtain ⟨hb, hb2⟩ := hb
      have hb3 : ¬ fn.body = none := by intro e; rw [e] at hb; cases hb
      simp [resolve, hx, Deferred.ofValue, Sem.run_bind, Sem.run_pure, Result.andThen_ok, invoke, callFunc, run_program, hf, hb2, hb3, ha]
  unfold Oper.wp
  rw [hr, Oper.upon_enter]
  refine hC.mono ?_
  intro e w' h
  obtain ⟨v, rfl, hK⟩ := hk e w' h
  exact hK
end
section
variable {P : Program} {a : Act} {w : World} {n : Nat} {X : List Nat} {w0 : World} {l : List (Nat × Array Value)}
/-- Two structs come back, each of which lies in a block. -/
theorem ret_memAA {fn : Func} {Rr : Ending → World → Prop} {p q : Tmp} {ty tz : TypeId} (hf : fn.results = #[.cell p ty, .cell q tz]) (R S : Nat) (hp : a.tmps.getD p undef = .pointer (some ⟨R, 0, none⟩)) (hq : a.tmps.getD q undef = .pointer (some ⟨S, 0, none⟩)) (i j : Nat) (H : Mem n X w0 w l) (cs ds : Array Value) (hi : l[i]? = some (R, cs)) (hj : l[j]? = some (S, ds))
    (hu : (P.underlying ty).map aggB = some true) (hz : (P.info? ty).map (·.size) = some cs.size) (hu2 : (P.underlying tz).map aggB = some true) (hz2 : (P.info? tz).map (·.size) = some ds.size) (hd : a.defers = []) (h : Rr (.returned (.tuple #[.agg cs, .agg ds])) w) : bodyPost P fn Rr .ret a w := by
  obtain ⟨t, hg⟩ := H.get hi
  obtain ⟨t2, hg2⟩ := H.get hj
  refine bodyPost_ret ?_ hd h
  have hl := run_loadVar_part (P := P) w R 0 t ty cs cs hg hu hz (fun j v hj => by rw [Nat.zero_add]; exact hj)
  have hl2 := run_loadVar_part (P := P) w S 0 t2 tz ds ds hg2 hu2 hz2 (fun j v hj => by rw [Nat.zero_add]; exact hj)
  have hp' : a.tmps[p]?.getD undef = .pointer (some ⟨R, 0, none⟩) := by simpa using hp
  have hq' : a.tmps[q]?.getD undef = .pointer (some ⟨S, 0, none⟩) := by simpa using hq
  simp [results, hf, hp', hq', asAddr, hl, hl2]
end
end Go.Proofs.YtbonamhinnhlnaaGreatDoor
namespace Go.Proofs.YtbonamhinnhlnaaGreatDoor
open Go.RowKit
section
variable {P : Program} {ops : Array Oper} {rest : List Oper} {o : Oper} {a : Act} {w : World} {Q : Exit → Act → World → Prop} {K : Act → World → Prop} {n : Nat} {X : List Nat} {w0 : World} {l : List (Nat × Array Value)}
/-- A row is built of what is at hand. -/
theorem wpList_mrow (hgd : Region.wanted o (yielded ops a.tmps) = true) (t : TypeId) (m : Nat) (xs : Array (Nat × Operand)) (ho : o.op = .buildSlice t m xs) (H : Mem n X w0 w l) (vs : Array (Nat × Value)) (hx : xs.map (fun (i, x) => (i, a.eval x)) = vs) (z : Array Value) (T : TypeId)
    (hr : ∀ w : World, (Instr.buildSlice t m vs).run P w = .ok (.slice (some ⟨w.heap.size, 0, none⟩) m m) (w.alloc (.cells z T)))
    (h : ∀ R w1, Mem n X w0 w1 ((R, z) :: l) → wpList P ops Q rest (a.put o.dst (.slice (some ⟨R, 0, none⟩) m m)) w1) : wpList P ops Q (o :: rest) a w :=
  wpList_want' hgd fun _ hK => by
    unfold Oper.wp
    rw [ex_buildN (V := fun R => .slice (some ⟨R, 0, none⟩) m m) ho hx hr]
    simp only [Oper.upon]
    exact hK _ _ (h _ _ (H.new _ _))
/-- A field of a struct that is a value. -/
theorem wpList_mfield (hgd : Region.wanted o (yielded ops a.tmps) = true) (T : TypeId) (x : Operand) (i : Nat) (ho : o.op = .field T x i) (v r : Value) (hx : a.eval x = v) (hr : ∀ w : World, (Instr.field T v i).run P w = .ok r w)
    (h : wpList P ops Q rest (a.put o.dst r) w) : wpList P ops Q (o :: rest) a w :=
  wpList_want' hgd fun _ hK => by
    unfold Oper.wp execOp
    simp only [ho, hx, Sem.run_bind, Sem.run_pure, hr, Result.andThen_ok, Oper.upon]
    exact hK _ _ h
end
end Go.Proofs.YtbonamhinnhlnaaGreatDoor
namespace Go.Proofs.YtbonamhinnhlnaaGreatDoor
open Go.RowKit
set_option linter.unusedSimpArgs false
set_option linter.unusedVariables false
set_option maxRecDepth 20000

theorem alloc_fl (w : World) : (Instr.alloc 25 true (.tuple #[])).run Tryz.prog w = .ok (.pointer (some ⟨w.heap.size, 0, none⟩)) (w.alloc (.cells #[.int .u8 0, .int .u8 0] 25)) := by kernel_rfl
theorem alloc_by (w : World) : (Instr.alloc 23 true (.tuple #[])).run Tryz.prog w = .ok (.pointer (some ⟨w.heap.size, 0, none⟩)) (w.alloc (.cells #[.int .u8 0, .bool false] 23)) := by kernel_rfl
theorem build_by1 (a : Int) (x : Bool) (w : World) : (Instr.buildSlice 29 1 #[(0, .agg #[.int .u8 a, .bool x])]).run Tryz.prog w = .ok (.slice (some ⟨w.heap.size, 0, none⟩) 1 1) (w.alloc (.cells #[.int .u8 a, .bool x] 23)) := by kernel_rfl
theorem build_by2 (a : Int) (x : Bool) (b : Int) (y : Bool) (w : World) : (Instr.buildSlice 29 2 #[(0, .agg #[.int .u8 a, .bool x]), (1, .agg #[.int .u8 b, .bool y])]).run Tryz.prog w = .ok (.slice (some ⟨w.heap.size, 0, none⟩) 2 2) (w.alloc (.cells #[.int .u8 a, .bool x, .int .u8 b, .bool y] 23)) := by kernel_rfl
theorem build_by3 (a : Int) (x : Bool) (b : Int) (y : Bool) (c : Int) (z : Bool) (w : World) : (Instr.buildSlice 29 3 #[(0, .agg #[.int .u8 a, .bool x]), (1, .agg #[.int .u8 b, .bool y]), (2, .agg #[.int .u8 c, .bool z])]).run Tryz.prog w = .ok (.slice (some ⟨w.heap.size, 0, none⟩) 3 3) (w.alloc (.cells #[.int .u8 a, .bool x, .int .u8 b, .bool y, .int .u8 c, .bool z] 23)) := by kernel_rfl
theorem field_fl (p s : Int) (w : World) : (Instr.field 25 (.agg #[.int .u8 p, .int .u8 s]) 0).run Tryz.prog w = .ok (.int .u8 p) w := by kernel_rfl
/-- Rows in blocks known whole. -/
theorem rd1_of {w : World} {R : Nat} {a : Int} {x : Bool} {T : TypeId} (h : w.heap[R]? = some (.cells #[.int .u8 a, .bool x] T)) : Rd w (.slice (some ⟨R, 0, none⟩) 1 1) [(a, x)] :=
  rd1c (Array.getElem?_eq_some_iff.1 h).1 (cell_of_row w R 0 _ T _ h) (cell_of_row w R 1 _ T _ h)
theorem rd2_of {w : World} {R : Nat} {a b : Int} {x y : Bool} {T : TypeId} (h : w.heap[R]? = some (.cells #[.int .u8 a, .bool x, .int .u8 b, .bool y] T)) : Rd w (.slice (some ⟨R, 0, none⟩) 2 2) [(a, x), (b, y)] :=
  rd2c (Array.getElem?_eq_some_iff.1 h).1 (cell_of_row w R 0 _ T _ h) (cell_of_row w R 1 _ T _ h) (cell_of_row w R 2 _ T _ h) (cell_of_row w R 3 _ T _ h)
theorem rd3_of {w : World} {R : Nat} {a b c : Int} {x y z : Bool} {T : TypeId} (h : w.heap[R]? = some (.cells #[.int .u8 a, .bool x, .int .u8 b, .bool y, .int .u8 c, .bool z] T)) : Rd w (.slice (some ⟨R, 0, none⟩) 3 3) [(a, x), (b, y), (c, z)] := by
  refine ⟨_, _, rfl, by simp, by simp [maxLen], .inr ⟨R, 0, rfl, (Array.getElem?_eq_some_iff.1 h).1, fun k hk => ?_⟩⟩
  match k, hk with
  | 0, _ => exact ⟨cell_of_row w R 0 _ T _ h, cell_of_row w R 1 _ T _ h⟩
  | 1, _ => exact ⟨cell_of_row w R 2 _ T _ h, cell_of_row w R 3 _ T _ h⟩
  | 2, _ => exact ⟨cell_of_row w R 4 _ T _ h, cell_of_row w R 5 _ T _ h⟩
section
variable {n : Nat} {X : List Nat} {w0 w : World} {l : List (Nat × Array Value)} {R : Nat}
theorem of1_ct (v a : Int) (x : Bool) (H : Mem n X w0 w l) (i : Nat) (hi : l[i]? = some (R, #[.int .u8 a, .bool x])) :
    Calls Tryz.prog 218 #[.int .u8 v, .slice (some ⟨R, 0, none⟩) 1 1] w fun e w' => e = .returned (.agg #[.int .u8 v, .bool x]) ∧ Below w.heap.size w w' := by
  obtain ⟨T, h⟩ := H.get hi
  have := of_ct v _ [(a, x)] w (rd1_of h)
  rw [anyS_one] at this
  exact this
theorem of2_ct (v a b : Int) (x y : Bool) (H : Mem n X w0 w l) (i : Nat) (hi : l[i]? = some (R, #[.int .u8 a, .bool x, .int .u8 b, .bool y])) :
    Calls Tryz.prog 218 #[.int .u8 v, .slice (some ⟨R, 0, none⟩) 2 2] w fun e w' => e = .returned (.agg #[.int .u8 v, .bool (x || y)]) ∧ Below w.heap.size w w' := by
  obtain ⟨T, h⟩ := H.get hi
  have := of_ct v _ [(a, x), (b, y)] w (rd2_of h)
  rw [anyS_two] at this
  exact this
theorem of3_ct (v a b c : Int) (x y z : Bool) (H : Mem n X w0 w l) (i : Nat) (hi : l[i]? = some (R, #[.int .u8 a, .bool x, .int .u8 b, .bool y, .int .u8 c, .bool z])) :
    Calls Tryz.prog 218 #[.int .u8 v, .slice (some ⟨R, 0, none⟩) 3 3] w fun e w' => e = .returned (.agg #[.int .u8 v, .bool (x || (y || z))]) ∧ Below w.heap.size w w' := by
  obtain ⟨T, h⟩ := H.get hi
  have := of_ct v _ [(a, x), (b, y), (c, z)] w (rd3_of h)
  rw [anyS_three] at this
  exact this
end

set_option maxHeartbeats 400000 in
theorem aone_ct (b : Bool) (w : World) : Calls Tryz.prog 113 #[.bool b] w fun e w' => e = .returned (.int .u8 (oneI b)) ∧ Below w.heap.size w w' := by
  cases b
  all_goals
    go_enter Tryz.func113, Tryz.ntmps113
    go_wp2
    go_ret
    exact ⟨rfl, Below.refl _ _⟩
set_option maxHeartbeats 1000000 in
theorem acheck_ct (p s : Int) (w : World) (p0 : 0 ≤ p) (p1 : p < 256) (s0 : 0 ≤ s) (s1 : s < 256) :
    Calls Tryz.prog 51 #[.agg #[.int .u8 p, .int .u8 s]] w fun e w' => e = .returned (.agg #[.int .u8 (clr p), .int .u8 (clr s)]) ∧ Below w.heap.size w w' := by
  rw [← hand207 p p0 p1, ← hand207 s s0 s1]
  clear p0 p1 s0 s1
  have HZ := Lib.hid alloc_fl
  have H := Mem.start w
  go_enter Tryz.func51, Tryz.ntmps51
  go_wp2_with (first | go_skip | (refine wpList_mboxA rfl _ _ rfl H _ rfl ?_; clear H; intro _ w1 _ H) | (refine gate_load _ _ rfl ?_; first | (refine wpList_mload1 rfl _ _ rfl _ _ rfl 1 H _ (.int _ _) rfl rfl (by decide +kernel) ?_)) | (refine gate_store _ _ _ rfl ?_; (first | (refine wpList_mstoreA rfl _ _ _ rfl rfl _ rfl 0 H _ _ rfl rfl (by kernel_rfl) (by kernel_rfl) (by kernel_rfl) ?_)); clear H; intro w1 H; simp only [List.set_cons_zero, List.set_cons_succ] at H) | (refine wpList_mnew rfl _ rfl H _ HZ.out ?_; clear H; intro _ w1 _ H) | fail)
  refine ret_mem1 rfl _ rfl 0 H _ rfl (by kernel_rfl) (by kernel_rfl) rfl ?_
  exact ⟨rfl, H.toBelow⟩
/-- What comes back of 'over': a closure over flags of its own. -/
def OverP (p s : Int) (w : World) (e : Ending) (w' : World) : Prop := ∃ R T, e = .returned (.func (.func 238) #[] #[.pointer (some ⟨R, 0, none⟩)]) ∧ w.heap.size ≤ R ∧ Below w.heap.size w w' ∧ w'.heap[R]? = some (.cells #[.int .u8 (clr p), .int .u8 (clr s)] T)
set_option maxHeartbeats 1000000 in
theorem over_ct (p s : Int) (w : World) (p0 : 0 ≤ p) (p1 : p < 256) (s0 : 0 ≤ s) (s1 : s < 256) :
    Calls Tryz.prog 217 #[.agg #[.int .u8 p, .int .u8 s]] w (OverP p s w) := by
  have QC := Lib.hid (fun wr => acheck_ct p s wr p0 p1 s0 s1)
  clear p0 p1 s0 s1
  have H := Mem.start w
  go_enter Tryz.func217, Tryz.ntmps217
  go_wp2_with (first | (go_at_call 51; (with_reducible refine (QC.out _).mono ?_); rintro e w2 ⟨rfl, hB⟩; replace H := H.next hB; clear hB) | (refine wpList_mboxA rfl _ _ rfl H _ rfl ?_; clear H; intro R1 w1 hR1 H) | go_skip | (refine gate_load _ _ rfl ?_; first | (refine wpList_mloadA rfl _ _ rfl _ rfl 0 H _ rfl (by decide +kernel) (by kernel_rfl) ?_)) | (refine gate_store _ _ _ rfl ?_; (first | (refine wpList_mstoreA rfl _ _ _ rfl rfl _ rfl 0 H _ _ rfl rfl (by kernel_rfl) (by kernel_rfl) (by kernel_rfl) ?_)); clear H; intro w1 H; simp only [List.set_cons_zero, List.set_cons_succ] at H) | fail)
  have hT := H.get (i := 0) rfl
  go_ret
  obtain ⟨T, hT⟩ := hT
  exact ⟨_, T, rfl, hR1, H.toBelow, hT⟩
/-- What comes back of bits put over flags that lie in a block: flags as they are then; the block holds them. -/
def PutP (p s b : Int) (z x : Bool) (R : Nat) (w : World) (e : Ending) (w' : World) : Prop := e = .returned (.agg #[.int .u8 (pbV p b z), .int .u8 (pbV s b x)]) ∧ Mem w.heap.size [R] w w' [(R, #[.int .u8 (pbV p b z), .int .u8 (pbV s b x)])]
set_option maxHeartbeats 2000000 in
theorem aput_ct (p s b v : Int) (z x : Bool) (hz : (v != 0) = z) (R : Nat) (T : TypeId) (w : World) (p0 : 0 ≤ p) (p1 : p < 256) (s0 : 0 ≤ s) (s1 : s < 256) (b0 : 0 ≤ b) (b1 : b < 256) (hp : clr p = p) (hs : clr s = s) (hR : w.heap[R]? = some (.cells #[.int .u8 p, .int .u8 s] T)) :
    Calls Tryz.prog 238 #[.int .u8 b, .agg #[.int .u8 v, .bool x], .pointer (some ⟨R, 0, none⟩)] w (PutP p s b z x R w) := by
  subst hz
  have f1 := put_no p b p0 p1 hp b0 b1
  have f2 := put_no s b s0 s1 hs b0 b1
  have f3 := put_yes p b b0 b1
  have f4 := put_yes s b b0 b1
  rw [← f1] at f3
  rw [← f2] at f4
  have HZ := Lib.hid alloc_fl
  have H := Mem.begin hR
  unfold PutP
  by_cases hv : v = 0
  · subst hv
    cases x
    · rw [show ((0 : Int) != 0) = false from rfl, ← f1, ← f2]
      clear f1 f2 f3 f4 p0 p1 s0 s1 b0 b1 hp hs hR
      go_enter Tryz.func238, Tryz.ntmps238
      go_wp2_with (first | go_skip | (refine wpList_mboxA rfl _ _ rfl H _ rfl ?_; clear H; intro _ w1 _ H) | (refine gate_load _ _ rfl ?_; first | (refine wpList_mloadA rfl _ _ rfl _ rfl 2 H _ rfl (by decide +kernel) (by kernel_rfl) ?_) | (refine wpList_mload1 rfl _ _ rfl _ _ rfl 1 H _ (.int _ _) rfl rfl (by decide +kernel) ?_) | (refine wpList_mload1 rfl _ _ rfl _ _ rfl 2 H _ (.int _ _) rfl rfl (by decide +kernel) ?_) | (refine wpList_mload1 rfl _ _ rfl _ _ rfl 1 H _ (.bool _) rfl rfl (by decide +kernel) ?_)) | (refine gate_store _ _ _ rfl ?_; (first | (refine wpList_mstoreA rfl _ _ _ rfl rfl _ rfl 0 H _ _ rfl rfl (by kernel_rfl) (by kernel_rfl) (by kernel_rfl) ?_) | (refine wpList_mstore rfl _ _ _ rfl rfl _ _ rfl 2 H _ _ rfl (.int _ _) rfl (by kernel_rfl) (of_decide_eq_true (by kernel_rfl)) (by kernel_rfl) rfl ?_)); clear H; intro w1 H; simp only [List.set_cons_zero, List.set_cons_succ] at H) | (refine wpList_mnew rfl _ rfl H _ HZ.out ?_; clear H; intro _ w1 _ H) | fail)
      refine ret_mem1 rfl _ rfl 0 H _ rfl (by kernel_rfl) (by kernel_rfl) rfl ?_
      exact ⟨rfl, H.sub (List.Sublist.cons _ (List.Sublist.cons _ (List.Sublist.refl _)))⟩
    · rw [show ((0 : Int) != 0) = false from rfl, ← f1, ← f4]
      clear f1 f2 f3 f4 p0 p1 s0 s1 b0 b1 hp hs hR
      go_enter Tryz.func238, Tryz.ntmps238
      go_wp2_with (first | go_skip | (refine wpList_mboxA rfl _ _ rfl H _ rfl ?_; clear H; intro _ w1 _ H) | (refine gate_load _ _ rfl ?_; first | (refine wpList_mloadA rfl _ _ rfl _ rfl 2 H _ rfl (by decide +kernel) (by kernel_rfl) ?_) | (refine wpList_mload1 rfl _ _ rfl _ _ rfl 1 H _ (.int _ _) rfl rfl (by decide +kernel) ?_) | (refine wpList_mload1 rfl _ _ rfl _ _ rfl 2 H _ (.int _ _) rfl rfl (by decide +kernel) ?_) | (refine wpList_mload1 rfl _ _ rfl _ _ rfl 1 H _ (.bool _) rfl rfl (by decide +kernel) ?_)) | (refine gate_store _ _ _ rfl ?_; (first | (refine wpList_mstoreA rfl _ _ _ rfl rfl _ rfl 0 H _ _ rfl rfl (by kernel_rfl) (by kernel_rfl) (by kernel_rfl) ?_) | (refine wpList_mstore rfl _ _ _ rfl rfl _ _ rfl 2 H _ _ rfl (.int _ _) rfl (by kernel_rfl) (of_decide_eq_true (by kernel_rfl)) (by kernel_rfl) rfl ?_)); clear H; intro w1 H; simp only [List.set_cons_zero, List.set_cons_succ] at H) | (refine wpList_mnew rfl _ rfl H _ HZ.out ?_; clear H; intro _ w1 _ H) | fail)
      refine ret_mem1 rfl _ rfl 0 H _ rfl (by kernel_rfl) (by kernel_rfl) rfl ?_
      exact ⟨rfl, H.sub (List.Sublist.cons _ (List.Sublist.cons _ (List.Sublist.refl _)))⟩
  · have hb : (v != 0) = true := by simpa using hv
    have hd : decide (v = 0) = false := decide_eq_false hv
    clear hv
    cases x
    · rw [hb, ← f3, ← f2]
      clear f1 f2 f3 f4 p0 p1 s0 s1 b0 b1 hp hs hR
      go_enter Tryz.func238, Tryz.ntmps238
      go_wp2_with (first | go_skip | (refine wpList_mboxA rfl _ _ rfl H _ rfl ?_; clear H; intro _ w1 _ H) | (refine gate_load _ _ rfl ?_; first | (refine wpList_mloadA rfl _ _ rfl _ rfl 2 H _ rfl (by decide +kernel) (by kernel_rfl) ?_) | (refine wpList_mload1 rfl _ _ rfl _ _ rfl 1 H _ (.int _ _) rfl rfl (by decide +kernel) ?_) | (refine wpList_mload1 rfl _ _ rfl _ _ rfl 2 H _ (.int _ _) rfl rfl (by decide +kernel) ?_) | (refine wpList_mload1 rfl _ _ rfl _ _ rfl 1 H _ (.bool _) rfl rfl (by decide +kernel) ?_)) | (refine gate_store _ _ _ rfl ?_; (first | (refine wpList_mstoreA rfl _ _ _ rfl rfl _ rfl 0 H _ _ rfl rfl (by kernel_rfl) (by kernel_rfl) (by kernel_rfl) ?_) | (refine wpList_mstore rfl _ _ _ rfl rfl _ _ rfl 2 H _ _ rfl (.int _ _) rfl (by kernel_rfl) (of_decide_eq_true (by kernel_rfl)) (by kernel_rfl) rfl ?_)); clear H; intro w1 H; simp only [List.set_cons_zero, List.set_cons_succ] at H) | (refine wpList_mnew rfl _ rfl H _ HZ.out ?_; clear H; intro _ w1 _ H) | fail)
      refine ret_mem1 rfl _ rfl 0 H _ rfl (by kernel_rfl) (by kernel_rfl) rfl ?_
      exact ⟨rfl, H.sub (List.Sublist.cons _ (List.Sublist.cons _ (List.Sublist.refl _)))⟩
    · rw [hb, ← f3, ← f4]
      clear f1 f2 f3 f4 p0 p1 s0 s1 b0 b1 hp hs hR
      go_enter Tryz.func238, Tryz.ntmps238
      go_wp2_with (first | go_skip | (refine wpList_mboxA rfl _ _ rfl H _ rfl ?_; clear H; intro _ w1 _ H) | (refine gate_load _ _ rfl ?_; first | (refine wpList_mloadA rfl _ _ rfl _ rfl 2 H _ rfl (by decide +kernel) (by kernel_rfl) ?_) | (refine wpList_mload1 rfl _ _ rfl _ _ rfl 1 H _ (.int _ _) rfl rfl (by decide +kernel) ?_) | (refine wpList_mload1 rfl _ _ rfl _ _ rfl 2 H _ (.int _ _) rfl rfl (by decide +kernel) ?_) | (refine wpList_mload1 rfl _ _ rfl _ _ rfl 1 H _ (.bool _) rfl rfl (by decide +kernel) ?_)) | (refine gate_store _ _ _ rfl ?_; (first | (refine wpList_mstoreA rfl _ _ _ rfl rfl _ rfl 0 H _ _ rfl rfl (by kernel_rfl) (by kernel_rfl) (by kernel_rfl) ?_) | (refine wpList_mstore rfl _ _ _ rfl rfl _ _ rfl 2 H _ _ rfl (.int _ _) rfl (by kernel_rfl) (of_decide_eq_true (by kernel_rfl)) (by kernel_rfl) rfl ?_)); clear H; intro w1 H; simp only [List.set_cons_zero, List.set_cons_succ] at H) | (refine wpList_mnew rfl _ rfl H _ HZ.out ?_; clear H; intro _ w1 _ H) | fail)
      refine ret_mem1 rfl _ rfl 0 H _ rfl (by kernel_rfl) (by kernel_rfl) rfl ?_
      exact ⟨rfl, H.sub (List.Sublist.cons _ (List.Sublist.cons _ (List.Sublist.refl _)))⟩
set_option maxHeartbeats 1000000 in
theorem aless_ct (a m : Int) (x y : Bool) (w : World) (a0 : 0 ≤ a) (a1 : a < 256) (m0 : 0 ≤ m) (m1 : m < 256) :
    Calls Tryz.prog 249 #[.agg #[.int .u8 a, .bool x], .agg #[.int .u8 m, .bool y]] w fun e w' => e = .returned (.agg #[.int .u8 (lessV a m), .bool (x || y)]) ∧ Below w.heap.size w w' := by
  have hv : (a - m) % 256 = lessV a m := by unfold lessV; omega
  rw [← hv]
  clear hv a0 a1 m0 m1
  have HZ := Lib.hid alloc_by
  have H := Mem.start w
  go_enter Tryz.func249, Tryz.ntmps249
  go_wp2_with (first | (go_at_call 218; (with_reducible refine (of2_ct _ _ _ _ _ H 0 rfl).mono ?_); rintro e w2 ⟨rfl, hB⟩; replace H := H.next hB; clear hB) | (refine wpList_mrow rfl _ _ _ rfl H _ (by simp only [List.map_toArray, List.map_cons, List.map_nil, Act.eval]; rfl) _ _ (build_by2 a x m y) ?_; clear H; intro _ w1 H) | go_skip | (refine wpList_mboxA rfl _ _ rfl H _ rfl ?_; clear H; intro _ w1 _ H) | (refine gate_load _ _ rfl ?_; first | (refine wpList_mloadA rfl _ _ rfl _ rfl 1 H _ rfl (by decide +kernel) (by kernel_rfl) ?_) | (refine wpList_mloadA rfl _ _ rfl _ rfl 2 H _ rfl (by decide +kernel) (by kernel_rfl) ?_) | (refine wpList_mload1 rfl _ _ rfl _ _ rfl 1 H _ (.int _ _) rfl rfl (by decide +kernel) ?_) | (refine wpList_mload1 rfl _ _ rfl _ _ rfl 2 H _ (.int _ _) rfl rfl (by decide +kernel) ?_)) | (refine gate_store _ _ _ rfl ?_; (first | (refine wpList_mstoreA rfl _ _ _ rfl rfl _ rfl 1 H _ _ rfl rfl (by kernel_rfl) (by kernel_rfl) (by kernel_rfl) ?_)); clear H; intro w1 H; simp only [List.set_cons_zero, List.set_cons_succ] at H) | (refine wpList_mnew rfl _ rfl H _ HZ.out ?_; clear H; intro _ w1 _ H) | fail)
  refine ret_mem1 rfl _ rfl 1 H _ rfl (by kernel_rfl) (by kernel_rfl) rfl ?_
  exact ⟨rfl, H.toBelow⟩
end Go.Proofs.YtbonamhinnhlnaaGreatDoor
namespace Go.Proofs.YtbonamhinnhlnaaGreatDoor
open Go.RowKit
set_option linter.unusedSimpArgs false
set_option linter.unusedVariables false

section
variable {P : Program} {Q : Exit → Act → World → Prop} {n : Nat} {X : List Nat} {w0 w w1 : World} {l l0 l1 l2 : List (Nat × Array Value)} {o : Oper} {a : Act} {K : Act → World → Prop}
/-- One cell is written. -/
theorem wp_sstore1 (ty : TypeId) (x y : Operand) (ho : o.op = .store ty x y) (hdst : o.dst = none) (R off : Nat) (hx : a.eval x = .pointer (some ⟨R, off, none⟩)) (i : Nat) (H : Mem n X w0 w l) (cs cs' : Array Value) (hi : l[i]? = some (R, cs)) (v : Value) (hy : a.eval y = v)
    (hz : (P.info? ty).map (·.size) = some v.cells.size) (hl : off + v.cells.size ≤ cs.size) (h1 : v.cells.all (·.oneCell') = true) (hc : (splice cs.toList off v.cells.toList).toArray = cs')
    (h : ∀ w1, Mem n X w0 w1 (l.set i (R, cs')) → K a w1) : o.wp P a w K Q := by
  obtain ⟨t, hg⟩ := H.get hi
  unfold Oper.wp execOp
  simp only [ho, hx, hy, Instr.storeAt, Instr.sureAddr, Sem.run_bind, Sem.run_pure, Result.andThen_ok, run_storeVar_part w R off t ty cs v hg hz hl h1]
  have := h _ (H.setRow hi cs')
  subst hc
  simp only [Oper.upon_skip, hdst, Act.put]
  exact this
variable {s1 s2 p q k b : Nat} {D : Nat → Bool}
/-- Operations p and q read, s1 writes behind them, s2 behind that. -/
def WSw (n : Nat) (X : List Nat) (w0 : World) (s1 s2 p q : Nat) (l0 l1 l2 : List (Nat × Array Value)) (D : Nat → Bool) (_b : Nat) (w : World) : Prop :=
  (D s1 = true → D p = true ∧ D q = true) ∧ (D s2 = true → D s1 = true) ∧ Mem n X w0 w (if D s2 = true then l2 else if D s1 = true then l1 else l0)
theorem WSw.start (h : Mem n X w0 w l0) : WSw n X w0 s1 s2 p q l0 l1 l2 (fun _ => false) 0 { w with drawn := w.drawn + 1 } := ⟨fun e => (by cases e), fun e => (by cases e), by simpa using h.drew⟩
theorem WSw.base (h : WSw n X w0 s1 s2 p q l0 l1 l2 D b w) (hp : D p = false ∨ D q = false) : Mem n X w0 w l0 := by
  obtain ⟨h1, h2, hM⟩ := h
  have e1 : D s1 = false := by
    rcases hs : D s1 with _ | _
    · rfl
    · have := h1 hs
      rcases hp with hp | hp <;> simp [hp] at this
  have e2 : D s2 = false := by
    rcases hs : D s2 with _ | _
    · rfl
    · have := h2 hs
      simp [e1] at this
  simpa [e1, e2] using hM
theorem WSw.keep (h : WSw n X w0 s1 s2 p q l0 l1 l2 D b w) (h1 : s1 ≠ k) (h2 : s2 ≠ k) : WSw n X w0 s1 s2 p q l0 l1 l2 (fun j => D j || j == k) b w := by
  have e1 : (D s1 || s1 == k) = D s1 := by simp [h1]
  have e2 : (D s2 || s2 == k) = D s2 := by simp [h2]
  unfold WSw
  simp only [e1, e2]
  exact ⟨fun e => by have := h.1 e; simp [this.1, this.2], h.2.1, h.2.2⟩
theorem WSw.before (h : WSw n X w0 s1 s2 p q l0 l1 l2 D b w) (hd : D s1 = false) : Mem n X w0 w l0 := by
  obtain ⟨_, h2, hM⟩ := h
  have e2 : D s2 = false := by
    rcases hs : D s2 with _ | _
    · rfl
    · have := h2 hs
      simp [hd] at this
  simpa [hd, e2] using hM
theorem WSw.first (h : WSw n X w0 s1 s2 p q l0 l1 l2 D b w) (hd : D s1 = false) (hp : D p = true) (hq : D q = true) (hne : s2 ≠ s1) (hM : Mem n X w0 w1 l1) : WSw n X w0 s1 s2 p q l0 l1 l2 (fun j => D j || j == s1) b w1 := by
  have e2 : D s2 = false := by
    rcases hs : D s2 with _ | _
    · rfl
    · have := h.2.1 hs
      simp [hd] at this
  have f1 : (D s1 || s1 == s1) = true := by simp
  have f2 : (D s2 || s2 == s1) = false := by simp [e2, hne]
  unfold WSw
  simp only [f1, f2]
  exact ⟨fun _ => by simp [hp, hq], fun e => (by cases e), by simpa using hM⟩
theorem WSw.between (h : WSw n X w0 s1 s2 p q l0 l1 l2 D b w) (hd : D s1 = true) (hs : D s2 = false) : Mem n X w0 w l1 := by
  have := h.2.2
  simpa [hd, hs] using this
theorem WSw.second (h : WSw n X w0 s1 s2 p q l0 l1 l2 D b w) (hd : D s1 = true) (hM : Mem n X w0 w1 l2) : WSw n X w0 s1 s2 p q l0 l1 l2 (fun j => D j || j == s2) b w1 := by
  have f1 : (D s1 || s1 == s2) = true := by simp [hd]
  have f2 : (D s2 || s2 == s2) = true := by simp
  unfold WSw
  simp only [f1, f2]
  exact ⟨fun _ => by have := h.1 hd; simp [this.1, this.2], fun _ => trivial, by simpa using hM⟩
theorem WSw.done (h : WSw n X w0 s1 s2 p q l0 l1 l2 D b w) (hs : D s2 = true) : Mem n X w0 w l2 := by
  have := h.2.2
  simpa [hs] using this
end
end Go.Proofs.YtbonamhinnhlnaaGreatDoor
namespace Go.Proofs.YtbonamhinnhlnaaGreatDoor
open Go.RowKit

def Wk.uA (s : Wk) (v : Int) (b : Bool) : Wk := { s with av := v, ab := b }
theorem st_A (s : Wk) (v : Int) (b : Bool) : (splice (wkC s).toList 0 (Value.cells (.agg #[.int .u8 v, .bool b])).toList).toArray = wkC (s.uA v b) := rfl
def Wk.uX (s : Wk) (v : Int) (b : Bool) : Wk := { s with xv := v, xb := b }
theorem st_X (s : Wk) (v : Int) (b : Bool) : (splice (wkC s).toList 2 (Value.cells (.agg #[.int .u8 v, .bool b])).toList).toArray = wkC (s.uX v b) := rfl
def Wk.uY (s : Wk) (v : Int) (b : Bool) : Wk := { s with yv := v, yb := b }
theorem st_Y (s : Wk) (v : Int) (b : Bool) : (splice (wkC s).toList 4 (Value.cells (.agg #[.int .u8 v, .bool b])).toList).toArray = wkC (s.uY v b) := rfl
def Wk.uS (s : Wk) (v : Int) (b : Bool) : Wk := { s with sv := v, sb := b }
theorem st_S (s : Wk) (v : Int) (b : Bool) : (splice (wkC s).toList 6 (Value.cells (.agg #[.int .u8 v, .bool b])).toList).toArray = wkC (s.uS v b) := rfl
def Wk.uSV (s : Wk) (v : Int) : Wk := { s with sv := v }
theorem st_SV (s : Wk) (v : Int) : (splice (wkC s).toList 6 (Value.cells (.int .u8 v)).toList).toArray = wkC (s.uSV v) := rfl
def Wk.uF (s : Wk) (v q : Int) : Wk := { s with p := v, ps := q }
theorem st_F (s : Wk) (v q : Int) : (splice (wkC s).toList 8 (Value.cells (.agg #[.int .u8 v, .int .u8 q])).toList).toArray = wkC (s.uF v q) := rfl
def Wk.uPC (s : Wk) (v : Int) : Wk := { s with pc := v }
theorem st_PC (s : Wk) (v : Int) : (splice (wkC s).toList 10 (Value.cells (.int .u16 v)).toList).toArray = wkC (s.uPC v) := rfl
def Wk.uPCS (s : Wk) (b : Bool) : Wk := { s with pcs := b }
theorem st_PCS (s : Wk) (b : Bool) : (splice (wkC s).toList 11 (Value.cells (.bool b)).toList).toArray = wkC (s.uPCS b) := rfl
def Wk.uOp (s : Wk) (v : Int) : Wk := { s with op := v }
theorem st_Op (s : Wk) (v : Int) : (splice (wkC s).toList 12 (Value.cells (.int .u8 v)).toList).toArray = wkC (s.uOp v) := rfl
def Wk.uT (s : Wk) (v : Int) : Wk := { s with t := v }
theorem st_T (s : Wk) (v : Int) : (splice (wkC s).toList 13 (Value.cells (.int .i64 v)).toList).toArray = wkC (s.uT v) := rfl
def Wk.uAd (s : Wk) (v : Int) : Wk := { s with ad := v }
theorem st_Ad (s : Wk) (v : Int) : (splice (wkC s).toList 14 (Value.cells (.int .u16 v)).toList).toArray = wkC (s.uAd v) := rfl
def Wk.uAdS (s : Wk) (b : Bool) : Wk := { s with ads := b }
theorem st_AdS (s : Wk) (b : Bool) : (splice (wkC s).toList 15 (Value.cells (.bool b)).toList).toArray = wkC (s.uAdS b) := rfl
def Wk.uD (s : Wk) (v : Int) (b : Bool) : Wk := { s with dv := v, db := b }
theorem st_D (s : Wk) (v : Int) (b : Bool) : (splice (wkC s).toList 16 (Value.cells (.agg #[.int .u8 v, .bool b])).toList).toArray = wkC (s.uD v b) := rfl
def Wk.uCr (s : Wk) (b : Bool) : Wk := { s with cr := b }
theorem st_Cr (s : Wk) (b : Bool) : (splice (wkC s).toList 18 (Value.cells (.bool b)).toList).toArray = wkC (s.uCr b) := rfl
def Wk.uIntr (s : Wk) (v : Int) : Wk := { s with intr := v }
theorem st_Intr (s : Wk) (v : Int) : (splice (wkC s).toList 19 (Value.cells (.int .i64 v)).toList).toArray = wkC (s.uIntr v) := rfl
def Wk.uNmi (s : Wk) (b : Bool) : Wk := { s with nmi := b }
def Wk.uGot (s : Wk) (b : Bool) : Wk := { s with got := b }
theorem st_Got (s : Wk) (b : Bool) : (splice (wkC s).toList 21 (Value.cells (.bool b)).toList).toArray = wkC (s.uGot b) := rfl
def Wk.uPend (s : Wk) (v : Int) : Wk := { s with pend := v }
def Wk.uCtl (s : Wk) (b : Bool) : Wk := { s with ctl := b }
theorem st_Ctl (s : Wk) (b : Bool) : (splice (wkC s).toList 23 (Value.cells (.bool b)).toList).toArray = wkC (s.uCtl b) := rfl
def Wk.uJam (s : Wk) (b : Bool) : Wk := { s with jam := b }
theorem st_Jam (s : Wk) (b : Bool) : (splice (wkC s).toList 24 (Value.cells (.bool b)).toList).toArray = wkC (s.uJam b) := rfl
def Wk.uNx (s : Wk) (v : Int) : Wk := { s with nx := v }
theorem st_Nx (s : Wk) (v : Int) : (splice (wkC s).toList 33 (Value.cells (.int .i64 v)).toList).toArray = wkC (s.uNx v) := rfl
def Wk.uIs (s : Wk) (nm : ByteArray) (md us cy : Int) (xr gd : Bool) : Wk := { s with nm := nm, md := md, us := us, cy := cy, xr := xr, gd := gd }
theorem st_Is (s : Wk) (nm : ByteArray) (md us cy : Int) (xr gd : Bool) : (splice (wkC s).toList 25 (Value.cells (.agg (opC nm md us cy xr gd))).toList).toArray = wkC (s.uIs nm md us cy xr gd) := rfl
def Bs.uAd (b : Bs) (n : Int) : Bs := { b with ad := n }
def Bs.uWr (b : Bs) (z : Bool) : Bs := { b with wr := z }
def Bs.uV (b : Bs) (v : Int) (z : Bool) : Bs := { b with v := v, vb := z }
def Bs.uSc (b : Bs) (z : Bool) : Bs := { b with sc := z }
theorem sb_Ad (b : Bs) (n : Int) : (splice (bsC b).toList 0 (Value.cells (.int .u16 n)).toList).toArray = bsC (b.uAd n) := rfl
theorem sb_Wr (b : Bs) (z : Bool) : (splice (bsC b).toList 1 (Value.cells (.bool z)).toList).toArray = bsC (b.uWr z) := rfl
theorem sb_V (b : Bs) (v : Int) (z : Bool) : (splice (bsC b).toList 2 (Value.cells (.agg #[.int .u8 v, .bool z])).toList).toArray = bsC (b.uV v z) := rfl
theorem sb_Sc (b : Bs) (z : Bool) : (splice (bsC b).toList 4 (Value.cells (.bool z)).toList).toArray = bsC (b.uSc z) := rfl
theorem part2 {cs : Array Value} {off : Nat} {x y : Value} (h0 : cs[off]? = some x) (h1 : cs[off + 1]? = some y) : ∀ j v, (#[x, y] : Array Value)[j]? = some v → cs[off + j]? = some v
  | 0, v, h => by rw [← h]; exact h0
  | 1, v, h => by rw [← h]; exact h1
  | j + 2, v, h => by
    rw [Array.getElem?_eq_none (by simp)] at h
    cases h
theorem wk_cpu (s : Wk) : ∀ j v, (cpC s.toCp)[j]? = some v → (wkC s)[0 + j]? = some v := by
  intro j v h
  have e : (wkC s).toList = (cpC s.toCp).toList ++ [.string s.nm, .int .i64 s.md, .int .i64 s.us, .int .i64 s.cy, .bool s.xr, .bool s.gd, .int .u8 s.v, .bool s.vb, .int .i64 s.nx] := rfl
  have hj : j < 25 := by
    have := (Array.getElem?_eq_some_iff.1 h).1
    exact this
  rw [Nat.zero_add, ← Array.getElem?_toList, e, List.getElem?_append_left (by show j < 25; exact hj), Array.getElem?_toList]
  exact h
theorem wk_is (s : Wk) : ∀ j v, (opC s.nm s.md s.us s.cy s.xr s.gd)[j]? = some v → (wkC s)[25 + j]? = some v
  | 0, v, h => h
  | 1, v, h => h
  | 2, v, h => h
  | 3, v, h => h
  | 4, v, h => h
  | 5, v, h => h
  | j + 6, v, h => by
    rw [Array.getElem?_eq_none (by simp [opC])] at h
    cases h
section
variable {n : Nat} {X : List Nat} {w0 w : World} {l : List (Nat × Array Value)} {x : Nat × Array Value}
theorem Mem.asW {R : Nat} {S S' : Wk} (H : Mem n X w0 w [(R, wkC S)]) (e : S = S') : Mem n X w0 w [(R, wkC S')] := e ▸ H
theorem Mem.only (H : Mem n X w0 w l) {i : Nat} (hi : l[i]? = some x) : Mem n X w0 w [x] := H.sub (List.singleton_sublist.2 (List.mem_of_getElem? hi))
end
/-- A callee that turns the processor at work. -/
abbrev CM (f : FuncId) (s S : Wk) : Prop := ∀ (R : Nat) (T : TypeId) (w : World), w.heap[R]? = some (.cells (wkC s) T) → Calls Tryz.prog f #[.pointer (some ⟨R, 0, none⟩)] w fun e w' => e = .returned (.tuple #[]) ∧ Mem w.heap.size [R] w w' [(R, wkC S)]
/-- The same, handed a byte. -/
abbrev CB (f : FuncId) (s S : Wk) (v : Int) (b : Bool) : Prop := ∀ (R : Nat) (T : TypeId) (w : World), w.heap[R]? = some (.cells (wkC s) T) → Calls Tryz.prog f #[.pointer (some ⟨R, 0, none⟩), .agg #[.int .u8 v, .bool b]] w fun e w' => e = .returned (.tuple #[]) ∧ Mem w.heap.size [R] w w' [(R, wkC S)]
/-- The same, and a byte comes back. -/
abbrev CR (f : FuncId) (s : Wk) (v : Int) (b : Bool) (r : Wk × Int × Bool) : Prop := ∀ (R : Nat) (T : TypeId) (w : World), w.heap[R]? = some (.cells (wkC s) T) → Calls Tryz.prog f #[.pointer (some ⟨R, 0, none⟩), .agg #[.int .u8 v, .bool b]] w fun e w' => e = .returned (.agg #[.int .u8 r.2.1, .bool r.2.2]) ∧ Mem w.heap.size [R] w w' [(R, wkC r.1)]
/-- What is asked for comes back. -/
abbrev CS (f : FuncId) (s : Wk) (r : Wk × Bs) : Prop := ∀ (R : Nat) (T : TypeId) (w : World), w.heap[R]? = some (.cells (wkC s) T) → Calls Tryz.prog f #[.pointer (some ⟨R, 0, none⟩)] w fun e w' => e = .returned (.agg (bsC r.2)) ∧ Mem w.heap.size [R] w w' [(R, wkC r.1)]
/-- What a processor at work, handed over whole, asks for. -/
abbrev CA (f : FuncId) (s : Wk) (b : Bs) : Prop := ∀ (w : World), Calls Tryz.prog f #[.agg (wkC s)] w fun e w' => e = .returned (.agg (bsC b)) ∧ Below w.heap.size w w'

theorem fall {P : Program} {fn : Func} {Rr : Ending → World → Prop} {a : Act} {w : World} (hr : fn.results = #[]) (hd : a.defers = []) (h : Rr (.returned (.tuple #[])) w) : bodyPost P fn Rr .normal a w :=
  bodyPost_end (by simp [results, hr]) hd h
theorem fallr {P : Program} {fn : Func} {Rr : Ending → World → Prop} {a : Act} {w : World} (hr : fn.results = #[]) (hd : a.defers = []) (h : Rr (.returned (.tuple #[])) w) : bodyPost P fn Rr .ret a w :=
  bodyPost_ret (by simp [results, hr]) hd h

def bs0 : Bs := ⟨0, false, 0, false, false⟩
theorem alloc_bus (w : World) : (Instr.alloc 36 true (.tuple #[])).run Tryz.prog w = .ok (.pointer (some ⟨w.heap.size, 0, none⟩)) (w.alloc (.cells (bsC bs0) 36)) := by kernel_rfl
theorem alloc_cpu (w : World) : (Instr.alloc 28 true (.tuple #[])).run Tryz.prog w = .ok (.pointer (some ⟨w.heap.size, 0, none⟩)) (w.alloc (.cells (cpC ⟨0, false, 0, false, 0, false, 0, false, 0, 0, 0, false, 0, 0, 0, false, 0, false, false, 0, false, false, 0, false, false⟩) 28)) := by kernel_rfl
def cp0 : Cp := ⟨0, false, 0, false, 0, false, 0, false, 0, 0, 0, false, 0, 0, 0, false, 0, false, false, 0, false, false, 0, false, false⟩
theorem alloc_wk (w : World) : (Instr.alloc 104 true (.tuple #[])).run Tryz.prog w = .ok (.pointer (some ⟨w.heap.size, 0, none⟩)) (w.alloc (.cells (wkC (emptyW cp0 0 false)) 104)) := by kernel_rfl
theorem alloc_step (w : World) : (Instr.alloc 108 true (.tuple #[])).run Tryz.prog w = .ok (.pointer (some ⟨w.heap.size, 0, none⟩)) (w.alloc (.cells #[.nilFunc, .nilFunc] 108)) := by kernel_rfl
end Go.Proofs.YtbonamhinnhlnaaGreatDoor
