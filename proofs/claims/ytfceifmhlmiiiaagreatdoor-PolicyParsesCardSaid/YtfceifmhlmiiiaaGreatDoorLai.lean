/-
  From what a row lists of package-level variables to what the contracts ask of the world; and the plain wrap that hands on both the list and the world's shape. Over this seat's translation.
-/
import Derived.Test.YtfceifmhlmiiiaaGreatDoorRows
import Derived.Test.YtfceifmhlmiiiaaGreatDoorGlb
import Derived.Lib.LaidU8
import Derived.LaidMore
import Derived.HandedShaped
import Derived.OpenShut
import Derived.FnData
import Derived.MakeChecks
namespace Go.Proofs.YtfceifmhlmiiiaaGreatDoor
open Go Go.RowKit Go.WideShapes Go.ChangeShapes

theorem wrap_both {H : Type} {enc : TypeId × Value → H} {a : Assume} {C : Checked} {os : Os} {f : FuncId} {fn : Func} {s : ChangeSpec} {conds : List PathCond} {apart fresh handsOn again : Bool} {X : World → Array Value → Prop}
    (hX : ∀ (w w' : World) (args : Array Value), w.heap = w'.heap → X w args → X w' args)
    (own : ownKnob C.prog.godebug = none) (started : os.Started) (noInit : C.prog.inits.idxOf? f = none) (hfn : C.prog.funcs[f]? = some fn)
    (witness : ∃ (w : World) (tape : Tape) (i : Input), w.os = os ∧ (w.forCall tape i).Shaped C.prog ∧ i.vars = [] ∧ Input.okWide C.prog (w.forCall tape i) .any w.heap.size f i ∧
      ((s.pre enc C.prog fn conds apart (w.forCall tape i).memory i.args ∧ X (w.forCall tape i).memory i.args) ∧ sizedMet enc C.prog fn (OpenSpec.ofChange s) apart (w.forCall tape i).memory i.args) ∧ a.holds C.prog (lone (Frame.enter C.prog f i.args .normal) [] (w.forCall tape i)))
    (contract : ∀ (W : World) (base : Nat) (args : Array Value) (ds gs : List (DataW H)) (before : List MemPlace),
      (∀ (j : Nat) t v, fn.params[j]? = some t → args[j]? = some v → Value.okWide C.prog W .any base t v) →
      DataW.Whole enc C.prog fn.params.toList s.vars apart W args.toList ds gs before →
      X W args → W.ShapedOpen C.prog →
      Calls C.prog f args W fun e W' => ∃ v, e = .returned v ∧ s.post enc C.prog fn apart fresh handsOn again W args v W') :
    ReturnsInHanded a C os f .any (fun w args => (s.pre enc C.prog fn conds apart w args ∧ X w args) ∧ sizedMet enc C.prog fn (OpenSpec.ofChange s) apart w args) (s.post enc C.prog fn apart fresh handsOn again) := by
  refine returnsInHanded_of_calls own started noInit witness fun w tape i _ shape _ hok hpre _ => ?_
  obtain ⟨_, _, _, fn', hfn', _, _, _, _, hval⟩ := hok
  obtain rfl : fn' = fn := Option.some.inj (hfn'.symm.trans hfn)
  obtain ⟨⟨⟨ds, gs, before, hw, _⟩, hx⟩, _⟩ := hpre
  refine (contract (w.forCall tape i) w.heap.size i.args ds gs before hval (DataW.Whole.of_heap (w' := w.forCall tape i) (by rfl) hw) (hX _ _ _ (by rfl) hx) shape).mono fun e W' ⟨v, he, hp⟩ => ?_
  subst he
  exact ChangeSpec.post_blind hp

theorem nPort : Tryz.prog.globalNamed "seepage/policy.portLines" = some 0 := by kernel_rfl
theorem nTab : Tryz.prog.globalNamed "math/bits.deBruijn64tab" = some 6 := by kernel_rfl
theorem yPort : (Tryz.prog.globals[0]?).map (·.type) = some 40 := by kernel_rfl
theorem yTab : (Tryz.prog.globals[6]?).map (·.type) = some 151 := by kernel_rfl
def tabZ : List Int := [0, 1, 56, 2, 57, 49, 28, 3, 61, 58, 42, 50, 38, 29, 17, 4, 62, 47, 59, 36, 45, 43, 51, 22, 53, 39, 33, 30, 24, 18, 12, 5, 63, 55, 48, 27, 60, 41, 37, 16, 46, 35, 44, 21, 52, 32, 23, 11, 54, 26, 40, 15, 34, 20, 31, 10, 25, 14, 19, 9, 13, 8, 7, 6]
set_option maxRecDepth 100000 in
theorem glob_of {W : World} {l : List (String × DataW Unit)} (h : laidMet Tryz.prog l W) (m1 : ("seepage/policy.portLines", Rows.laid_seepage_policy_portLines) ∈ l) (m2 : ("math/bits.deBruijn64tab", Rows.laid_math_bits_deBruijn64tab) ∈ l) (hs : W.ShapedOpen Tryz.prog) : Glob W := by
  have hp := Lib.laidMet.reads h m1
  have ht := Lib.laidMet.reads h m2
  obtain ⟨m, hm⟩ := Tryz.laysM145.s1_3 W hs
  have hm' : W.cell? ⟨1, 0, none⟩ = some (.int .i64 m) := hm
  obtain ⟨g, t, cs, fuel, p, hg, hty, hvar, hd⟩ := hp
  obtain rfl := Option.some.inj (nPort.symm.trans hg)
  obtain rfl := Option.some.inj (yPort.symm.trans hty)
  obtain ⟨xs, k, _, hx, hl, hxl, hel⟩ := DataW.trod_array Tryz.underlying40 hd
  have c9 : Tryz.prog.cellsOf 9 = 1 := by kernel_rfl
  have c51 : Tryz.prog.cellsOf 40 = 2 := by kernel_rfl
  obtain ⟨g', t', cs', fuel', p', hg', hty', hvar', hd'⟩ := ht
  obtain rfl := Option.some.inj (nTab.symm.trans hg')
  obtain rfl := Option.some.inj (yTab.symm.trans hty')
  have hcs' := Lib.cells_of_tab (zs := tabZ) Tryz.underlying151 Tryz.underlying5 (by kernel_rfl) (by kernel_rfl) hd'
  have htab : W.cell? ⟨6, 15, none⟩ = some (.int .u8 4) := by
    rw [World.var?_cell nTab hvar' 15, ← Array.getElem?_toList, hcs']; rfl
  rw [c51] at hl
  simp only [Prod.mk.injEq, DataW.agg.injEq, Rows.laid_seepage_policy_portLines] at hx
  obtain ⟨hx1, _⟩ := hx
  match xs, hxl, hx1, hel with
  | [x0, x1], _, hx1, hel =>
    simp only [List.map_cons, List.map_nil, List.cons.injEq, and_true] at hx1
    obtain ⟨e0, e1⟩ := hx1
    have h0 := hel 0 (by decide)
    have h1 := hel 1 (by decide)
    rw [c9] at h0 h1
    obtain ⟨s0, f0, g0, _⟩ := DataW.trod_string Tryz.underlying9 (show DataW.trod _ Tryz.prog W 0 _ false k 9 _ = some x0 from h0)
    obtain ⟨s1, f1, g1, _⟩ := DataW.trod_string Tryz.underlying9 (show DataW.trod _ Tryz.prog W 0 _ false k 9 _ = some x1 from h1)
    have b0 : s0 = port1B := bytes_inj (by rw [g0] at e0; injection e0 with e0; injection e0 with e0; exact e0.symm)
    have b1 : s1 = port2B := bytes_inj (by rw [g1] at e1; injection e1 with e1; injection e1 with e1; exact e1.symm)
    subst b0 b1
    have p0 : W.cell? ⟨0, 0, none⟩ = some (.string port1B) := by
      rw [World.var?_cell nPort hvar 0, ← Array.getElem?_toList]
      have := congrArg (·[0]?) f0
      simpa using this
    have p1 : W.cell? ⟨0, 1, none⟩ = some (.string port2B) := by
      rw [World.var?_cell nPort hvar 1, ← Array.getElem?_toList]
      have := congrArg (·[0]?) f1
      simpa using this
    exact { tab := htab, tabL := World.block_lt_of_cell? W _ htab, max := ⟨m, hm'⟩, maxL := World.block_lt_of_cell? W _ hm', port1 := p0, port2 := p1, portL := World.block_lt_of_cell? W _ p0 }
end Go.Proofs.YtfceifmhlmiiiaaGreatDoor
