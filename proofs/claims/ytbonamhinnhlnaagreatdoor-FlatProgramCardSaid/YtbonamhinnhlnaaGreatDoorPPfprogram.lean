/-
  FlatProgram returns true for every input and leaves its arguments as they were: a program that adds: of two numbers in memory the sum, and the carry, stand where they are to, twenty cycles later; secret, if one of them is; nothing that it does is told by a secret; the row's variable holds what its text lays.
  Conditions: none.
-/
import Derived.Test.YtbonamhinnhlnaaGreatDoorRows
import Derived.Test.YtbonamhinnhlnaaGreatDoorCards
import Derived.Test.YtbonamhinnhlnaaGreatDoorTie
import Derived.Test.YtbonamhinnhlnaaGreatDoorP10
import Derived.Test.YtbonamhinnhlnaaGreatDoorP01
import Derived.Test.YtbonamhinnhlnaaGreatDoorP07
import Derived.Test.YtbonamhinnhlnaaGreatDoorP36
import Derived.WalkKit
import Derived.ProofKit
import Derived.OpenShut
import Derived.ShutString
import Derived.ChangeOld
import Derived.Below
import Derived.Lay
import Derived.MakeChecks
import Derived.SevenTiedAt
import Derived.LaidOnce
namespace Go.Proofs.YtbonamhinnhlnaaGreatDoor
open Go.ChangeShapes Go.WideShapes Go.ChangeAt Go.RowKit
open Go.ChangeMaps (open_string shut_string)
set_option maxRecDepth 100000 in
theorem flatProgram_lifted (os : Os) (started : os.Started) (H : Type) (enc : TypeId × Value → H) :
    ReturnsInHanded {} Tryz.checked os 4 .any (fun w args => (Rows.flatProgramSpec.pre enc Tryz.prog Tryz.f4 [] false w args ∧ laidMetH Tryz.prog Rows.flatProgramRow.laid w) ∧ sizedMet enc Tryz.prog Tryz.f4 (OpenSpec.ofChange Rows.flatProgramSpec) false w args) (Rows.flatProgramSpec.post enc Tryz.prog Tryz.f4 false true false false) := by
  refine wrap_both (C := Tryz.checked) (X := fun w _ => laidMetH Tryz.prog Rows.flatProgramRow.laid w) (fun _ _ _ hh h => h.of_heap hh) own started (by kernel_rfl) Tryz.func4
    (ChangeSpec.witness_shaped (enc := enc) (C := Tryz.checked) (os := os) (X := fun w _ => laidMetH Tryz.prog Rows.flatProgramRow.laid w) false (World.laidAll Tryz.prog os Rows.flatProgramRow.laid) #[.agg #[.int .u8 0, .bool false], .agg #[.int .u8 0, .bool false], .bool false] 8 (World.laidAll_os _ _ _)
      (World.shaped_of_ZipB (by kernel_rfl) (by kernel_rfl)) (by kernel_rfl) (by kernel_rfl) (by kernel_rfl)
      (by rw [MakeChecks.laidMetH_plain _ _ _ (by kernel_rfl)]; exact laidMet_laidAll _ (by kernel_rfl) (by kernel_rfl))) ?_
  intro W base args ds gs before hval0 hW hL hsh
  rw [MakeChecks.laidMetH_plain _ _ _ (by kernel_rfl)] at hL
  have G : GlobO W := globo_of hL (by simp [Rows.flatProgramRow])
  clear hL hsh
  have hval : ∀ (j : Nat) t v, Tryz.f4.params[j]? = some t → args[j]? = some v → Value.okWide Tryz.prog W .any base t v := hval0
  have hW' := hW
  obtain ⟨p, q, hA0, hV, rfl, hfz, hnd⟩ := hW
  have hA : DataW.TrodAll enc Tryz.prog W 0 (fun _ => true) true Tryz.f4.params.toList args.toList ds p := hA0
  rw [Tryz.params4] at hA hval
  obtain ⟨v0, vs0, d0, ds0, p0, q0, hargs, rfl, rfl, h0, r0⟩ := trodAll_cons hA
  obtain ⟨v1, vs1, d1, ds1, p1, q1, rfl, rfl, rfl, h1, r1⟩ := trodAll_cons r0
  obtain ⟨v2, vs2, d2, ds2, p2, q2, rfl, rfl, rfl, h2, r2⟩ := trodAll_cons r1
  obtain ⟨rfl, rfl, rfl⟩ := trodAll_nil r2
  obtain rfl : args = #[v0, v1, v2] := by cases args; simp_all
  obtain ⟨rfl, rfl⟩ := trodVars_none hV
  have k0 := h0
  have lt0 : ∀ x ∈ p0, x.block < W.heap.size := by obtain ⟨m, hm⟩ := k0; exact DataW.trod_lt m _ _ _ hm
  have k1 := h1
  have lt1 : ∀ x ∈ p1, x.block < W.heap.size := by obtain ⟨m, hm⟩ := k1; exact DataW.trod_lt m _ _ _ hm
  have k2 := h2
  have lt2 : ∀ x ∈ p2, x.block < W.heap.size := by obtain ⟨m, hm⟩ := k2; exact DataW.trod_lt m _ _ _ hm
  obtain ⟨a, la, rfl, wa⟩ : ∃ (a : Int) (s : Bool), v0 = .agg #[.int .u8 a, .bool s] ∧ 0 ≤ a ∧ a < 256 := by
    obtain ⟨cs, fuel, x, rfl, hl, hf⟩ := open_cells Tryz.underlying23 (hval 0 23 v0 rfl rfl) h0
    rw [c_byte] at hl
    obtain ⟨a, s, rfl, hb⟩ := open_byte hl hf
    exact ⟨a, s, rfl, hb⟩
  obtain ⟨b, lb, rfl, wb⟩ : ∃ (a : Int) (s : Bool), v1 = .agg #[.int .u8 a, .bool s] ∧ 0 ≤ a ∧ a < 256 := by
    obtain ⟨cs, fuel, x, rfl, hl, hf⟩ := open_cells Tryz.underlying23 (hval 1 23 v1 rfl rfl) h1
    rw [c_byte] at hl
    obtain ⟨a, s, rfl, hb⟩ := open_byte hl hf
    exact ⟨a, s, rfl, hb⟩
  obtain ⟨cy, rfl, rfl, rfl⟩ := open_bool Tryz.underlying4 (hval 2 4 v2 rfl rfl) h2
  clear hA0 hval0
  refine (fprogram_walk a b la lb cy W G wa.1 wa.2 wb.1 wb.2).mono fun e W' ⟨he, bel⟩ => ?_
  subst he
  exact ⟨_, rfl, _, _, _, [], _, [], hW', trodAll_mk1 (shut_bool Tryz.underlying4 _), (trodAll_cons_mk (Below.trod laidOut (by kernel_rfl) (of_decide_eq_true (by kernel_rfl)) k0 bel lt0) (trodAll_cons_mk (Below.trod laidOut (by kernel_rfl) (of_decide_eq_true (by kernel_rfl)) k1 bel lt1) (trodAll_cons_mk (Below.trod laidOut (by kernel_rfl) (of_decide_eq_true (by kernel_rfl)) k2 bel lt2) trodAll_mk0))), rfl, bel.frame _, fun h => by cases h⟩

theorem flatProgram_holds : Rows.FlatProgramSaid :=
  OpenClaim.holds_of_wide 4 Tryz.f4 rfl rfl rfl rfl rfl rfl rfl ⟨rfl, rfl, rfl, rfl, rfl⟩ rfl rfl rfl rfl rfl (by kernel_rfl) Tryz.func4 (by kernel_rfl)
    (of_decide_eq_true (by kernel_rfl)) (by unfold Func.isWrapper; first | (rw [if_pos (by decide +kernel)]; kernel_rfl) | (rw [if_neg (by decide +kernel)]; exact ⟨rfl, rfl⟩))
    (fun os started H enc _ => flatProgram_lifted os started H enc)
theorem flatProgram_card : Rows.FlatProgramCardSaid :=
  Claim7.holds_tied_plain_at .later [] [.data] true (true, "4bd264f354195a12b6e03dd9117696c8a837a018f2db026a2ca25babaf442ff1") false flatProgram_holds (fun _ h => by cases h) (by kernel_rfl) (fun _ h => by cases h) flatProgram_row_tie rfl ⟨rfl, rfl⟩ (by kernel_rfl) rfl
    (fun f fn hf hfn => by
      obtain rfl : f = 4 := Option.some.inj ((show Tryz.prog.funcNamed "seepage/seepagelaw11.FlatProgram" = some 4 by kernel_rfl).symm.trans hf) |>.symm
      obtain rfl : fn = Tryz.f4 := (Option.some.inj (Tryz.func4.symm.trans hfn)).symm
      exact ⟨by kernel_rfl, fun j t ht => by
        rw [Tryz.params4] at ht
        have hm : t ∈ [23, 23, 4] := by simpa using Array.mem_of_getElem? ht
        have hall : ([23, 23, 4].all fun u => !Tryz.prog.wantsStandIn u) = true := by kernel_rfl
        exact (show Tryz.prog.wantsStandIn t = false by simpa using List.all_eq_true.1 hall t hm)⟩)
    (by kernel_rfl)
#print axioms flatProgram_card
#print axioms flatProgram_holds
end Go.Proofs.YtbonamhinnhlnaaGreatDoor
