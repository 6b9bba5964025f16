/-
  A policy that reads as its ports and its lists of ranges; which policies may be (package policy's Check), and whether nothing is secret (None). Over this seat's translation; no condition.
-/
import Derived.Test.YtfceifmhlmiiiaaGreatDoorAra
import Derived.Lib.QuietBelow
namespace Go.Proofs.YtfceifmhlmiiiaaGreatDoor
open Go.RowKit

/-- A policy's value. -/
def polV (p q : Bool) (sv tv : Value) : Value := .agg #[.bool p, .bool q, sv, tv]
def areaMay (n : Int) (l : List (Int × Int)) : Bool := mayB 0 l && !topB n l
def polMay (ra sa : List (Int × Int)) : Bool := areaMay 2048 ra && areaMay 8192 sa
def CkR (ra sa : List (Int × Int)) (w : World) (i : Value) (wr : World) : Prop :=
  (i = .int .i64 0 ∧ Below w.heap.size w wr) ∨ (i = .int .i64 1 ∧ areaMay 2048 ra = true ∧ Below w.heap.size w wr) ∨ (i = .int .i64 2 ∧ areaMay 2048 ra = true ∧ areaMay 8192 sa = true ∧ Below w.heap.size w wr)
set_option maxRecDepth 100000 in
set_option maxHeartbeats 4000000 in
theorem pcheck_ct (p q : Bool) (sv tv : Value) (ra sa : List (Int × Int)) (w : World) (hr : Rg w sv ra) (hs : Rg w tv sa) :
    Calls Tryz.prog 32 #[polV p q sv tv] w fun e w' => e = .returned (.int .i64 (okE (polMay ra sa))) ∧ Below w.heap.size w w' := by
  have Hr := Lib.hid hr
  have Hs := Lib.hid hs
  obtain ⟨a1, c1, rfl, _⟩ := hr
  obtain ⟨a2, c2, rfl, _⟩ := hs
  unfold polV
  have i0 : ∀ w, (Instr.index 36 (.agg #[.string ⟨#[114, 97, 109, 32]⟩, .int .i64 2048, .slice a1 ra.length c1, .string ⟨#[115, 97, 118, 101, 32]⟩, .int .i64 8192, .slice a2 sa.length c2]) (.int .i64 0)).run Tryz.prog w = .ok (.agg #[.string ⟨#[114, 97, 109, 32]⟩, .int .i64 2048, .slice a1 ra.length c1]) w := fun _ => by kernel_rfl
  have i1 : ∀ w, (Instr.index 36 (.agg #[.string ⟨#[114, 97, 109, 32]⟩, .int .i64 2048, .slice a1 ra.length c1, .string ⟨#[115, 97, 118, 101, 32]⟩, .int .i64 8192, .slice a2 sa.length c2]) (.int .i64 1)).run Tryz.prog w = .ok (.agg #[.string ⟨#[115, 97, 118, 101, 32]⟩, .int .i64 8192, .slice a2 sa.length c2]) w := fun _ => by kernel_rfl
  go_enter Tryz.func32, Tryz.ntmps32
  go_wp2_with fail
  refine (areas_ct p q a1 a2 _ _ _ _ _).mono ?_
  rintro e w1 ⟨rfl, hB⟩
  have HB : Below w.heap.size w w1 := (by repeat' (first | exact Below.refl _ _ | (refine Below.setCell ?_ (by first | (simp; done) | (simp; omega) | omega) _) | (refine Below.drew ?_) | (refine Below.drewN ?_ _) | (refine Below.alloc ?_ (by first | (simp; done) | (simp; omega) | omega) _) | (refine Below.trans ?_ (Below.mono hB (by first | (simp; done) | (simp; omega) | omega)))))
  clear hB
  go_wp2
  go_loopw [4, 7] (fun _ i wr => CkR ra sa w i wr) (fun _ i _ => 2 - (intOf i).toNat)
  case atStart => exact .inl ⟨rfl, HB⟩
  case round =>
    clear HB
    rcases hrel with ⟨rfl, hB⟩ | ⟨rfl, h1, hB⟩ | ⟨rfl, h1, h2, hB⟩
    · have hz := hB.size
      have hr' := fun o => Hr.out.below (hB.alloc hz o)
      have Hr' := Lib.hid hr'
      have HB := Lib.hid hB
      skip
      clear hr' hB
      cases hm : mayB 0 ra
      · have Hno : Hid (okE (polMay ra sa) = 1) := by simp [Hid, okE, polMay, areaMay, hm]
        have hc := fun o => check_ct _ ra _ (Hr'.out o)
        rw [hm] at hc
        clear hm
        go_wp2_with fail
        refine (hc _).mono ?_
        rintro e w2 ⟨rfl, hB2⟩
        have hB3 := (HB.out.alloc hz _).next hB2
        obtain ⟨hc2, hf2⟩ := bcell hB2
        simp at hc2 hf2
        go_wp2
        go_ret
        exact ⟨by rw [Hno.out]; rfl, hB3⟩
      · have hc := fun o => check_ct _ ra _ (Hr'.out o)
        rw [hm] at hc
        cases ht : topB 2048 ra
        · have Hyes : Hid (areaMay 2048 ra = true) := by simp [Hid, areaMay, hm, ht]
          clear hm
          go_wp2_with fail
          refine (hc _).mono ?_
          rintro e w2 ⟨rfl, hB2⟩
          have hB3 := (HB.out.alloc hz _).next hB2
          have Hr2 := Lib.hid ((Hr'.out _).below hB2)
          obtain ⟨hc2, hf2⟩ := bcell hB2
          simp at hc2 hf2
          go_wp2_with fail
          refine (acontains_ct _ 2048 _ _ _ _ ra _ Hr2.out).mono ?_
          rw [ht]
          clear ht
          rintro e w3 ⟨rfl, hB4⟩
          have hB5 := hB3.next hB4
          go_wp2
          go_roundw
          case rel => exact .inr (.inl ⟨rfl, Hyes.out, hB5⟩)
          case measure => simp [intOf]
        · have Hno : Hid (okE (polMay ra sa) = 1) := by simp [Hid, okE, polMay, areaMay, ht]
          clear hm
          go_wp2_with fail
          refine (hc _).mono ?_
          rintro e w2 ⟨rfl, hB2⟩
          have hB3 := (HB.out.alloc hz _).next hB2
          have Hr2 := Lib.hid ((Hr'.out _).below hB2)
          obtain ⟨hc2, hf2⟩ := bcell hB2
          simp at hc2 hf2
          go_wp2_with fail
          refine (acontains_ct _ 2048 _ _ _ _ ra _ Hr2.out).mono ?_
          rw [ht]
          clear ht
          rintro e w3 ⟨rfl, hB4⟩
          have hB5 := hB3.next hB4
          go_wp2
          go_ret
          exact ⟨by rw [Hno.out]; rfl, hB5⟩
    · have hz := hB.size
      have hr' := fun o => Hs.out.below (hB.alloc hz o)
      have Hr' := Lib.hid hr'
      have HB := Lib.hid hB
      have H1 := Lib.hid h1; clear h1
      clear hr' hB
      cases hm : mayB 0 sa
      · have Hno : Hid (okE (polMay ra sa) = 1) := by simp [Hid, okE, polMay, areaMay, hm]
        have hc := fun o => check_ct _ sa _ (Hr'.out o)
        rw [hm] at hc
        clear hm
        go_wp2_with fail
        refine (hc _).mono ?_
        rintro e w2 ⟨rfl, hB2⟩
        have hB3 := (HB.out.alloc hz _).next hB2
        obtain ⟨hc2, hf2⟩ := bcell hB2
        simp at hc2 hf2
        go_wp2
        go_ret
        exact ⟨by rw [Hno.out]; rfl, hB3⟩
      · have hc := fun o => check_ct _ sa _ (Hr'.out o)
        rw [hm] at hc
        cases ht : topB 8192 sa
        · have Hyes : Hid (areaMay 8192 sa = true) := by simp [Hid, areaMay, hm, ht]
          clear hm
          go_wp2_with fail
          refine (hc _).mono ?_
          rintro e w2 ⟨rfl, hB2⟩
          have hB3 := (HB.out.alloc hz _).next hB2
          have Hr2 := Lib.hid ((Hr'.out _).below hB2)
          obtain ⟨hc2, hf2⟩ := bcell hB2
          simp at hc2 hf2
          go_wp2_with fail
          refine (acontains_ct _ 8192 _ _ _ _ sa _ Hr2.out).mono ?_
          rw [ht]
          clear ht
          rintro e w3 ⟨rfl, hB4⟩
          have hB5 := hB3.next hB4
          go_wp2
          go_roundw
          case rel => exact .inr (.inr ⟨rfl, H1.out, Hyes.out, hB5⟩)
          case measure => simp [intOf]
        · have Hno : Hid (okE (polMay ra sa) = 1) := by simp [Hid, okE, polMay, areaMay, ht]
          clear hm
          go_wp2_with fail
          refine (hc _).mono ?_
          rintro e w2 ⟨rfl, hB2⟩
          have hB3 := (HB.out.alloc hz _).next hB2
          have Hr2 := Lib.hid ((Hr'.out _).below hB2)
          obtain ⟨hc2, hf2⟩ := bcell hB2
          simp at hc2 hf2
          go_wp2_with fail
          refine (acontains_ct _ 8192 _ _ _ _ sa _ Hr2.out).mono ?_
          rw [ht]
          clear ht
          rintro e w3 ⟨rfl, hB4⟩
          have hB5 := hB3.next hB4
          go_wp2
          go_ret
          exact ⟨by rw [Hno.out]; rfl, hB5⟩
    · have Hy : Hid (okE (polMay ra sa) = 0) := by simp [Hid, okE, polMay, h1, h2]
      clear h1 h2
      go_wp2
      go_ret
      exact ⟨by rw [Hy.out]; rfl, hB⟩
end Go.Proofs.YtfceifmhlmiiiaaGreatDoor
