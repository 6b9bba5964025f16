/-
  The walk of SpriteDots. Over this seat's translation; no condition. (Written by gen_sp.py.)
-/
import Derived.Test.YtphnpahjofacfaaSpu
import Derived.Test.YtphnpahjofacfaaSpy
namespace Go.Proofs.Ytphnpahjofacfaa
open Go.RowKit Go.Sort
set_option linter.unusedSimpArgs false
set_option linter.unusedVariables false
set_option maxRecDepth 20000

attribute [local irreducible] wpList
set_option maxHeartbeats 4000000 in
theorem spriteDots_walk (sv : Value) (l : List Un) (x : Int) (b0 : -9223372036854775808 ≤ x) (b1 : x < 9223372036854775808) (w : World) (hr : RdU w sv l) : Calls Try.prog 4 #[sv, .int .i64 x] w fun e w' => e = .returned (.bool true) ∧ Below w.heap.size w w' := by
  have QW := Lib.hid (fun wr => awake15_ct wr)
  have H := Mem.start w
  have hr0 := hr
  obtain ⟨a, cap, rfl, hcap, hn, hr⟩ := hr
  by_cases h : 20 < l.length
  · rcases hr with rfl | ⟨b, off, rfl, hb, hc⟩
    · simp at h
    have HR := Lib.hid (RdU.take 20 (by omega) hcap hn hb hc)
    unfold maxLen at hn
    have hlen : (l.take 20).length = 20 := by rw [List.length_take]; omega
    clear hr0 hc hb
    have Q1 := Lib.hid (fun wr h => sdot_ct (.slice (some ⟨b, off, none⟩) 20 cap) (l.take 20) x b0 b1 wr h)
    have Q2 := Lib.hid (fun wr h => rdot_ct (.slice (some ⟨b, off, none⟩) 20 cap) (l.take 20) x b0 b1 wr h)
    have Q3 := Lib.hid (fun wr h => sanyu_ct (.slice (some ⟨b, off, none⟩) 20 cap) (l.take 20) wr h)
    have Q4 := Lib.hid (fun wr h => ranyu_ct (.slice (some ⟨b, off, none⟩) 20 cap) (l.take 20) wr h)
    generalize (l.take 20) = l2 at *
    generalize (seenU l2 x).1 = z1 at *
    generalize (seenU l2 x).2.1 = z2 at *
    generalize (seenU l2 x).2.2 = z3 at *
    generalize anyU l2 = z4 at *
    go_enter Try.func4, Try.ntmps4
    go_wp2_with (first | (go_at_call 18; (with_reducible refine (Q1.out _ (HR.out.below H.toBelow)).mono ?_); rintro e w2 ⟨rfl, hB⟩; replace H := H.next hB; clear hB) | (go_at_call 19; (with_reducible refine (Q2.out _ (HR.out.below H.toBelow)).mono ?_); rintro e w2 ⟨rfl, hB⟩; replace H := H.next hB; clear hB) | (go_at_call 20; (with_reducible refine (Q3.out _ (HR.out.below H.toBelow)).mono ?_); rintro e w2 ⟨rfl, hB⟩; replace H := H.next hB; clear hB) | (go_at_call 21; (with_reducible refine (Q4.out _ (HR.out.below H.toBelow)).mono ?_); rintro e w2 ⟨rfl, hB⟩; replace H := H.next hB; clear hB) | (go_at_call 16; (with_reducible refine (QW.out _).mono ?_); rintro e w2 ⟨rfl, hB⟩; replace H := H.next hB; clear hB) | fail)
    go_ret
    exact ⟨rfl, H.toBelow⟩
  · have HR := Lib.hid hr0
    unfold maxLen at hn
    clear hr0 hr
    obtain ⟨N, hN⟩ : ∃ N, l.length = N := ⟨_, rfl⟩
    rw [hN] at HR h hcap ⊢
    have Q1 := Lib.hid (fun wr h => sdot_ct (.slice a N cap) (l) x b0 b1 wr h)
    have Q2 := Lib.hid (fun wr h => rdot_ct (.slice a N cap) (l) x b0 b1 wr h)
    have Q3 := Lib.hid (fun wr h => sanyu_ct (.slice a N cap) (l) wr h)
    have Q4 := Lib.hid (fun wr h => ranyu_ct (.slice a N cap) (l) wr h)
    generalize (l) = l2 at *
    generalize (seenU l2 x).1 = z1 at *
    generalize (seenU l2 x).2.1 = z2 at *
    generalize (seenU l2 x).2.2 = z3 at *
    generalize anyU l2 = z4 at *
    go_enter Try.func4, Try.ntmps4
    go_wp2_with (first | (go_at_call 18; (with_reducible refine (Q1.out _ (HR.out.below H.toBelow)).mono ?_); rintro e w2 ⟨rfl, hB⟩; replace H := H.next hB; clear hB) | (go_at_call 19; (with_reducible refine (Q2.out _ (HR.out.below H.toBelow)).mono ?_); rintro e w2 ⟨rfl, hB⟩; replace H := H.next hB; clear hB) | (go_at_call 20; (with_reducible refine (Q3.out _ (HR.out.below H.toBelow)).mono ?_); rintro e w2 ⟨rfl, hB⟩; replace H := H.next hB; clear hB) | (go_at_call 21; (with_reducible refine (Q4.out _ (HR.out.below H.toBelow)).mono ?_); rintro e w2 ⟨rfl, hB⟩; replace H := H.next hB; clear hB) | (go_at_call 16; (with_reducible refine (QW.out _).mono ?_); rintro e w2 ⟨rfl, hB⟩; replace H := H.next hB; clear hB) | fail)
    go_ret
    exact ⟨rfl, H.toBelow⟩
end Go.Proofs.Ytphnpahjofacfaa
