/-
  The document's own Print. Over this seat's translation; of at most 20 ranges each, of a policy that may be.
-/
import Derived.Test.YtjiilcnbajcdhaaGreatDoorRnl
import Derived.Test.YtjiilcnbajcdhaaGreatDoorPck
import Derived.Test.YtjiilcnbajcdhaaGreatDoorTal
import Derived.Test.YtjiilcnbajcdhaaGreatDoorBx4
namespace Go.Proofs.YtjiilcnbajcdhaaGreatDoor
open Go.RowKit Go.Shelf

theorem bytes_of_list {A : ByteArray} {L : List UInt8} (h : A.data.toList = L) : A = ⟨L.toArray⟩ := by
  subst h
  exact ByteArray.ext (by simp)
theorem may_nats {l : List (Int × Int)} (h : mayB 0 l = true) : ∀ k, k < l.length → ∃ a b : Nat, nthR l k = ((a : Int), (b : Int)) ∧ a < 65536 ∧ b < 65536 := fun k hk => by
  have hw := (wholeB_iff (nthR l k)).1 (List.all_eq_true.1 (mayB_wholes l 0 h) _ (mem_getD l k (0, 0) hk))
  obtain ⟨x, y, hxy⟩ : ∃ a b, nthR l k = (a, b) := ⟨_, _, rfl⟩
  rw [hxy] at hw ⊢
  dsimp only at hw
  exact ⟨x.toNat, y.toNat, by rw [Int.toNat_of_nonneg hw.1, Int.toNat_of_nonneg (by omega)], by omega, by omega⟩
theorem rlines_fix (w0 : ByteArray) (sv : Value) (l : List (Int × Int)) (w : World) (hr : Rg w sv l) (hw : w0.size ≤ 5) (hl : l.length ≤ 20) (hb : mayB 0 l = true) :
    Calls Tryz.prog 35 #[.string w0, sv] w fun e w' => e = .returned (.string ⟨(linesP (w0.data.toList ++ [32]) l).toArray⟩) ∧ Below w.heap.size w w' :=
  (rlines_ct w0 sv l w hr hw hl (may_nats hb)).mono fun e w' ⟨A, he, hA, hB⟩ => ⟨by rw [he, bytes_of_list hA], hB⟩
theorem linesP_size (word : List UInt8) (l : List (Int × Int)) (h1 : word.length ≤ 6) (h2 : l.length ≤ 20) : (⟨(linesP word l).toArray⟩ : ByteArray).size ≤ 320 := by
  show (linesP word l).toArray.size ≤ 320
  rw [List.size_toArray, linesP_length]
  exact Nat.mul_le_mul h2 (show word.length + 10 ≤ 16 by omega)
theorem print_eq (p q : Bool) (ra sa : List (Int × Int)) (S : ByteArray) (h : S.data.toList = ports1P p ++ ports2P q) : S ++ ⟨(linesP ramW ra).toArray⟩ ++ ⟨(linesP saveW sa).toArray⟩ = ⟨(printL p q ra sa).toArray⟩ := by
  apply bytes_of_list
  simp only [ByteArray.data_append, Array.toList_append, h, printL]
set_option maxRecDepth 100000 in
set_option maxHeartbeats 4000000 in
theorem rprint_ct (p q : Bool) (sv tv : Value) (ra sa : List (Int × Int)) (w : World) (h1 : Rg w sv ra) (h2 : Rg w tv sa) (l1 : ra.length ≤ 20) (l2 : sa.length ≤ 20) (m1 : mayB 0 ra = true) (m2 : mayB 0 sa = true) :
    Calls Tryz.prog 15 #[polV p q sv tv] w fun e w' => e = .returned (.string ⟨(printL p q ra sa).toArray⟩) ∧ Below w.heap.size w w' := by
  have K1 : Hid (∀ wr, Below w.heap.size w wr → Calls Tryz.prog 35 #[.string ⟨#[114, 97, 109]⟩, sv] wr fun e w' => e = .returned (.string ⟨(linesP ramW ra).toArray⟩) ∧ Below wr.heap.size wr w') := fun wr h => rlines_fix ⟨#[114, 97, 109]⟩ sv ra wr (h1.below h) (by decide) l1 m1
  have K2 : Hid (∀ wr, Below w.heap.size w wr → Calls Tryz.prog 35 #[.string ⟨#[115, 97, 118, 101]⟩, tv] wr fun e w' => e = .returned (.string ⟨(linesP saveW sa).toArray⟩) ∧ Below wr.heap.size wr w') := fun wr h => rlines_fix ⟨#[115, 97, 118, 101]⟩ tv sa wr (h2.below h) (by decide) l2 m2
  have z1 := linesP_size ramW ra (by decide) l1
  have z2 := linesP_size saveW sa (by decide) l2
  have HE := Lib.hid (print_eq p q ra sa)
  generalize (⟨(printL p q ra sa).toArray⟩ : ByteArray) = res at *
  generalize (⟨(linesP ramW ra).toArray⟩ : ByteArray) = R at *
  generalize (⟨(linesP saveW sa).toArray⟩ : ByteArray) = V at *
  obtain ⟨a1, c1, rfl, _⟩ := h1
  obtain ⟨a2, c2, rfl, _⟩ := h2
  clear m1 m2
  generalize ra.length = n1 at *
  generalize sa.length = n2 at *
  unfold polV
  have n1' : ¬ 9223372036854775807 < R.size := by omega
  have n2' : ¬ 9223372036854775807 < R.size + V.size := by omega
  have n3 : ¬ 9223372036854775807 < 7 + R.size := by omega
  have n4 : ¬ 9223372036854775807 < 7 + R.size + V.size := by omega
  have n5 : ¬ 9223372036854775807 < 14 + R.size := by omega
  have n6 : ¬ 9223372036854775807 < 14 + R.size + V.size := by omega
  go_enter Tryz.func15, Tryz.ntmps15
  go_upto_region 0 with fail
  go_cut [1, 2] (fun s1 s2 wx => s1 = .pointer (some ⟨w.heap.size, 0, none⟩) ∧ s2 = .string ⟨#[]⟩ ∧ BX wx w.heap.size 25 (.bool p) (.bool q) (.slice a1 n1 c1) (.slice a2 n2 c2) ∧ Below w.heap.size w wx)
  case first =>
    have X := BX.new w 25 (.bool p) (.bool q) (.slice a1 n1 c1) (.slice a2 n2 c2)
    go_wp2_with fail
    go_meet
    exact ⟨rfl, rfl, X, (by repeat' (first | exact Below.refl _ _ | (refine Below.setCell ?_ (by first | (simp; done) | (simp; omega) | omega) _) | (refine Below.drew ?_) | (refine Below.drewN ?_ _) | (refine Below.alloc ?_ (by first | (simp; done) | (simp; omega) | omega) _)))⟩
  case rest =>
  obtain ⟨rfl, rfl, X, B⟩ := hcut
  (skip); have Xz := X.lt; have X0 := X.c0; have X1 := X.c1; have X2 := X.c2; have X3 := X.c3
  have q2 := cell_regrown X2
  have q3 := cell_regrown X3
  have f1 := fun d os => K1.out _ (B.next (below_regrown wc d os))
  have f2 := fun d os => K2.out _ (B.next (below_regrown wc d os))
  clear z1 z2 K1 K2
  cases p
  · cases q
    · have hr := Lib.hid (HE.out ⟨#[]⟩ rfl)
      clear HE
      go_wp2_with fail
      (refine wp_region_quiet_below (by kernel_rfl) (by kernel_rfl) ?_); (repeat (go_big_quiet_step ((go_at_call 35; first | (with_reducible exact Calls.regrown_of (f1 _ _)) | (with_reducible exact Calls.regrown_of (f2 _ _)))))); (refine wpQuiet_nil ?_); intro _ hw'; obtain ⟨⟨dq, osq⟩, hw''⟩ := hw'; (subst hw''); have hq := below_regrown wc dq osq; generalize Go.Sort.grow (redrawn wc dq) osq = wq at hq ⊢
      have hBq := B.next hq
      go_wp2
      go_ret
      exact ⟨by rw [← hr.out]; first | rfl | (simp; done), hBq⟩
    · have hr := Lib.hid (HE.out ⟨#[112, 111, 114, 116, 32, 50, 10]⟩ rfl)
      clear HE
      go_wp2_with fail
      (refine wp_region_quiet_below (by kernel_rfl) (by kernel_rfl) ?_); (repeat (go_big_quiet_step ((go_at_call 35; first | (with_reducible exact Calls.regrown_of (f1 _ _)) | (with_reducible exact Calls.regrown_of (f2 _ _)))))); (refine wpQuiet_nil ?_); intro _ hw'; obtain ⟨⟨dq, osq⟩, hw''⟩ := hw'; (subst hw''); have hq := below_regrown wc dq osq; generalize Go.Sort.grow (redrawn wc dq) osq = wq at hq ⊢
      have hBq := B.next hq
      go_wp2
      go_ret
      exact ⟨by rw [← hr.out]; first | rfl | (simp; done), hBq⟩
  · cases q
    · have hr := Lib.hid (HE.out ⟨#[112, 111, 114, 116, 32, 49, 10]⟩ rfl)
      clear HE
      go_wp2_with fail
      (refine wp_region_quiet_below (by kernel_rfl) (by kernel_rfl) ?_); (repeat (go_big_quiet_step ((go_at_call 35; first | (with_reducible exact Calls.regrown_of (f1 _ _)) | (with_reducible exact Calls.regrown_of (f2 _ _)))))); (refine wpQuiet_nil ?_); intro _ hw'; obtain ⟨⟨dq, osq⟩, hw''⟩ := hw'; (subst hw''); have hq := below_regrown wc dq osq; generalize Go.Sort.grow (redrawn wc dq) osq = wq at hq ⊢
      have hBq := B.next hq
      go_wp2
      go_ret
      exact ⟨by rw [← hr.out]; first | rfl | (simp; done), hBq⟩
    · have hr := Lib.hid (HE.out ⟨#[112, 111, 114, 116, 32, 49, 10, 112, 111, 114, 116, 32, 50, 10]⟩ rfl)
      clear HE
      go_wp2_with fail
      (refine wp_region_quiet_below (by kernel_rfl) (by kernel_rfl) ?_); (repeat (go_big_quiet_step ((go_at_call 35; first | (with_reducible exact Calls.regrown_of (f1 _ _)) | (with_reducible exact Calls.regrown_of (f2 _ _)))))); (refine wpQuiet_nil ?_); intro _ hw'; obtain ⟨⟨dq, osq⟩, hw''⟩ := hw'; (subst hw''); have hq := below_regrown wc dq osq; generalize Go.Sort.grow (redrawn wc dq) osq = wq at hq ⊢
      have hBq := B.next hq
      go_wp2
      go_ret
      exact ⟨by rw [← hr.out]; first | rfl | (simp; done), hBq⟩
end Go.Proofs.YtjiilcnbajcdhaaGreatDoor
