/-
  The document's own lines of ranges: what they read as. Over this seat's translation; of at most 20 ranges that may be.
-/
import Derived.Test.YtjiilcnbajcdhaaGreatDoorRnu
import Derived.Test.YtjiilcnbajcdhaaGreatDoorPrt
import Derived.Test.YtjiilcnbajcdhaaGreatDoorRng
namespace Go.Proofs.YtjiilcnbajcdhaaGreatDoor
open Go.RowKit Go.Shelf

theorem fourB_num4 (n : Nat) (h : n < 65536) : fourB (n : Int) = num4 n := by
  have hd : ∀ j : Fin 16, (strOfNums [digB ((j.val : Nat) : Int)]).data.toList = [dg j.val] := by decide
  have h3 := hd ⟨n / 4096, by omega⟩
  have h2 := hd ⟨n / 256 % 16, by omega⟩
  have h1 := hd ⟨n / 16 % 16, by omega⟩
  have h0 := hd ⟨n % 16, by omega⟩
  simp only [strOfNums, List.map_cons, List.map_nil, List.cons.injEq, and_true] at h3 h2 h1 h0
  unfold fourB fourI num4
  simp only [Int.toNat_natCast, strOfNums, List.map_cons, List.map_nil, h3, h2, h1, h0]
set_option maxRecDepth 100000 in
set_option maxHeartbeats 4000000 in
theorem rlines_ct (w0 : ByteArray) (sv : Value) (l : List (Int × Int)) (w : World) (hr : Rg w sv l) (hw : w0.size ≤ 5) (hl : l.length ≤ 20) (hb : ∀ k, k < l.length → ∃ a b : Nat, nthR l k = ((a : Int), (b : Int)) ∧ a < 65536 ∧ b < 65536) :
    Calls Tryz.prog 35 #[.string w0, sv] w fun e w' => ∃ A : ByteArray, e = .returned (.string A) ∧ A.data.toList = linesP (w0.data.toList ++ [32]) l ∧ Below w.heap.size w w' := by
  obtain ⟨sa, cap, rfl, hcap, hn, hr⟩ := hr
  unfold maxLen at hn
  have hwl : w0.data.toList.length = w0.size := by rw [Array.length_toList]; rfl
  have hw' : ∀ k, k < l.length → ∃ b off, sa = some ⟨b, off, none⟩ ∧ b < w.heap.size ∧ w.cell? ⟨b, off + k * 2, none⟩ = some (.int .i64 (nthR l k).1) ∧ w.cell? ⟨b, off + k * 2 + 1, none⟩ = some (.int .i64 (nthR l k).2) := fun k hk => by
    rcases hr with rfl | ⟨b, off, rfl, hb, hc⟩
    · simp at hk
    exact ⟨b, off, rfl, hb, hc k hk⟩
  have Hw := Lib.hid hw'
  have Hb := Lib.hid hb
  have Hwl := Lib.hid hwl
  clear hw' hr hb hwl
  go_enter Tryz.func35, Tryz.ntmps35
  go_wp2
  go_loopw [5, 6] (fun u i wr => ∃ (k : Nat) (A : ByteArray), k ≤ l.length ∧ i = .int .i64 k ∧ u = .string A ∧ Hid (A.data.toList = linesP (w0.data.toList ++ [32]) (l.take k)) ∧ Below w.heap.size w wr) (fun _ i _ => l.length - (intOf i).toNat)
  case atStart => exact ⟨0, ⟨#[]⟩, Nat.zero_le _, rfl, rfl, rfl, Below.refl _ _⟩
  case round =>
    obtain ⟨k, A, hk, rfl, rfl, hA, hB⟩ := hrel
    by_cases hlt : k < l.length
    · obtain ⟨b, off, rfl, hbl, c1, c2⟩ := Hw.out k hlt
      rw [← hB.cell hbl] at c1 c2
      obtain ⟨x, y, hxy, hx, hy⟩ := Hb.out k hlt
      have hnext := linesP_take (w0.data.toList ++ [32]) l k hlt
      rw [hxy] at c1 c2 hnext
      dsimp only at c1 c2
      have hAs : A.size = k * (w0.size + 1 + 10) := by
        have h1 : A.data.toList.length = A.size := by rw [Array.length_toList]; rfl
        rw [← h1, hA.out, linesP_length, List.length_append, List.length_take, Hwl.out, Nat.min_eq_left hk]
        rfl
      have hAb : A.size ≤ 20 * 16 := by
        rw [hAs]
        exact Nat.mul_le_mul (by omega) (by omega)
      have q1 := cell_regrown c1
      have q2 := cell_regrown c2
      have kx := fun W => rfour_ct x hx W
      have ky := fun W => rfour_ct y hy W
      have sx := rfB_size x
      have sy := rfB_size y
      have lx := rfB_list x hx
      have ly := rfB_list y hy
      generalize rfB x = X at *
      generalize rfB y = Y at *
      have hL : Hid ((A ++ (w0 ++ ⟨#[32]⟩ ++ X ++ ⟨#[45]⟩ ++ Y ++ ⟨#[10]⟩)).data.toList = linesP (w0.data.toList ++ [32]) (l.take (k + 1))) := by
        rw [Hid, hnext, ← hA.out]
        unfold lineP
        rw [fourB_num4 x hx, fourB_num4 y hy]
        simp only [ByteArray.data_append, Array.toList_append, lx, ly, List.append_assoc]
      have n1 : ¬ 9223372036854775807 < w0.size + 1 := by omega
      have n2 : ¬ 9223372036854775807 < w0.size + 1 + X.size := by omega
      have n3 : ¬ 9223372036854775807 < w0.size + 1 + X.size + 1 := by omega
      have n4 : ¬ 9223372036854775807 < w0.size + 1 + X.size + 1 + Y.size := by omega
      have n5 : ¬ 9223372036854775807 < w0.size + 1 + X.size + 1 + Y.size + 1 := by omega
      have n6 : ¬ 9223372036854775807 < A.size + (w0.size + 1 + X.size + 1 + Y.size + 1) := by omega
      clear hA hnext hxy lx ly sx sy hAs hAb Hw Hb
      go_wp2_with fail
      (refine wp_region_quiet_below (by kernel_rfl) (by kernel_rfl) ?_); (repeat (go_big_quiet_step ((go_at_call 56; first | (with_reducible exact Calls.regrown_of (kx _)) | (with_reducible exact Calls.regrown_of (ky _)))))); (refine wpQuiet_nil ?_); intro _ hw'; obtain ⟨⟨dq, osq⟩, hw''⟩ := hw'; (subst hw''); have hq := below_regrown wr dq osq; generalize Go.Sort.grow (redrawn wr dq) osq = wq at hq ⊢
      have hBq := hB.next hq
      go_wp2
      go_roundw
      case rel => exact ⟨k + 1, _, by omega, by go_num, rfl, hL, hBq⟩
      case measure => simp [intOf]; omega
    · have hE : Hid (A.data.toList = linesP (w0.data.toList ++ [32]) l) := by
        have := hA.out
        rw [List.take_of_length_le (by omega)] at this
        exact this
      clear hA Hw Hb
      go_wp2
      go_ret
      exact ⟨A, rfl, hE.out, hB⟩
end Go.Proofs.YtjiilcnbajcdhaaGreatDoor
