/-
  Layer 15's awake: the chapter's examples. Over this seat's translation; no condition. (Written by gen_sp.py.)
-/
import Derived.Test.YtphnpahjofacfaaSpw
namespace Go.Proofs.Ytphnpahjofacfaa
open Go.RowKit Go.Sort
set_option linter.unusedSimpArgs false
set_option linter.unusedVariables false
set_option maxRecDepth 20000

def lA : List (Int × Bool) := flS 256 fun j => if j = 2 then (0, false) else if j = 1 then (3, false) else if j = 0 then (10, false) else (239, false)
theorem lA_len : lA.length = 256 := flS_len _ _
theorem lA_ok : bytS lA := by
  intro k hk
  rw [lA_len] at hk
  unfold lA
  rw [flS_nth _ _ _ hk]
  split
  · decide
  · split
    · decide
    · split <;> decide
theorem lA_on : onL lA 10 false = [0] ∧ onL lA 17 false = [0] ∧ onL lA 18 false = [] ∧ secY lA = false ∧ adrL lA 0 12 true false = 4130 ∧ secA lA 0 = false := by decide +kernel
theorem rowG_eq {cs : Array Value} {cap : Nat} {l m : List (Int × Bool)} (h : RowG bcs 2 cs cap l) (e : l = m) : RowG bcs 2 cs cap m := e ▸ h
theorem awk_find (R : Nat) (line : Int) (n : Nat) (l0 : 0 ≤ line) (l1 : line < 256) (hn : (onL lA line false).length = n) (h8 : n ≤ 8) (w : World) (hL : Ls w R 0 lA) : Calls Try.prog 9 #[.slice (some ⟨R, 0, none⟩) 256 256, .int .i64 line, .bool false] w fun e w' => ∃ b cap s, e = .returned (.tuple #[.slice b n cap, .bool false, .bool s, .int .i64 0]) ∧ Below w.heap.size w w' := by
  refine (sfind_ct R 0 256 line false lA w hL lA_len lA_ok (by decide) (by simp [maxLen]) l0 l1).mono ?_
  rintro e w' ⟨v, blk, rfl, hA, hM⟩
  obtain ⟨b, cap, rfl, _⟩ := hA.shape
  refine ⟨b, cap, secY lA, ?_, hM.toBelow⟩
  rw [List.length_take, hn, Nat.min_eq_right h8, decide_eq_false (by omega)]
attribute [local irreducible] wpList
set_option maxHeartbeats 4000000 in
theorem awake15_ct (w : World) : Calls Try.prog 16 #[] w fun e w' => e = .returned (.bool true) ∧ Below w.heap.size w w' := by
  have QN := Lib.hid (fun wr => none15_ct wr)
  obtain ⟨o1, o2, o3, _, o5, o6⟩ := lA_on
  have Q1 := Lib.hid (fun R wr h => awk_find R 10 1 (by decide) (by decide) (by rw [o1]; rfl) (by decide) wr h)
  have Q2 := Lib.hid (fun R wr h => awk_find R 17 1 (by decide) (by decide) (by rw [o2]; rfl) (by decide) wr h)
  have Q3 := Lib.hid (fun R wr h => awk_find R 18 0 (by decide) (by decide) (by rw [o3]; rfl) (by decide) wr h)
  have Q40 : ∀ (R : Nat) (wr : World) (h : Ls wr R 0 lA), Calls Try.prog 10 #[.slice (some ⟨R, 0, none⟩) 256 256, .int .i64 0, .int .i64 12, .bool true, .bool false] wr fun e w' => e = .returned (.tuple #[.int .u16 (adrL lA 0 12 true false), .bool (secA lA 0), .int .i64 0]) ∧ Below wr.heap.size wr w' := fun R wr h => saddr_ct R 0 256 0 12 true false lA wr h lA_len lA_ok (by decide) (by decide) (by simp [maxLen]) (by decide) (by decide)
  rw [o5, o6] at Q40
  have Q4 := Lib.hid Q40
  have Q5 := Lib.hid (show ∀ wr : World, Calls Try.prog 18 #[.slice none 0 0, .int .i64 0] wr fun e w' => e = .returned (.tuple #[.int .u8 0, .bool false, .bool false]) ∧ Below wr.heap.size wr w' from fun wr => sdot_ct _ [] 0 (by decide) (by decide) wr (rdu0 wr))
  clear Q40 o1 o2 o3 o5 o6
  have H := Mem.start w
  have M1 : True := trivial
  have M2 : True := trivial
  have M3 : True := trivial
  go_enter Try.func16, Try.ntmps16
  go_wp2_with (first | (go_at_call 32; (with_reducible refine (QN.out _).mono ?_); rintro e w2 ⟨R, cs, rfl, hg, hM⟩; replace H := H.join hM; rw [List.append_nil] at H; have HG := Lib.hid hg; clear hg hM) | (clear M1; refine gate_store _ _ _ rfl ?_; refine wpList_rst rfl 5 _ _ rfl rfl _ 0 rfl 0 H rfl HG.out (by simp [flS_len]) 10 rfl (by kernel_rfl) ?_; clear H HG; intro w1 cs2 hg H; simp only [List.set_cons_zero, List.set_cons_succ] at H; have HG := Lib.hid hg; clear hg) | (clear M2; refine gate_store _ _ _ rfl ?_; refine wpList_rst rfl 5 _ _ rfl rfl _ 1 rfl 0 H rfl HG.out (by simp [flS_len]) 3 rfl (by kernel_rfl) ?_; clear H HG; intro w1 cs2 hg H; simp only [List.set_cons_zero, List.set_cons_succ] at H; have HG := Lib.hid hg; clear hg) | (clear M3; refine gate_store _ _ _ rfl ?_; refine wpList_rst rfl 5 _ _ rfl rfl _ 2 rfl 0 H rfl HG.out (by simp [flS_len]) 0 rfl (by kernel_rfl) ?_; clear H HG; intro w1 cs2 hg H; simp only [List.set_cons_zero, List.set_cons_succ] at H; have HG := Lib.hid hg; clear hg) | fail)
  have HGA := Lib.hid (rowG_eq HG.out (show _ = lA by decide +kernel))
  clear HG
  have HG := HGA
  clear HGA
  go_wp2_with (first | (go_at_call 9; (with_reducible refine (Q1.out _ _ (ls_rowG (i := 0) H rfl HG.out)).mono ?_); rintro e w2 ⟨b1, c1, s1, rfl, hB⟩; replace H := H.next hB; clear hB) | (go_at_call 9; (with_reducible refine (Q2.out _ _ (ls_rowG (i := 0) H rfl HG.out)).mono ?_); rintro e w2 ⟨b1, c1, s1, rfl, hB⟩; replace H := H.next hB; clear hB) | (go_at_call 9; (with_reducible refine (Q3.out _ _ (ls_rowG (i := 0) H rfl HG.out)).mono ?_); rintro e w2 ⟨b1, c1, s1, rfl, hB⟩; replace H := H.next hB; clear hB) | (go_at_call 10; (with_reducible refine (Q4.out _ _ (ls_rowG (i := 0) H rfl HG.out)).mono ?_); rintro e w2 ⟨rfl, hB⟩; replace H := H.next hB; clear hB) | (go_at_call 18; (with_reducible refine (Q5.out _).mono ?_); rintro e w2 ⟨rfl, hB⟩; replace H := H.next hB; clear hB) | fail)
  go_ret
  exact ⟨rfl, H.toBelow⟩
end Go.Proofs.Ytphnpahjofacfaa
