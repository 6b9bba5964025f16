/-
  Package sprite's closure over which sprites are on a line, whether a Y is secret, and Find; lines are from 0 to 255. Over this seat's translation; no condition. (Written by gen_sp.py.)
-/
import Derived.Test.YtphnpahjofacfaaSpc
import Derived.Test.YtphnpahjofacfaaQrw
import Derived.Test.YtphnpahjofacfaaMrw
import Derived.Test.YtphnpahjofacfaaRgx
namespace Go.Proofs.Ytphnpahjofacfaa
open Go.RowKit Go.Sort
set_option linter.unusedSimpArgs false
set_option linter.unusedVariables false
set_option maxRecDepth 20000

theorem Mem.old {n : Nat} {X : List Nat} {w0 w : World} {L : List (Nat × Array Value)} (h : Mem n X w0 w L) {b : Nat} (hb : b < n) (hx : b ∉ X) (o : Nat) : w.cell? ⟨b, o, none⟩ = w0.cell? ⟨b, o, none⟩ := by
  have := h.block b hb hx
  simp only [World.cell?, this]
theorem Ls.mem {n : Nat} {X : List Nat} {w0 w : World} {L : List (Nat × Array Value)} {b off : Nat} {l : List (Int × Bool)} (h : Ls w0 b off l) (H : Mem n X w0 w L) (hb : b < n) (hx : b ∉ X) : Ls w b off l where
  lt := Nat.lt_of_lt_of_le h.lt H.size
  at_ := fun k hk => by rw [H.old hb hx, H.old hb hx]; exact h.at_ k hk
/-- A number that lies in a block. -/
def numN (w : World) (B : Nat) : Nat := match w.cell? ⟨B, 0, none⟩ with
  | some (.int _ n) => n.toNat
  | _ => 0
theorem numN_of {w : World} {B k : Nat} (h : w.cell? ⟨B, 0, none⟩ = some (.int .i64 (k : Int))) : numN w B = k := by
  unfold numN
  rw [h]
  simp
/-- What is next on the line: none, or one, and the rest. -/
def NextQ (l : List (Int × Bool)) (line : Int) (t : Bool) (k : Nat) (i : Int) (m : Bool) (k' : Nat) : Prop :=
  k' ≤ 64 ∧ ((m = false ∧ i = 0 ∧ fromS l line t (64 - k) k = []) ∨ (m = true ∧ ∃ n : Nat, i = (n : Int) ∧ n < 64 ∧ fromS l line t (64 - k) k = n :: fromS l line t (64 - k') k'))
def NextP (l : List (Int × Bool)) (line : Int) (t : Bool) (Bn k : Nat) (w : World) (e : Ending) (w' : World) : Prop :=
  ∃ (i : Int) (m : Bool) (k' : Nat), e = .returned (.tuple #[.int .i64 i, .bool m]) ∧ Mem w.heap.size [Bn] w w' [(Bn, #[.int .i64 (k' : Int)])] ∧ NextQ l line t k i m k'
attribute [local irreducible] wpList
set_option maxHeartbeats 4000000 in
theorem online_next (Bn Bl Bi Bt b off cap k : Nat) (line : Int) (t : Bool) (l : List (Int × Bool)) (w : World) (T : TypeId) (hL : Ls w b off l) (hl : l.length = 256) (hb : bytS l) (hc : 256 ≤ cap) (hm : cap ≤ maxLen) (l0 : 0 ≤ line) (l1 : line < 256) (hk : k ≤ 64)
    (hn : w.heap[Bn]? = some (.cells #[.int .i64 (k : Int)] T)) (h1 : w.cell? ⟨Bl, 0, none⟩ = some (.slice (some ⟨b, off, none⟩) 256 cap)) (h2 : w.cell? ⟨Bi, 0, none⟩ = some (.int .i64 line)) (h3 : w.cell? ⟨Bt, 0, none⟩ = some (.bool t))
    (z1 : Bl < w.heap.size) (z2 : Bi < w.heap.size) (z3 : Bt < w.heap.size) (d0 : b ≠ Bn) (d1 : Bl ≠ Bn) (d2 : Bi ≠ Bn) (d3 : Bt ≠ Bn) :
    Calls Try.prog 35 #[.pointer (some ⟨Bn, 0, none⟩), .pointer (some ⟨Bl, 0, none⟩), .pointer (some ⟨Bi, 0, none⟩), .pointer (some ⟨Bt, 0, none⟩)] w (NextP l line t Bn k w) := by
  have H := Mem.begin hn
  have QH := Lib.hid (fun wr => heightS_ct t wr)
  have QB := Lib.hid (fun i hi wr => bytesof_ct b off cap i hi hc hm wr)
  have QL := Lib.hid (fun o y y0 y1 wr h => belowS_ct b o y line y0 y1 l0 l1 wr h)
  have HL := Lib.hid hL
  have HB := Lib.hid hb
  have H1 := Lib.hid h1
  have H2 := Lib.hid h2
  have H3 := Lib.hid h3
  clear hn h1 h2 h3 hL hb hm
  go_enter Try.func35, Try.ntmps35
  go_wp2
  go_loopw [6, 7] (fun _ _ wr => ∃ j : Nat, k ≤ j ∧ j ≤ 64 ∧ Hid (fromS l line t (64 - k) k = fromS l line t (64 - j) j) ∧ Mem w.heap.size [Bn] w wr [(Bn, #[.int .i64 (j : Int)])]) (fun _ _ wr => 64 - numN wr Bn)
  case atStart => exact ⟨k, Nat.le_refl _, hk, rfl, H⟩
  case round =>
    clear H
    obtain ⟨j, hj, hj64, hF, H⟩ := hrel
    have hmj := Lib.hid (numN_of (H.cell (i := 0) (j := 0) rfl rfl))
    by_cases hlt : j < 64
    · obtain ⟨y, hy⟩ : ∃ y, (nth l (4 * j)).1 = y := ⟨_, rfl⟩
      obtain ⟨y0, y1⟩ := HB.out (4 * j) (by omega)
      rw [hy] at y0 y1
      have hon : onS l line t j = (decide (0 ≤ line - y) && decide (line - y < highS t)) := by unfold onS yS; rw [hy]
      have HO := Lib.hid hon
      clear hon
      go_wp2_with (first | (refine gate_load _ _ rfl ?_; refine wpList_mload1 rfl _ _ rfl _ _ rfl 0 H _ (.int .i64 _) rfl rfl (by decide +kernel) ?_) | (refine gate_store _ _ _ rfl ?_; refine wpList_mstore rfl _ _ _ rfl rfl _ _ rfl 0 H _ _ rfl (.int .i64 _) rfl (by kernel_rfl) (of_decide_eq_true (by kernel_rfl)) (by kernel_rfl) rfl ?_; clear H; intro w1 H; simp only [List.set_cons_zero, List.set_cons_succ] at H) | fail)
      have K1 : _ = _ := (H.old z1 (by simpa using d1) 0).trans H1.out
      have K2 : _ = _ := (H.old z2 (by simpa using d2) 0).trans H2.out
      obtain ⟨hyc, -⟩ := (HL.out.mem H HL.out.lt (by simpa using d0)).at_ (4 * j) (by omega)
      rw [hy, show off + 4 * j * 2 = off + j * 8 by omega] at hyc
      have r1 := cell_regrown K1
      have r2 := cell_regrown K2
      have r4 := cell_regrown hyc
      (try simp only [Act.put, List.setIfInBounds_toArray, List.set_cons_succ, List.set_cons_zero])
      (refine wp_region_quiet_below (by kernel_rfl) (by kernel_rfl) ?_); (repeat (first | go_big_quiet_step ((first | (go_at_call 27; (with_reducible exact Calls.regrown_of (QB.out _ hlt _))) | (go_at_call 36; (with_reducible exact Calls.regrown_of (QL.out _ _ y0 y1 _ (r4 _ _)))) | fail)))); (refine wpQuiet_nil ?_); intro _ hw'; obtain ⟨⟨dq, osq⟩, hw''⟩ := hw'; (subst hw''); replace H := H.next (below_regrown _ dq osq); generalize Go.Sort.grow (redrawn _ dq) osq = wq at *
      have K3 : _ = _ := (H.old z3 (by simpa using d3) 0).trans H3.out
      clear r1 r2 r4 K1 K2 hyc
      have hh := highS_lt t
      by_cases ha : 0 ≤ line - y
      · by_cases hc2 : line - y < highS t
        · have ho := HO.out
          rw [decide_eq_true ha, decide_eq_true hc2] at ho
          have HF2 := Lib.hid (hF.out.trans ((congrArg (fun n => fromS l line t n j) (show 64 - j = (64 - (j + 1)) + 1 by omega)).trans (fromS_yes l line t _ j ho)))
          clear hF ho HO hh hmj
          go_wp2_with (first | (go_at_call 37; (with_reducible refine (QH.out _).mono ?_); rintro e w2 ⟨rfl, hB⟩; replace H := H.next hB; clear hB) | fail)
          go_ret2
          exact ⟨_, true, j + 1, rfl, H, by omega, .inr ⟨rfl, j, rfl, hlt, HF2.out⟩⟩
        · have ho := HO.out
          rw [decide_eq_false hc2, Bool.and_false] at ho
          have HF2 := Lib.hid (hF.out.trans ((congrArg (fun n => fromS l line t n j) (show 64 - j = (64 - (j + 1)) + 1 by omega)).trans (fromS_no l line t _ j ho)))
          clear hF ho HO hh
          go_wp2_with (first | (go_at_call 37; (with_reducible refine (QH.out _).mono ?_); rintro e w2 ⟨rfl, hB⟩; replace H := H.next hB; clear hB) | fail)
          go_roundw
          case rel => exact ⟨j + 1, by omega, by omega, HF2.out, H⟩
          case measure =>
            have h2 := numN_of (k := j + 1) (H.cell (i := 0) (j := 0) rfl rfl)
            have h3 := hmj.out
            simp only [h2, h3]
            omega
      · have ho := HO.out
        rw [decide_eq_false ha, Bool.false_and] at ho
        have HF2 := Lib.hid (hF.out.trans ((congrArg (fun n => fromS l line t n j) (show 64 - j = (64 - (j + 1)) + 1 by omega)).trans (fromS_no l line t _ j ho)))
        clear hF ho HO hh
        go_wp2_with fail
        go_roundw
        case rel => exact ⟨j + 1, by omega, by omega, HF2.out, H⟩
        case measure =>
          have h2 := numN_of (k := j + 1) (H.cell (i := 0) (j := 0) rfl rfl)
          have h3 := hmj.out
          simp only [h2, h3]
          omega
    · obtain rfl : j = 64 := by omega
      have hF2 := Lib.hid hF.out
      clear hF
      go_wp2_with (first | (refine gate_load _ _ rfl ?_; refine wpList_mload1 rfl _ _ rfl _ _ rfl 0 H _ (.int .i64 _) rfl rfl (by decide +kernel) ?_) | fail)
      go_ret2
      exact ⟨_, false, 64, rfl, H, by omega, .inl ⟨rfl, rfl, hF2.out⟩⟩
/-- A closure over those on a line, as it is made. -/
def LineOP (line : Int) (t : Bool) (sv : Value) (w : World) (e : Ending) (w' : World) : Prop :=
  ∃ Bn Bt Bi Bl, e = .returned (.func (.func 35) #[] #[.pointer (some ⟨Bn, 0, none⟩), .pointer (some ⟨Bl, 0, none⟩), .pointer (some ⟨Bi, 0, none⟩), .pointer (some ⟨Bt, 0, none⟩)]) ∧ Mem w.heap.size [] w w' [(Bn, #[.int .i64 ((0 : Nat) : Int)]), (Bt, #[.bool t]), (Bi, #[.int .i64 line]), (Bl, #[sv])]
theorem alloc_sint (w : World) : (Instr.alloc 3 true (.tuple #[])).run Try.prog w = .ok (.pointer (some ⟨w.heap.size, 0, none⟩)) (w.alloc (.cells #[.int .i64 0] 3)) := by kernel_rfl
set_option maxHeartbeats 2000000 in
theorem online_ct (a : Option Addr) (n cap : Nat) (line : Int) (t : Bool) (w : World) : Calls Try.prog 24 #[.slice a n cap, .int .i64 line, .bool t] w (LineOP line t (.slice a n cap) w) := by
  have HZ := Lib.hid alloc_sint
  have H := Mem.start w
  have M1 : True := trivial
  have M2 : True := trivial
  have M3 : True := trivial
  have M4 : True := trivial
  go_enter Try.func24, Try.ntmps24
  go_wp2_with (first | (clear M1; refine wpList_mbox rfl _ _ rfl H #[.slice a n cap] rfl ?_; clear H; intro Bl w1 _ H) | (clear M2; refine wpList_mbox rfl _ _ rfl H #[.int .i64 line] rfl ?_; clear H; intro Bi w1 _ H) | (clear M3; refine wpList_mbox rfl _ _ rfl H #[.bool t] rfl ?_; clear H; intro Bt w1 _ H) | (clear M4; refine wpList_mnew rfl _ rfl H _ HZ.out ?_; clear H; intro Bn w1 _ H) | (refine gate_store _ _ _ rfl ?_; refine wpList_mstore rfl _ _ _ rfl rfl _ _ rfl 0 H _ _ rfl (.int .i64 _) rfl (by kernel_rfl) (of_decide_eq_true (by kernel_rfl)) (by kernel_rfl) rfl ?_; clear H; intro w1 H; simp only [List.set_cons_zero, List.set_cons_succ] at H) | fail)
  go_ret
  exact ⟨_, _, _, _, rfl, H⟩
theorem secF_at (l : List (Int × Bool)) (n k : Nat) (h : (nth l (4 * k)).2 = true) : secF l (n + 1) k = true := by rw [secF, h]; rfl
theorem secF_no (l : List (Int × Bool)) (n k : Nat) (h : (nth l (4 * k)).2 = false) : secF l (n + 1) k = secF l n (k + 1) := by rw [secF, h, Bool.false_or]
set_option maxHeartbeats 2000000 in
theorem anysec_ct (b off cap : Nat) (l : List (Int × Bool)) (w : World) (hL : Ls w b off l) (hl : l.length = 256) (hc : 256 ≤ cap) (hm : cap ≤ maxLen) :
    Calls Try.prog 25 #[.slice (some ⟨b, off, none⟩) 256 cap] w fun e w' => e = .returned (.bool (secY l)) ∧ Below w.heap.size w w' := by
  have QB := Lib.hid (fun i hi wr => bytesof_ct b off cap i hi hc hm wr)
  have HL := Lib.hid hL
  have H := Mem.start w
  unfold secY
  clear hL hm
  go_enter Try.func25, Try.ntmps25
  go_wp2
  go_loopw [3, 4] (fun _ i wr => ∃ k : Nat, k ≤ 64 ∧ i = .int .i64 k ∧ Hid (secF l 64 0 = secF l (64 - k) k) ∧ Mem w.heap.size [] w wr []) (fun _ i _ => 64 - (intOf i).toNat)
  case atStart => exact ⟨0, Nat.zero_le _, rfl, rfl, H⟩
  case round =>
    clear H
    obtain ⟨k, hk, rfl, hF, H⟩ := hrel
    by_cases hlt : k < 64
    · obtain ⟨-, hs⟩ := (HL.out.mem H HL.out.lt (by simp)).at_ (4 * k) (by omega)
      rw [show off + 4 * k * 2 + 1 = off + k * 8 + 1 by omega] at hs
      cases hq : (nth l (4 * k)).2
      · rw [hq] at hs
        have HF2 := Lib.hid (hF.out.trans ((congrArg (fun n => secF l n k) (show 64 - k = (64 - (k + 1)) + 1 by omega)).trans (secF_no l _ k hq)))
        clear hF hq
        go_wp2_with (first | (go_at_call 27; (with_reducible refine (QB.out _ hlt _).mono ?_); rintro e w2 ⟨rfl, hB⟩; replace H := H.next hB; rw [← hB.cell (World.block_lt_of_cell? _ _ hs)] at hs; clear hB) | fail)
        go_roundw
        case rel => exact ⟨k + 1, by omega, by go_num, HF2.out, H⟩
        case measure => simp [intOf]; omega
      · rw [hq] at hs
        have HF2 := Lib.hid (hF.out.trans ((congrArg (fun n => secF l n k) (show 64 - k = (64 - (k + 1)) + 1 by omega)).trans (secF_at l _ k hq)))
        clear hF hq
        go_wp2_with (first | (go_at_call 27; (with_reducible refine (QB.out _ hlt _).mono ?_); rintro e w2 ⟨rfl, hB⟩; replace H := H.next hB; rw [← hB.cell (World.block_lt_of_cell? _ _ hs)] at hs; clear hB) | fail)
        go_ret
        exact ⟨by rw [HF2.out]; rfl, H.toBelow⟩
    · obtain rfl : k = 64 := by omega
      have HF2 := Lib.hid hF.out
      clear hF
      go_wp2
      go_ret
      exact ⟨by rw [HF2.out]; rfl, H.toBelow⟩
end Go.Proofs.Ytphnpahjofacfaa
