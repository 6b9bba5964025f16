/-
  Package policy's areas, which ranges go beyond one, and which policies may be: contracts over this seat's translation; no condition but that ranges read as lists.
-/
import Derived.Test.YtfceifmhlmiiiaaGreatDoorRng
import Derived.Test.YtfceifmhlmiiiaaGreatDoorLbl
import Derived.Laws.ResultCell
namespace Go.Proofs.YtfceifmhlmiiiaaGreatDoor
open Go.RowKit

def topB (n : Int) (l : List (Int × Int)) : Bool := l.any fun r => decide (n ≤ r.2)
theorem topB_hit (n : Int) (l : List (Int × Int)) (k : Nat) (a b : Int) (h : k < l.length) (hab : nthR l k = (a, b)) (hb : n ≤ b) : topB n l = true := by
  refine List.any_eq_true.2 ⟨nthR l k, mem_getD l k (0, 0) h, ?_⟩
  rw [hab]; simpa using hb
theorem topB_take (n : Int) (l : List (Int × Int)) (k : Nat) (a b : Int) (h : k < l.length) (hab : nthR l k = (a, b)) (hb : ¬ n ≤ b) (ht : topB n (l.take k) = false) : topB n (l.take (k + 1)) = false := by
  unfold topB at ht ⊢
  rw [take_snoc' l k (0, 0) h, List.any_append, ht, show l.getD k (0, 0) = (a, b) from hab]
  simpa using hb
set_option maxHeartbeats 1000000 in
theorem beyond_ct (s : ByteArray) (n a b : Int) (sa : Option Addr) (len cap : Nat) (w : World) :
    Calls Tryz.prog 21 #[.agg #[.string s, .int .i64 n, .slice sa len cap], .agg #[.int .i64 a, .int .i64 b]] w fun e w' => e = .returned (.bool (decide (n ≤ b))) ∧ Below w.heap.size w w' := by
  go_enter Tryz.func21, Tryz.ntmps21
  go_wp2
  go_ret
  exact ⟨rfl, (by repeat' (first | exact Below.refl _ _ | (refine Below.setCell ?_ (by first | (simp; done) | (simp; omega) | omega) _) | (refine Below.drew ?_) | (refine Below.drewN ?_ _) | (refine Below.alloc ?_ (by first | (simp; done) | (simp; omega) | omega) _)))⟩
def areaV (s : ByteArray) (n : Int) (v : Value) : Value := .agg #[.string s, .int .i64 n, v]
/-- What IndexFunc tells of a list: a place from 0 on, just if one goes beyond. -/
def AIdxP (t : Bool) (w : World) (e : Ending) (w' : World) : Prop := ∃ i : Int, e = .returned (.int .i64 i) ∧ decide (0 ≤ i) = t ∧ Below w.heap.size w w'
set_option maxHeartbeats 4000000 in
theorem aidx_ct (s : ByteArray) (n : Int) (va : Option Addr) (vl vc : Nat) (sv : Value) (l : List (Int × Int)) (w : World) (hr : Rg w sv l) :
    Calls Tryz.prog 65 #[sv, .func (.func 21) #[.agg #[.string s, .int .i64 n, .slice va vl vc]] #[]] w (AIdxP (topB n l) w) := by
  obtain ⟨sa, cap, rfl, hcap, hn, hr⟩ := hr
  unfold maxLen at hn
  rcases hr with rfl | ⟨sb, off, rfl, hb, hc⟩
  · go_enter Tryz.func65, Tryz.ntmps65
    go_wp2
    go_loopw [5, 8] (fun _ i wr => i = .int .i64 0 ∧ wr = w) (fun _ i _ => 0)
    case atStart => exact ⟨rfl, rfl⟩
    case round =>
      obtain ⟨rfl, rfl⟩ := hrel
      go_wp2
      go_ret
      exact ⟨-1, rfl, rfl, Below.refl _ _⟩
  have Hc := Lib.hid hc
  clear hc
  go_enter Tryz.func65, Tryz.ntmps65
  go_wp2
  go_loopw [5, 8] (fun _ i wr => ∃ k : Nat, k ≤ l.length ∧ i = .int .i64 k ∧ Hid (topB n (l.take k) = false) ∧ Below w.heap.size w wr) (fun _ i _ => l.length - (intOf i).toNat)
  case atStart => exact ⟨0, Nat.zero_le _, rfl, rfl, Below.refl _ _⟩
  case round =>
    obtain ⟨k, hk, rfl, ht, hB⟩ := hrel
    by_cases hlt : k < l.length
    · obtain ⟨h1, h2⟩ := Hc.out k hlt
      rw [← hB.cell hb] at h1 h2
      obtain ⟨a, b, hab⟩ : ∃ a b, nthR l k = (a, b) := ⟨_, _, rfl⟩
      by_cases hq : n ≤ b
      · have Ht := Lib.hid (topB_hit n l k a b hlt hab hq)
        rw [hab] at h1 h2
        dsimp only at h1 h2
        have hf := fun W => beyond_ct s n a b va vl vc W
        rw [decide_eq_true hq] at hf
        clear hab ht Hc
        go_wp2_with fail
        refine (hf _).mono ?_
        rintro e w1 ⟨rfl, hB1⟩
        go_wp2
        go_ret
        exact ⟨k, rfl, by rw [Ht.out]; simp, hB.next hB1⟩
      · have Ht := Lib.hid (topB_take n l k a b hlt hab hq ht.out)
        rw [hab] at h1 h2
        dsimp only at h1 h2
        have hf := fun W => beyond_ct s n a b va vl vc W
        rw [decide_eq_false hq] at hf
        clear hab ht Hc
        go_wp2_with fail
        refine (hf _).mono ?_
        rintro e w1 ⟨rfl, hB1⟩
        go_wp2
        go_roundw
        case rel => exact ⟨k + 1, by omega, by go_num, Ht, hB.next hB1⟩
        case measure => simp [intOf]; omega
    · have Ht : Hid (topB n l = false) := by rw [List.take_of_length_le (by omega)] at ht; exact ht
      clear Hc ht
      go_wp2
      go_ret
      exact ⟨-1, rfl, by rw [Ht.out]; rfl, hB⟩
set_option maxHeartbeats 1000000 in
theorem acontains_ct (s : ByteArray) (n : Int) (va : Option Addr) (vl vc : Nat) (sv : Value) (l : List (Int × Int)) (w : World) (hr : Rg w sv l) :
    Calls Tryz.prog 49 #[sv, .func (.func 21) #[.agg #[.string s, .int .i64 n, .slice va vl vc]] #[]] w fun e w' => e = .returned (.bool (topB n l)) ∧ Below w.heap.size w w' := by
  have Hr := Lib.hid hr
  obtain ⟨sa, cap, rfl, hcap, hn, _⟩ := hr
  go_enter Tryz.func49, Tryz.ntmps49
  go_wp2_with fail
  refine (aidx_ct s n va vl vc _ l _ Hr.out).mono ?_
  rintro e w1 ⟨i, rfl, hi, hB⟩
  go_wp2
  go_ret
  exact ⟨by rw [← hi]; rfl, hB⟩
set_option maxHeartbeats 2000000 in
theorem areas_ct (p q : Bool) (ra sa : Option Addr) (rl rc sl sc : Nat) (w : World) :
    Calls Tryz.prog 8 #[.agg #[.bool p, .bool q, .slice ra rl rc, .slice sa sl sc]] w fun e w' => e = .returned (.agg #[.string ⟨#[114, 97, 109, 32]⟩, .int .i64 2048, .slice ra rl rc, .string ⟨#[115, 97, 118, 101, 32]⟩, .int .i64 8192, .slice sa sl sc]) ∧ Below w.heap.size w w' := by
  go_enter Tryz.func8, Tryz.ntmps8
  go_wp2
  exact bodyPost_ret (v := .agg #[.string ⟨#[114, 97, 109, 32]⟩, .int .i64 2048, .slice ra rl rc, .string ⟨#[115, 97, 118, 101, 32]⟩, .int .i64 8192, .slice sa sl sc]) (by simp [results, Tryz.results8, go_sem]) rfl ⟨rfl, (by repeat' (first | exact Below.refl _ _ | (refine Below.setCell ?_ (by first | (simp; done) | (simp; omega) | omega) _) | (refine Below.drew ?_) | (refine Below.drewN ?_ _) | (refine Below.alloc ?_ (by first | (simp; done) | (simp; omega) | omega) _)))⟩
end Go.Proofs.YtfceifmhlmiiiaaGreatDoor
