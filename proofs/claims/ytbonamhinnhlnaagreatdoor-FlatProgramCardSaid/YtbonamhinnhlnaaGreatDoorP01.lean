/-
  Several texts in one: what is read and written by the functions on the way to the statements. Conditions stand in each theorem.
-/
import Derived.Test.YtbonamhinnhlnaaGreatDoorProg
import Derived.WalkKit
import Derived.WalkSpells
import Derived.WalkLawsBesides
import Derived.Lib.Hide
import Derived.Deep.RegionHeld3
import Derived.StillTailTactics
import Derived.Deep.QuietTactic
import Derived.BigQuiet
import Derived.Deep.DeepCutAuto
import Derived.Laws.BitsAllLaws
import Derived.Test.YtbonamhinnhlnaaGreatDoorRows
import Derived.ProofKit
import Derived.Deep.Slices
import Derived.OpenShut
import Derived.ShutString
import Derived.ChangeOld
import Derived.Below
namespace Go.Proofs.YtbonamhinnhlnaaGreatDoor
open Go.RowKit

def nth (l : List (Int × Bool)) (k : Nat) : Int × Bool := l.getD k (0, false)
def anyS (l : List (Int × Bool)) : Bool := l.any (·.2)
theorem anyS_take (l : List (Int × Bool)) (k : Nat) (h : k < l.length) : anyS (l.take (k + 1)) = (anyS (l.take k) || (nth l k).2) := by
  unfold anyS nth
  rw [List.take_succ_eq_append_getElem h, List.any_append]
  simp [List.getD_eq_getElem?_getD, h]
theorem anyS_stop (l : List (Int × Bool)) (k : Nat) (h : k < l.length) (hk : (nth l k).2 = true) : anyS l = true := by
  unfold anyS
  rw [List.any_eq_true]
  refine ⟨l[k], List.getElem_mem h, ?_⟩
  unfold nth at hk
  simpa [List.getD_eq_getElem?_getD, h] using hk
theorem anyS_end (l : List (Int × Bool)) (k : Nat) (h : ¬ k < l.length) (hk : anyS (l.take k) = false) : anyS l = false := by
  rw [List.take_of_length_le (by omega)] at hk; exact hk
theorem anyS_one (a : Int) (s : Bool) : anyS [(a, s)] = s := by simp [anyS]
theorem anyS_two (a b : Int) (s t : Bool) : anyS [(a, s), (b, t)] = (s || t) := by simp [anyS]
theorem anyS_three (a b c : Int) (s t u : Bool) : anyS [(a, s), (b, t), (c, u)] = (s || (t || u)) := by simp [anyS]

/-- A slice of bytes that reads as a list. -/
def Rd (w : World) (v : Value) (l : List (Int × Bool)) : Prop :=
  ∃ a cap, v = .slice a l.length cap ∧ l.length ≤ cap ∧ cap ≤ maxLen ∧ (l = [] ∨ ∃ b off, a = some ⟨b, off, none⟩ ∧ b < w.heap.size ∧
    ∀ k, k < l.length → w.cell? ⟨b, off + k * 2, none⟩ = some (.int .u8 (nth l k).1) ∧ w.cell? ⟨b, off + k * 2 + 1, none⟩ = some (.bool (nth l k).2))

theorem rd1 {w : World} {b : Nat} (hb : b = w.heap.size) (a : Int) (s : Bool) (T : Nat) :
    Rd (w.alloc (.cells #[.int .u8 a, .bool s] T)) (.slice (some ⟨b, 0, none⟩) 1 1) [(a, s)] := by
  subst hb
  refine ⟨_, _, rfl, by simp, by simp [maxLen], .inr ⟨_, _, rfl, by simp, fun k hk => ?_⟩⟩
  match k, hk with
  | 0, _ => simp [nth, go_sem]
theorem rd2 {w : World} {b : Nat} (hb : b = w.heap.size) (a c : Int) (s t : Bool) (T : Nat) :
    Rd (w.alloc (.cells #[.int .u8 a, .bool s, .int .u8 c, .bool t] T)) (.slice (some ⟨b, 0, none⟩) 2 2) [(a, s), (c, t)] := by
  subst hb
  refine ⟨_, _, rfl, by simp, by simp [maxLen], .inr ⟨_, _, rfl, by simp, fun k hk => ?_⟩⟩
  match k, hk with
  | 0, _ => simp [nth, go_sem]
  | 1, _ => simp [nth, go_sem]
/-- What reads as a list does so in each later world that has not written below. -/
theorem Rd.below {w w' : World} {v : Value} {l : List (Int × Bool)} (h : Rd w v l) (hb : Below w.heap.size w w') : Rd w' v l := by
  obtain ⟨a, cap, hv, hl, hm, h⟩ := h
  refine ⟨a, cap, hv, hl, hm, ?_⟩
  rcases h with h | ⟨b, off, ha, hlt, hc⟩
  · exact .inl h
  · refine .inr ⟨b, off, ha, Nat.lt_of_lt_of_le hlt hb.size, fun k hk => ?_⟩
    obtain ⟨h1, h2⟩ := hc k hk
    rw [hb.cell (p := ⟨b, off + k * 2, none⟩) hlt, hb.cell (p := ⟨b, off + k * 2 + 1, none⟩) hlt]
    exact ⟨h1, h2⟩

theorem bcell {W w1 : World} (hb : Below W.heap.size W w1) : (∀ b o, b < W.heap.size → w1.cell? ⟨b, o, none⟩ = W.cell? ⟨b, o, none⟩) ∧ (∀ b o, b < W.heap.size → w1.frozen? ⟨b, o, none⟩ = W.frozen? ⟨b, o, none⟩) :=
  ⟨fun b o h => hb.cell (p := ⟨b, o, none⟩) h, fun b o h => hb.frozen (p := ⟨b, o, none⟩) h⟩
theorem _root_.Go.RowKit.Below.next {w a b : World} (h : Below w.heap.size w a) (k : Below a.heap.size a b) : Below w.heap.size w b := h.trans (k.mono h.size)
theorem Below.drewN {B : Nat} {a w : World} (h : Below B a w) (n : Nat) : Below B a (w.drewN n) := below_drewN h n

set_option maxHeartbeats 400000 in
theorem any_ct (sv : Value) (l : List (Int × Bool)) (w : World) (hr : Rd w sv l) :
    Calls Tryz.prog 171 #[sv] w fun e w' => e = .returned (.bool (anyS l)) ∧ Below w.heap.size w w' := by
  obtain ⟨a, cap, rfl, hcap, hn, hr⟩ := hr
  unfold maxLen at hn
  rcases hr with rfl | ⟨b, off, rfl, hb, hc⟩
  · go_enter Tryz.func171, Tryz.ntmps171
    go_wp2
    go_loopw [4, 7] (fun _ i wr => i = .int .i64 0 ∧ wr = w) (fun _ i _ => 0)
    case atStart => exact ⟨rfl, rfl⟩
    case round =>
      obtain ⟨rfl, rfl⟩ := hrel
      go_wp2
      go_ret
      exact ⟨rfl, Below.refl _ _⟩
  have Hc := Lib.hid hc
  clear hc
  go_enter Tryz.func171, Tryz.ntmps171
  go_wp2
  go_loopw [4, 7] (fun _ i wr => ∃ k : Nat, k ≤ l.length ∧ i = .int .i64 k ∧ Hid (anyS (l.take k) = false) ∧ Below w.heap.size w wr) (fun _ i _ => l.length - (intOf i).toNat)
  case atStart => exact ⟨0, Nat.zero_le _, rfl, by simp [Hid, anyS], Below.refl _ _⟩
  case round =>
    obtain ⟨k, hk, rfl, he, hB⟩ := hrel
    by_cases hlt : k < l.length
    · obtain ⟨h1, h2⟩ := Hc.out k hlt
      rw [← hB.cell hb] at h1 h2
      have hs := anyS_take l k hlt
      have hstop := anyS_stop l k hlt
      rw [he.out] at hs
      generalize (nth l k).2 = s at *
      generalize (nth l k).1 = v at *
      clear he
      cases s
      · have Hs : Hid (anyS (l.take (k + 1)) = false) := by rw [Bool.false_or] at hs; exact hs
        have hB' := (hB.alloc hB.size (.cells #[.int .u8 v, .bool false] 23))
        clear hs hstop Hc
        go_wp2
        go_roundw
        case rel => exact ⟨k + 1, by omega, by go_num, Hs, hB'⟩
        case measure => simp [intOf]; omega
      · have Hs : Hid (anyS l = true) := hstop rfl
        have hB' := (hB.alloc hB.size (.cells #[.int .u8 v, .bool true] 23))
        clear hs hstop Hc
        go_wp2
        go_ret
        exact ⟨by rw [Hs.out]; rfl, hB'⟩
    · have Hs : Hid (anyS l = false) := anyS_end l k hlt he.out
      clear Hc he
      go_wp2
      go_ret
      exact ⟨by rw [Hs.out]; rfl, hB⟩

set_option maxHeartbeats 400000 in
theorem low_ct (v : Int) (w : World) :
    Calls Tryz.prog 172 #[.int .u8 v] w fun e w' => e = .returned (.agg #[.int .u8 v, .bool false]) ∧ Below w.heap.size w w' := by
  go_enter Tryz.func172, Tryz.ntmps172
  go_wp2
  exact bodyPost_ret (v := .agg #[.int .u8 v, .bool false]) (by simp [results, Tryz.results172, go_sem]) rfl ⟨rfl, (by repeat' (first | exact Below.refl _ _ | (refine Below.setCell ?_ (by first | (simp; done) | (simp; omega) | omega) _) | (refine Below.drew ?_) | (refine Below.drewN ?_ _) | (refine Below.alloc ?_ (by first | (simp; done) | (simp; omega) | omega) _)))⟩
end Go.Proofs.YtbonamhinnhlnaaGreatDoor
namespace Go.Proofs.YtbonamhinnhlnaaGreatDoor
open Go.ChangeShapes Go.WideShapes Go.ChangeAt Go.RowKit Go.Deep

theorem own : ownKnob Tryz.prog.godebug = none := by kernel_rfl
theorem laidOut : laidOutB Tryz.prog = true := by kernel_rfl

section
variable {H : Type} {enc : TypeId × Value → H} {P : Program} {w : World} {base : Nat} {spare : Nat → Bool} {held : Bool}
/-- A struct that came in, as its cells. -/
theorem open_cells {r : Reach} {b0 : Nat} {t : TypeId} {fs : Array Field} {v : Value} {d : DataW H} {p : List MemPlace} (hs : P.underlying t = some (.struct fs)) (hv : Value.okWide P w r b0 t v) (h : DataW.Trod enc P w base spare held t v d p) :
    ∃ (cs : List Value) (fuel : Nat) (x : DataW H × List MemPlace), v = .agg ⟨cs⟩ ∧ cs.length = P.cellsOf t ∧ DataW.trod enc P w base spare held fuel t cs = some x := by
  obtain ⟨cs, rfl, hsz⟩ := okWide_struct hs hv
  obtain ⟨fuel, hf⟩ := h
  obtain ⟨l⟩ := cs
  exact ⟨l, fuel, _, rfl, by simpa using hsz, by simpa [Value.cells] using hf⟩
/-- One field of a struct's cells. -/
theorem open_field {t : TypeId} {fs : Array Field} {fuel : Nat} {cs : List Value} {x : DataW H × List MemPlace} (hs : P.underlying t = some (.struct fs)) (h : DataW.trod enc P w base spare held fuel t cs = some x) (i : Nat) {f : Field} (hf : fs[i]? = some f) (T off m : Nat) (hT : f.type = T) (ho : f.offset = off) (hm : P.cellsOf T = m) :
    ∃ (n : Nat) (y : DataW H × List MemPlace), DataW.trod enc P w base spare held n T ((cs.drop off).take m) = some y := by
  obtain ⟨xs, n, _, _, _, hlen, hg⟩ := DataW.trod_struct hs h
  have hi : i < xs.length := by
    rw [hlen]
    exact (Array.getElem?_eq_some_iff.1 hf).1
  have h1 := hg i f hf
  rw [hT, ho, hm] at h1
  exact ⟨n, xs[i], by rw [h1, List.getElem?_eq_getElem hi]⟩
end

section
variable {H : Type} {enc : TypeId × Value → H} {w : World} {base : Nat} {spare : Nat → Bool} {held : Bool}
theorem c_byte : Tryz.prog.cellsOf 23 = 2 := by kernel_rfl
theorem c_u8 : Tryz.prog.cellsOf 5 = 1 := by kernel_rfl
theorem c_bool : Tryz.prog.cellsOf 4 = 1 := by kernel_rfl
theorem wf_u8 {n : Int} (h : (Lit.int .u8 n).wf = true) : 0 ≤ n ∧ n < 256 := by
  have := bounds_u8 h
  omega
theorem open_u8 {fuel : Nat} {cs : List Value} {x : DataW H × List MemPlace} (h : DataW.trod enc Tryz.prog w base spare held fuel 5 cs = some x) : ∃ v : Int, cs = [.int .u8 v] ∧ 0 ≤ v ∧ v < 256 := by
  obtain ⟨v, hv, _, hw⟩ := DataW.trod_int Tryz.underlying5 h
  exact ⟨v, hv, wf_u8 hw⟩
theorem open_boolc {fuel : Nat} {cs : List Value} {x : DataW H × List MemPlace} (h : DataW.trod enc Tryz.prog w base spare held fuel 4 cs = some x) : ∃ v : Bool, cs = [.bool v] := by
  obtain ⟨v, hv, _⟩ := DataW.trod_bool Tryz.underlying4 h
  exact ⟨v, hv⟩
/-- A byte's two cells. -/
theorem open_byte {fuel : Nat} {cs : List Value} {x : DataW H × List MemPlace} (hl : cs.length = 2) (h : DataW.trod enc Tryz.prog w base spare held fuel 23 cs = some x) : ∃ (v : Int) (s : Bool), cs = [.int .u8 v, .bool s] ∧ 0 ≤ v ∧ v < 256 := by
  match cs, hl with
  | [c0, c1], _ =>
    obtain ⟨n0, y0, h0⟩ := open_field Tryz.underlying23 h 0 rfl 5 0 1 rfl rfl c_u8
    obtain ⟨n1, y1, h1⟩ := open_field Tryz.underlying23 h 1 rfl 4 1 1 rfl rfl c_bool
    obtain ⟨v, hv, hb⟩ := open_u8 h0
    obtain ⟨s, hs⟩ := open_boolc h1
    simp at hv hs
    exact ⟨v, s, by rw [hv, hs], hb⟩
end
end Go.Proofs.YtbonamhinnhlnaaGreatDoor
namespace Go.Proofs.YtbonamhinnhlnaaGreatDoor
open Go.RowKit

set_option maxHeartbeats 400000 in
theorem of_ct (v : Int) (sv : Value) (l : List (Int × Bool)) (w : World) (hr : Rd w sv l) :
    Calls Tryz.prog 218 #[.int .u8 v, sv] w fun e w' => e = .returned (.agg #[.int .u8 v, .bool (anyS l)]) ∧ Below w.heap.size w w' := by
  have hr' := fun o => hr.below ((Below.refl _ _).alloc (Nat.le_refl _) o)
  have Hr := Lib.hid hr'
  clear hr' hr
  go_enter Tryz.func218, Tryz.ntmps218
  go_wp2_with fail
  refine (any_ct _ l _ (Hr.out _)).mono ?_
  rintro e w1 ⟨rfl, hB⟩
  obtain ⟨hc, hf⟩ := bcell hB
  simp at hc hf
  go_wp2
  exact bodyPost_ret (v := .agg #[.int .u8 v, .bool (anyS l)]) (by simp [results, Tryz.results218, go_sem, hc]) rfl ⟨rfl, (by repeat' (first | exact Below.refl _ _ | (refine Below.setCell ?_ (by first | (simp; done) | (simp; omega) | omega) _) | (refine Below.drew ?_) | (refine Below.drewN ?_ _) | (refine Below.alloc ?_ (by first | (simp; done) | (simp; omega) | omega) _) | (refine Below.trans ?_ (Below.mono hB (by first | (simp; done) | (simp; omega) | omega)))))⟩

set_option maxHeartbeats 400000 in
theorem and_ct (a b : Int) (s t : Bool) (w : World) :
    Calls Tryz.prog 227 #[.agg #[.int .u8 a, .bool s], .agg #[.int .u8 b, .bool t]] w fun e w' => e = .returned (.agg #[.int .u8 (bits .and .u8 a b), .bool (s || t)]) ∧ Below w.heap.size w w' := by
  go_enter Tryz.func227, Tryz.ntmps227
  go_wp2_with fail
  refine (of_ct _ _ [(a, s), (b, t)] _ (rd2 (by simp) _ _ _ _ _)).mono ?_
  rintro e w1 ⟨rfl, hB⟩
  obtain ⟨hc, hf⟩ := bcell hB
  simp at hc hf
  rw [anyS_two]
  go_wp2
  exact bodyPost_ret (v := .agg #[.int .u8 (bits .and .u8 a b), .bool (s || t)]) (by simp [results, Tryz.results227, go_sem, hc]) rfl ⟨rfl, (by repeat' (first | exact Below.refl _ _ | (refine Below.setCell ?_ (by first | (simp; done) | (simp; omega) | omega) _) | (refine Below.drew ?_) | (refine Below.drewN ?_ _) | (refine Below.alloc ?_ (by first | (simp; done) | (simp; omega) | omega) _) | (refine Below.trans ?_ (Below.mono hB (by first | (simp; done) | (simp; omega) | omega)))))⟩
set_option maxHeartbeats 400000 in
theorem or_ct (a b : Int) (s t : Bool) (w : World) :
    Calls Tryz.prog 228 #[.agg #[.int .u8 a, .bool s], .agg #[.int .u8 b, .bool t]] w fun e w' => e = .returned (.agg #[.int .u8 (bits .or .u8 a b), .bool (s || t)]) ∧ Below w.heap.size w w' := by
  go_enter Tryz.func228, Tryz.ntmps228
  go_wp2_with fail
  refine (of_ct _ _ [(a, s), (b, t)] _ (rd2 (by simp) _ _ _ _ _)).mono ?_
  rintro e w1 ⟨rfl, hB⟩
  obtain ⟨hc, hf⟩ := bcell hB
  simp at hc hf
  rw [anyS_two]
  go_wp2
  exact bodyPost_ret (v := .agg #[.int .u8 (bits .or .u8 a b), .bool (s || t)]) (by simp [results, Tryz.results228, go_sem, hc]) rfl ⟨rfl, (by repeat' (first | exact Below.refl _ _ | (refine Below.setCell ?_ (by first | (simp; done) | (simp; omega) | omega) _) | (refine Below.drew ?_) | (refine Below.drewN ?_ _) | (refine Below.alloc ?_ (by first | (simp; done) | (simp; omega) | omega) _) | (refine Below.trans ?_ (Below.mono hB (by first | (simp; done) | (simp; omega) | omega)))))⟩
set_option maxHeartbeats 400000 in
theorem xor_ct (a b : Int) (s t : Bool) (w : World) :
    Calls Tryz.prog 229 #[.agg #[.int .u8 a, .bool s], .agg #[.int .u8 b, .bool t]] w fun e w' => e = .returned (.agg #[.int .u8 (bits .xor .u8 a b), .bool (s || t)]) ∧ Below w.heap.size w w' := by
  go_enter Tryz.func229, Tryz.ntmps229
  go_wp2_with fail
  refine (of_ct _ _ [(a, s), (b, t)] _ (rd2 (by simp) _ _ _ _ _)).mono ?_
  rintro e w1 ⟨rfl, hB⟩
  obtain ⟨hc, hf⟩ := bcell hB
  simp at hc hf
  rw [anyS_two]
  go_wp2
  exact bodyPost_ret (v := .agg #[.int .u8 (bits .xor .u8 a b), .bool (s || t)]) (by simp [results, Tryz.results229, go_sem, hc]) rfl ⟨rfl, (by repeat' (first | exact Below.refl _ _ | (refine Below.setCell ?_ (by first | (simp; done) | (simp; omega) | omega) _) | (refine Below.drew ?_) | (refine Below.drewN ?_ _) | (refine Below.alloc ?_ (by first | (simp; done) | (simp; omega) | omega) _) | (refine Below.trans ?_ (Below.mono hB (by first | (simp; done) | (simp; omega) | omega)))))⟩
end Go.Proofs.YtbonamhinnhlnaaGreatDoor
namespace Go.Proofs.YtbonamhinnhlnaaGreatDoor
open Go.RowKit

theorem rd1c {w : World} {b : Nat} {a : Int} {s : Bool} (hb : b < w.heap.size) (h1 : w.cell? ⟨b, 0, none⟩ = some (.int .u8 a)) (h2 : w.cell? ⟨b, 1, none⟩ = some (.bool s)) :
    Rd w (.slice (some ⟨b, 0, none⟩) 1 1) [(a, s)] := by
  refine ⟨_, _, rfl, by simp, by simp [maxLen], .inr ⟨_, _, rfl, hb, fun k hk => ?_⟩⟩
  match k, hk with
  | 0, _ => exact ⟨h1, h2⟩
theorem rd2c {w : World} {b : Nat} {a c : Int} {s t : Bool} (hb : b < w.heap.size) (h1 : w.cell? ⟨b, 0, none⟩ = some (.int .u8 a)) (h2 : w.cell? ⟨b, 1, none⟩ = some (.bool s)) (h3 : w.cell? ⟨b, 2, none⟩ = some (.int .u8 c)) (h4 : w.cell? ⟨b, 3, none⟩ = some (.bool t)) :
    Rd w (.slice (some ⟨b, 0, none⟩) 2 2) [(a, s), (c, t)] := by
  refine ⟨_, _, rfl, by simp, by simp [maxLen], .inr ⟨_, _, rfl, hb, fun k hk => ?_⟩⟩
  match k, hk with
  | 0, _ => exact ⟨h1, h2⟩
  | 1, _ => exact ⟨h3, h4⟩

/-- A variable of a byte: where it lies, and what it holds. -/
def BC (w : World) (g : Nat) (a : Int) (s : Bool) : Prop := g < w.heap.size ∧ w.cell? ⟨g, 0, none⟩ = some (.int .u8 a) ∧ w.cell? ⟨g, 1, none⟩ = some (.bool s)
theorem BC.next {w w' : World} {g : Nat} {a : Int} {s : Bool} (h : BC w g a s) (hb : Below w.heap.size w w') : BC w' g a s :=
  ⟨Nat.lt_of_lt_of_le h.1 hb.size, by rw [hb.cell (p := ⟨g, 0, none⟩) h.1]; exact h.2.1, by rw [hb.cell (p := ⟨g, 1, none⟩) h.1]; exact h.2.2⟩

def bitV (a i : Int) : Int := if 0 ≤ i ∧ i ≤ 7 then a / 2 ^ i.toNat % 2 else 0
theorem shr_bounds (a : Int) (k : Nat) (h0 : 0 ≤ a) (h1 : a < 256) : 0 ≤ a / 2 ^ k ∧ a / 2 ^ k < 256 := by
  have hp : (0 : Int) < 2 ^ k := Int.pow_pos (by omega)
  refine ⟨Int.ediv_nonneg h0 (Int.le_of_lt hp), ?_⟩
  have : a / 2 ^ k ≤ a := Int.ediv_le_self _ h0
  omega
theorem and_one (x : Int) (h0 : 0 ≤ x) (h1 : x < 256) : bits .and .u8 x 1 = x % 2 := by
  rw [u8_and x 1 h0 h1 (by omega) (by omega)]
  have : (1 : Int).toNat = 1 := rfl
  rw [this, Nat.and_one_is_mod]
  omega
set_option maxHeartbeats 400000 in
theorem bit_in (a i : Int) (s : Bool) (w : World) (h0 : 0 ≤ i) (h7 : i ≤ 7) (a0 : 0 ≤ a) (a1 : a < 256) :
    Calls Tryz.prog 234 #[.agg #[.int .u8 a, .bool s], .int .i64 i] w fun e w' => e = .returned (.agg #[.int .u8 (bitV a i), .bool s]) ∧ Below w.heap.size w w' := by
  have hv : bitV a i = bits .and .u8 (a / 2 ^ i.toNat) 1 := by
    rw [and_one _ (shr_bounds a _ a0 a1).1 (shr_bounds a _ a0 a1).2, bitV, if_pos ⟨h0, h7⟩]
  rw [hv]
  clear hv a0 a1
  have hd : (decide (i < 0) || decide (7 < i)) = false := by simp; omega
  go_enter Tryz.func234, Tryz.ntmps234
  go_wp2_with fail
  go_region_held3 (fun w' => w'.cell? ⟨w.heap.size, 0, none⟩ = some (.int .u8 a) ∧ w'.cell? ⟨w.heap.size, 1, none⟩ = some (.bool s)) (((repeat' apply And.intro) <;> (first | go_keep | (simp (disch := omega) only [hc]; go_keep))))
    ((go_at_call 218; refine (of_ct _ _ [(a, s)] _ (rd1c (by simp) (by simp [go_sem]) (by simp [go_sem]))).mono ?_; rintro e w1 ⟨rfl, hB⟩; rw [anyS_one]; obtain ⟨hc, hf⟩ := bcell hB; simp at hc hf))
  go_wp2
  exact bodyPost_ret (v := .agg #[.int .u8 (bits .and .u8 (a / 2 ^ i.toNat) 1), .bool s]) (by simp [results, Tryz.results234, go_sem, hc]) rfl ⟨rfl, (by repeat' (first | exact Below.refl _ _ | (refine Below.setCell ?_ (by first | (simp; done) | (simp; omega) | omega) _) | (refine Below.drew ?_) | (refine Below.drewN ?_ _) | (refine Below.alloc ?_ (by first | (simp; done) | (simp; omega) | omega) _) | (refine Below.trans ?_ (Below.mono hB (by first | (simp; done) | (simp; omega) | omega)))))⟩
set_option maxHeartbeats 400000 in
theorem bit_out (a i : Int) (s : Bool) (w : World) (h : i < 0 ∨ 7 < i) :
    Calls Tryz.prog 234 #[.agg #[.int .u8 a, .bool s], .int .i64 i] w fun e w' => e = .returned (.agg #[.int .u8 (bitV a i), .bool s]) ∧ Below w.heap.size w w' := by
  have hv : bitV a i = 0 := by rw [bitV, if_neg (by omega)]
  rw [hv]
  clear hv
  rcases h with h | h
  · go_enter Tryz.func234, Tryz.ntmps234
    go_wp2_with fail
    refine (of_ct _ _ [(a, s)] _ (rd1 (by simp) _ _ _)).mono ?_
    rintro e w1 ⟨rfl, hB⟩
    obtain ⟨hc, hf⟩ := bcell hB
    simp at hc hf
    rw [anyS_one]
    go_wp2
    exact bodyPost_ret (v := .agg #[.int .u8 0, .bool s]) (by simp [results, Tryz.results234, go_sem, hc]) rfl ⟨rfl, (by repeat' (first | exact Below.refl _ _ | (refine Below.setCell ?_ (by first | (simp; done) | (simp; omega) | omega) _) | (refine Below.drew ?_) | (refine Below.drewN ?_ _) | (refine Below.alloc ?_ (by first | (simp; done) | (simp; omega) | omega) _) | (refine Below.trans ?_ (Below.mono hB (by first | (simp; done) | (simp; omega) | omega)))))⟩
  · have h0 : ¬ i < 0 := by omega
    go_enter Tryz.func234, Tryz.ntmps234
    go_wp2_with fail
    refine (of_ct _ _ [(a, s)] _ (rd1 (by simp) _ _ _)).mono ?_
    rintro e w1 ⟨rfl, hB⟩
    obtain ⟨hc, hf⟩ := bcell hB
    simp at hc hf
    rw [anyS_one]
    go_wp2
    exact bodyPost_ret (v := .agg #[.int .u8 0, .bool s]) (by simp [results, Tryz.results234, go_sem, hc]) rfl ⟨rfl, (by repeat' (first | exact Below.refl _ _ | (refine Below.setCell ?_ (by first | (simp; done) | (simp; omega) | omega) _) | (refine Below.drew ?_) | (refine Below.drewN ?_ _) | (refine Below.alloc ?_ (by first | (simp; done) | (simp; omega) | omega) _) | (refine Below.trans ?_ (Below.mono hB (by first | (simp; done) | (simp; omega) | omega)))))⟩
theorem bit_ct (a i : Int) (s : Bool) (w : World) (a0 : 0 ≤ a) (a1 : a < 256) :
    Calls Tryz.prog 234 #[.agg #[.int .u8 a, .bool s], .int .i64 i] w fun e w' => e = .returned (.agg #[.int .u8 (bitV a i), .bool s]) ∧ Below w.heap.size w w' := by
  by_cases h : i < 0 ∨ 7 < i
  · exact bit_out a i s w h
  · exact bit_in a i s w (by omega) (by omega) a0 a1

/-! ### one of two -/
theorem or_add (a b : Int) (h0 : 0 ≤ a) (h7 : a < 256) (g0 : 0 ≤ b) (g7 : b < 256) : bits .or .u16 a (b * 256) = a + 256 * b := by
  rw [u16_or a (b * 256) h0 (by omega) (by omega) (by omega)]
  obtain ⟨x, rfl⟩ := Int.eq_ofNat_of_zero_le h0
  obtain ⟨y, rfl⟩ := Int.eq_ofNat_of_zero_le g0
  have e : ((y : Int) * 256).toNat = y * 256 := by omega
  rw [e, Int.toNat_natCast, Nat.or_comm]
  have : y * 256 ||| x = y * 256 + x := by
    have := Nat.shiftLeft_add_eq_or_of_lt (a := y) (b := x) (i := 8) (by omega)
    rw [Nat.shiftLeft_eq] at this
    exact this.symm
  rw [this]
  omega
theorem or_comm16 (a b : Int) (h0 : 0 ≤ a) (h7 : a < 65536) (g0 : 0 ≤ b) (g7 : b < 65536) : bits .or .u16 a b = bits .or .u16 b a := by
  rw [u16_or a b h0 h7 g0 g7, u16_or b a g0 g7 h0 h7, Nat.or_comm]
set_option maxHeartbeats 400000 in
theorem word_ct (a b : Int) (s t: Bool) (w : World) (h0 : 0 ≤ a) (h7 : a < 256) (g0 : 0 ≤ b) (g7 : b < 256) :
    Calls Tryz.prog 122 #[.agg #[.int .u8 a, .bool s], .agg #[.int .u8 b, .bool t]] w fun e w' => e = .returned (.tuple #[.int .u16 (a + 256 * b), .bool (s || t)]) ∧ Below w.heap.size w w' := by
  have hv : bits .or .u16 (IntKind.u16.wrap a) (IntKind.u16.wrap (IntKind.u16.wrap b * 256)) = a + 256 * b := by
    rw [← or_add a b h0 h7 g0 g7, IntKind.wrap_u16, IntKind.wrap_u16, IntKind.wrap_u16, Int.emod_eq_of_lt h0 (by omega), Int.emod_eq_of_lt g0 (by omega), Int.emod_eq_of_lt (by omega) (by omega)]
  have Hv := Lib.hid hv
  clear hv
  go_enter Tryz.func122, Tryz.ntmps122
  go_wp2_with fail
  go_region_held3 (fun w' => w'.cell? ⟨w.heap.size, 0, none⟩ = some (.int .u8 a) ∧ w'.cell? ⟨w.heap.size, 1, none⟩ = some (.bool s) ∧ w'.cell? ⟨w.heap.size + 1, 0, none⟩ = some (.int .u8 b) ∧ w'.cell? ⟨w.heap.size + 1, 1, none⟩ = some (.bool t)) (((repeat' apply And.intro) <;> (first | go_keep | (simp (disch := omega) only [hc]; go_keep))))
    ((go_at_call 171; refine (any_ct _ [(a, s), (b, t)] _ (rd2c (by simp) (by simp [go_sem]) (by simp [go_sem]) (by simp [go_sem]) (by simp [go_sem]))).mono ?_; rintro e w1 ⟨rfl, hB⟩; rw [anyS_two]; obtain ⟨hc, hf⟩ := bcell hB; simp at hc hf))
  go_wp2
  go_ret2
  refine ⟨?_, (by repeat' (first | exact Below.refl _ _ | (refine Below.setCell ?_ (by first | (simp; done) | (simp; omega) | omega) _) | (refine Below.drew ?_) | (refine Below.drewN ?_ _) | (refine Below.alloc ?_ (by first | (simp; done) | (simp; omega) | omega) _) | (refine Below.trans ?_ (Below.mono hB (by first | (simp; done) | (simp; omega) | omega)))))⟩
  rw [← Hv.out]
  rfl
set_option maxHeartbeats 400000 in
theorem split_ct (n : Int) (s : Bool) (w : World) (h0 : 0 ≤ n) (h7 : n < 65536) :
    Calls Tryz.prog 173 #[.int .u16 n, .bool s] w fun e w' => e = .returned (.tuple #[.agg #[.int .u8 (n % 256), .bool s], .agg #[.int .u8 (n / 256), .bool s]]) ∧ Below w.heap.size w w' := by
  go_enter Tryz.func173, Tryz.ntmps173
  go_wp2
  exact bodyPost_ret (v := .tuple #[.agg #[.int .u8 (n % 256), .bool s], .agg #[.int .u8 (n / 256), .bool s]]) (by simp [results, Tryz.results173, go_sem]) rfl ⟨rfl, (by repeat' (first | exact Below.refl _ _ | (refine Below.setCell ?_ (by first | (simp; done) | (simp; omega) | omega) _) | (refine Below.drew ?_) | (refine Below.drewN ?_ _) | (refine Below.alloc ?_ (by first | (simp; done) | (simp; omega) | omega) _)))⟩

/-! ### the document's answers -/
end Go.Proofs.YtbonamhinnhlnaaGreatDoor
namespace Go.Proofs.YtbonamhinnhlnaaGreatDoor
open Go.RowKit

/-! ### plain arithmetic -/
def hv (a : Int) (k : Nat) : Int := a / 2 ^ k
end Go.Proofs.YtbonamhinnhlnaaGreatDoor
namespace Go.Proofs.YtbonamhinnhlnaaGreatDoor

theorem byte_all {p : Int → Prop} (h : ∀ n : Fin 256, p (n.val : Int)) (x : Int) (h0 : 0 ≤ x) (h1 : x < 256) : p x := by
  obtain ⟨n, rfl⟩ : ∃ n : Nat, x = (n : Int) := ⟨x.toNat, by omega⟩
  exact h ⟨n, by omega⟩
end Go.Proofs.YtbonamhinnhlnaaGreatDoor
namespace Go.Proofs.YtbonamhinnhlnaaGreatDoor

/-! ### flags -/
/-- Without bits 4 and 5. -/
def clr (n : Int) : Int := n % 16 + n / 64 * 64
/-- Bits b are set, or not; 4 and 5 are none. -/
def pbN (n b : Nat) (is : Bool) : Nat := if is then (n &&& 207 &&& (255 - (b &&& 207))) ||| (b &&& 207) else n &&& 207 &&& (255 - (b &&& 207))
def pbV (n b : Int) (is : Bool) : Int := (pbN n.toNat b.toNat is : Nat)
/-- Is one of bits b set? -/
def hasV (n b : Int) : Bool := n.toNat &&& (b.toNat &&& 207) != 0
/-- A bit, as a number. -/
def oneI (b : Bool) : Int := if b then 1 else 0

theorem bit_not (x i : Nat) (h : x < 256) : (255 - x).testBit i = (decide (i < 8) && !x.testBit i) := by
  have := Nat.testBit_two_pow_sub_succ (x := x) (n := 8) h i
  simpa [Nat.sub_sub, Nat.add_comm] using this
theorem bit_207 (i : Nat) : (207 : Nat).testBit i = (decide (i < 8) && !(i == 4 || i == 5)) := by
  by_cases h : i < 8
  · have : ∀ i : Fin 8, (207 : Nat).testBit i.val = (decide (i.val < 8) && !(i.val == 4 || i.val == 5)) := by decide
    exact this ⟨i, h⟩
  · rw [Nat.testBit_lt_two_pow (x := 207) (Nat.lt_of_lt_of_le (show 207 < 2 ^ 8 by decide) (Nat.pow_le_pow_right (by omega) (by omega)))]
    simp [h]
theorem put_bit (n b i : Nat) (is : Bool) : (pbN n b is).testBit i = ((207 : Nat).testBit i && if b.testBit i then is else n.testBit i) := by
  have hb : b &&& 207 < 256 := Nat.lt_of_le_of_lt Nat.and_le_right (by decide)
  unfold pbN
  cases is
  · simp only [Bool.false_eq_true, if_false]
    rw [Nat.testBit_and, Nat.testBit_and, bit_not _ _ hb, Nat.testBit_and, bit_207]
    cases decide (i < 8) <;> cases n.testBit i <;> cases b.testBit i <;> cases (i == 4 || i == 5) <;> rfl
  · simp only [if_true]
    rw [Nat.testBit_or, Nat.testBit_and, Nat.testBit_and, bit_not _ _ hb, Nat.testBit_and, bit_207]
    cases decide (i < 8) <;> cases n.testBit i <;> cases b.testBit i <;> cases (i == 4 || i == 5) <;> rfl
theorem put_lt (n b : Nat) (is : Bool) : pbN n b is < 256 := by
  have h1 : n &&& 207 &&& (255 - (b &&& 207)) < 2 ^ 8 := Nat.lt_of_le_of_lt Nat.and_le_left (Nat.lt_of_le_of_lt Nat.and_le_right (by decide))
  have h2 : b &&& 207 < 2 ^ 8 := Nat.lt_of_le_of_lt Nat.and_le_right (by decide)
  unfold pbN
  split
  · exact Nat.or_lt_two_pow h1 h2
  · exact h1
theorem pbV_le (n b : Int) (is : Bool) : 0 ≤ pbV n b is ∧ pbV n b is < 256 := by
  have := put_lt n.toNat b.toNat is
  unfold pbV
  omega
theorem pbV_nat (n b : Int) (is : Bool) : (pbV n b is).toNat = pbN n.toNat b.toNat is := by unfold pbV; rw [Int.toNat_natCast]
theorem hand207 (x : Int) (h0 : 0 ≤ x) (h1 : x < 256) : bits .and .u8 x 207 = clr x := byte_all (p := fun x => bits .and .u8 x 207 = x % 16 + x / 64 * 64) (by decide +kernel) x h0 h1
theorem clr_le (x : Int) (h0 : 0 ≤ x) (h1 : x < 256) : 0 ≤ clr x ∧ clr x < 256 := by unfold clr; omega
theorem clr_clr (x : Int) : clr (clr x) = clr x := by unfold clr; omega
theorem clr_nat (x : Int) (h0 : 0 ≤ x) (h1 : x < 256) : (clr x).toNat = x.toNat &&& 207 := by
  rw [← hand207 x h0 h1, u8_and x 207 h0 h1 (by decide) (by decide)]
  rfl
theorem int_eq {a b : Int} (h0 : 0 ≤ a) (g0 : 0 ≤ b) (h : a.toNat = b.toNat) : a = b := by omega
theorem put_ext {a b : Int} (h0 : 0 ≤ a) (g0 : 0 ≤ b) (h : ∀ i, a.toNat.testBit i = b.toNat.testBit i) : a = b := int_eq h0 g0 (Nat.eq_of_testBit_eq h)
theorem clr_put (n b : Int) (is : Bool) : clr (pbV n b is) = pbV n b is := by
  obtain ⟨h0, h1⟩ := pbV_le n b is
  refine put_ext (clr_le _ h0 h1).1 h0 fun i => ?_
  rw [clr_nat _ h0 h1, pbV_nat, Nat.testBit_and, put_bit]
  cases (207 : Nat).testBit i <;> simp
theorem put_clr (n b : Int) (is : Bool) (h0 : 0 ≤ n) (h1 : n < 256) : pbV (clr n) b is = pbV n b is := by
  refine put_ext (pbV_le _ _ _).1 (pbV_le _ _ _).1 fun i => ?_
  rw [pbV_nat, pbV_nat, put_bit, put_bit, clr_nat n h0 h1, Nat.testBit_and]
  cases (207 : Nat).testBit i <;> simp
/-- Bits that are not the same ones may be put in any order. -/
theorem put_comm (n a b : Int) (x y : Bool) (h : a.toNat &&& b.toNat = 0) : pbV (pbV n a x) b y = pbV (pbV n b y) a x := by
  refine put_ext (pbV_le _ _ _).1 (pbV_le _ _ _).1 fun i => ?_
  rw [pbV_nat, pbV_nat, put_bit, put_bit, pbV_nat, pbV_nat, put_bit, put_bit]
  have hb : (a.toNat.testBit i && b.toNat.testBit i) = false := by rw [← Nat.testBit_and, h, Nat.zero_testBit]
  revert hb
  cases (207 : Nat).testBit i <;> cases a.toNat.testBit i <;> cases b.toNat.testBit i <;> simp
/-- The program's way: bits are taken away, then set. -/
theorem put_no (n b : Int) (h0 : 0 ≤ n) (h1 : n < 256) (hn : clr n = n) (g0 : 0 ≤ b) (g1 : b < 256) : bits .andNot .u8 n (bits .and .u8 b 207) = pbV n b false := by
  have hm := u8_and b 207 g0 g1 (by decide) (by decide)
  have hlt : b.toNat &&& 207 < 256 := Nat.lt_of_le_of_lt Nat.and_le_right (by decide)
  rw [hm, show (207 : Int).toNat = 207 from rfl, u8_andNot n _ h0 h1 (by omega) (by omega), Int.toNat_natCast]
  unfold pbV pbN
  have e := clr_nat n h0 h1
  rw [hn] at e
  rw [if_neg (by decide), ← e]
theorem put_yes (n b : Int) (g0 : 0 ≤ b) (g1 : b < 256) : bits .or .u8 (pbV n b false) (bits .and .u8 b 207) = pbV n b true := by
  have hm := u8_and b 207 g0 g1 (by decide) (by decide)
  have hlt : b.toNat &&& 207 < 256 := Nat.lt_of_le_of_lt Nat.and_le_right (by decide)
  obtain ⟨q0, q1⟩ := pbV_le n b false
  rw [hm, show (207 : Int).toNat = 207 from rfl, u8_or _ _ q0 q1 (by omega) (by omega), Int.toNat_natCast, pbV_nat]
  unfold pbV pbN
  rw [if_neg (by decide), if_pos rfl]
theorem put_none (b : Int) : pbV 0 b false = 0 := by
  refine put_ext (pbV_le _ _ _).1 (by decide) fun i => ?_
  rw [pbV_nat, put_bit]
  simp
theorem pull_p (v : Int) (h0 : 0 ≤ v) (h1 : v < 256) : pbV (pbV 0 207 false) v true = clr v := byte_all (p := fun v => pbV (pbV 0 207 false) v true = clr v) (by decide +kernel) v h0 h1
theorem pull_s (v : Int) (x : Bool) (h0 : 0 ≤ v) (h1 : v < 256) : pbV (pbV 0 207 x) v x = if x then 207 else 0 := by
  cases x
  · rw [put_none, put_none]; rfl
  · exact byte_all (p := fun v => pbV (pbV 0 207 true) v true = 207) (by decide +kernel) v h0 h1
theorem push_v (v : Int) (k : Bool) (h0 : 0 ≤ v) (h1 : v < 256) : (if k then bits .or .u8 (bits .or .u8 (clr v) 32) 16 else bits .or .u8 (clr v) 32) = clr v + 32 + if k then 16 else 0 := by
  cases k
  · exact byte_all (p := fun v => bits .or .u8 (clr v) 32 = clr v + 32 + 0) (by decide +kernel) v h0 h1
  · exact byte_all (p := fun v => bits .or .u8 (bits .or .u8 (clr v) 32) 16 = clr v + 32 + 16) (by decide +kernel) v h0 h1
theorem has_pro (n b : Int) (h0 : 0 ≤ n) (h1 : n < 256) (g0 : 0 ≤ b) (g1 : b < 256) : (bits .and .u8 n (bits .and .u8 b 207) != 0) = hasV n b := by
  have hlt : b.toNat &&& 207 < 256 := Nat.lt_of_le_of_lt Nat.and_le_right (by decide)
  rw [u8_and b 207 g0 g1 (by decide) (by decide), show (207 : Int).toNat = 207 from rfl, u8_and n _ h0 h1 (by omega) (by omega), Int.toNat_natCast]
  unfold hasV
  rw [Bool.eq_iff_iff]
  simp only [bne_iff_ne, ne_eq]
  omega
theorem has_put (n : Int) (is : Bool) : hasV (pbV n 1 is) 1 = is := by
  unfold hasV
  rw [pbV_nat]
  show (pbN n.toNat 1 is &&& 1 != 0) = is
  rw [Nat.and_one_is_mod]
  have := put_bit n.toNat 1 0 is
  rw [Nat.testBit_zero, bit_207] at this
  simp at this
  cases is
  · simp at this ⊢; omega
  · simp at this ⊢; omega
/-- Other bits than the carry hide nothing of it. -/
theorem has_over (n b : Int) (is : Bool) (h : b.toNat.testBit 0 = false) : hasV (pbV n b is) 1 = hasV n 1 := by
  unfold hasV
  rw [pbV_nat]
  show (pbN n.toNat b.toNat is &&& 1 != 0) = (n.toNat &&& 1 != 0)
  rw [Nat.and_one_is_mod, Nat.and_one_is_mod]
  have := put_bit n.toNat b.toNat 0 is
  rw [Nat.testBit_zero, bit_207, h, Nat.testBit_zero] at this
  simp at this
  rw [Bool.eq_iff_iff]
  simp
  omega

/-! ### the document's way to put bits -/
end Go.Proofs.YtbonamhinnhlnaaGreatDoor
