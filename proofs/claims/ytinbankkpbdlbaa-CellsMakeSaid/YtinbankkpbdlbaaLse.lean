/-
  The walk of layer 2's law on cells that are made anew of their values and their secret places, over this seat's translation: it returns true, and writes nothing that was there.
-/
import Derived.Test.YtinbankkpbdlbaaAwk
import Derived.Test.YtinbankkpbdlbaaSes
import Derived.Test.YtinbankkpbdlbaaVal
namespace Go.Proofs.Ytinbankkpbdlbaa
open Go.RowKit

/-- Values are a byte's. -/
def Bytes8 (l : List (Int × Bool)) : Prop := ∀ k, k < l.length → 0 ≤ (nth l k).1 ∧ (nth l k).1 < 256
theorem Bytes8.take {l : List (Int × Bool)} (h : Bytes8 l) (n : Nat) : Bytes8 (l.take n) := fun k hk => by
  rw [List.length_take] at hk
  have e : nth (l.take n) k = nth l k := by
    unfold nth
    rw [List.getD_eq_getElem?_getD, List.getD_eq_getElem?_getD, List.getElem?_take, if_pos (by omega)]
  rw [e]
  exact h k (by omega)
theorem textOf_at (l : List (Int × Bool)) (h : Bytes8 l) (j : Nat) (hj : j < l.length) : byteAt (textOf l) j = (nth l j).1 := by
  have hs : j < (textOf l).size := by rw [textOf_size]; exact hj
  have hb := h j hj
  unfold byteAt
  rw [dif_pos hs]
  have e : (textOf l)[j]'hs = UInt8.ofNat (nth l j).1.toNat := by
    have e2 : (textOf l)[j]'hs = (textOf l).data[j]'hs := rfl
    rw [e2]
    simp [textOf, strOfNums, nth, hj]
  rw [e, UInt8.toNat_ofNat']
  omega
theorem remade (l : List (Int × Bool)) (T : List (Int × Int)) (h : Bytes8 l) (hT : Marked (fun j => (nth l j).2) T l.length) : mkL l.length (textOf l) T = l := by
  apply List.ext_getElem
  · simp [mkL, mkF]
  · intro j h1 h2
    have e := mkF_nth l.length (cellsF (textOf l) T) j h2
    have e1 : (mkL l.length (textOf l) T)[j]'h1 = nth (mkL l.length (textOf l) T) j := by simp [nth, h1]
    have e2 : l[j]'h2 = nth l j := by simp [nth, h2]
    have e3 : nth (mkL l.length (textOf l) T) j = (byteAt (textOf l) j, inB T j) := e
    have e4 : inB T j = (nth l j).2 := by
      rw [hT.same, decide_eq_true (by omega)]; simp
    rw [e1, e2, e3, textOf_at l h j h2, e4]
theorem lowL_none (l : List (Int × Bool)) (j : Nat) : (nth (lowL l) j).2 = false := by
  unfold nth lowL
  rw [List.getD_eq_getElem?_getD, List.getElem?_map]
  cases l[j]? <;> rfl
theorem none_marked {m : Nat → Bool} (n : Nat) (h : ∀ j, m j = false) {T : List (Int × Int)} (hT : Marked m T n) : T = [] := by
  refine hT.uniq ⟨trivial, fun x => ?_, by simp⟩
  rw [h, Bool.and_false]
  rfl

set_option maxRecDepth 100000 in
set_option maxHeartbeats 2000000 in
theorem secrets_walk (sv : Value) (l : List (Int × Bool)) (w : World) (hr : Rd w sv l) (hlb : Bytes8 l) :
    Calls Try.prog 8 #[sv] w fun e w' => e = .returned (.bool true) ∧ Below w.heap.size w w' := by
  have Hr := Lib.hid hr
  clear hr
  have hlb := hlb.take 300
  go_enter Try.func8, Try.ntmps8
  go_wp2_with fail
  refine (fewb_ct sv l _ Hr.out).mono ?_
  rintro e w1 ⟨x, rfl, hx, rfl⟩
  have lm : (l.take 300).length ≤ 300 := by rw [List.length_take]; omega
  clear Hr
  generalize l.take 300 = m at *
  obtain ⟨xa, xcap, rfl⟩ := hx.slice
  have Hx := Lib.hid hx
  have Hb := Lib.hid hlb
  clear hx hlb
  go_wp2_with fail
  refine (csecrets_ct _ m _ Hx.out (by omega)).mono ?_
  rintro e w1 ⟨v, T, rfl, hv, hM, hB⟩
  obtain ⟨va, vcap, rfl⟩ := hv.slice
  have Hv := Lib.hid hv
  have HM := Lib.hid hM
  replace Hx := Lib.hid (Hx.out.below hB)
  clear hv hM
  go_wp2_with fail
  refine (values_bytes_ct _ m _ Hx.out (by omega)).mono ?_
  rintro e w2 ⟨rfl, B2⟩
  replace Hx := Lib.hid (Hx.out.below B2)
  replace Hv := Lib.hid (Hv.out.below B2)
  replace hB := hB.next B2
  clear B2
  have hmk := make_yes m.length (textOf m) _ T _ Hv.out (by omega) (by rw [textOf_size]; omega) (HM.out.may (by omega))
  unfold MakeYes at hmk
  rw [remade m T Hb.out HM.out] at hmk
  have hmay := HM.out.may (by omega)
  have Hmay := Lib.hid hmay
  generalize textOf m = txt at *
  clear hmay HM Hb
  go_wp2_with fail
  refine hmk.mono ?_
  rintro e w3 ⟨y, rfl, hy, B3⟩
  obtain ⟨ya, ycap, rfl⟩ := hy.slice
  have Hy := Lib.hid hy
  replace Hx := Lib.hid (Hx.out.below B3)
  replace Hv := Lib.hid (Hv.out.below B3)
  replace hB := hB.next B3
  clear B3 hmk hy
  have hck := check_ct _ T _ Hv.out
  rw [Hmay.out] at hck
  go_wp2_with fail
  refine hck.mono ?_
  rintro e w4 ⟨rfl, B4⟩
  rw [show okE true = 0 from rfl]
  replace Hx := Lib.hid (Hx.out.below B4)
  replace Hy := Lib.hid (Hy.out.below B4)
  replace hB := hB.next B4
  clear B4 hck Hmay Hv
  have hsm := rsame_ct _ _ m m _ Hy.out Hx.out
  rw [eqL_self] at hsm
  go_wp2_with fail
  refine hsm.mono ?_
  rintro e w5 ⟨rfl, B5⟩
  replace Hx := Lib.hid (Hx.out.below B5)
  replace hB := hB.next B5
  clear B5 hsm Hy
  go_wp2_with fail
  refine (erase_bytes_ct _ m _ Hx.out (by omega)).mono ?_
  rintro e w6 ⟨z, rfl, hz, B6⟩
  obtain ⟨za, zcap, rfl⟩ := hz.slice
  have hzl : (lowL m).length ≤ 300 := by simp [lowL]; omega
  have Hz := Lib.hid hz
  replace hB := hB.next B6
  clear B6 Hx hz
  go_wp2_with fail
  refine (csecrets_ct _ (lowL m) _ Hz.out (by omega)).mono ?_
  rintro e w7 ⟨u, U, rfl, hu, hU, B7⟩
  obtain rfl := none_marked _ (lowL_none m) hU
  obtain ⟨ua, ucap, rfl⟩ := hu.slice
  replace hB := hB.next B7
  clear B7 Hz hu hU
  go_wp2_with fail
  refine (awake_ct _).mono ?_
  rintro e w8 ⟨rfl, B8⟩
  go_wp2
  go_ret
  exact ⟨rfl, hB.next B8⟩
end Go.Proofs.Ytinbankkpbdlbaa
