/-
  The document's own number. Over this seat's translation; of a text of at most 5000 octets.
-/
import Derived.Test.YtfceifmhlmiiiaaGreatDoorRnu
namespace Go.Proofs.YtfceifmhlmiiiaaGreatDoor
open Go.RowKit

/-- The number that digits tell, held below 100001, and how many digits there are. -/
def numF : List UInt8 → Int → Int × Nat
  | [], n => (n, 0)
  | c :: l, n => if 0 ≤ hexV c then ((numF l (min (16 * n + hexV c) 100000)).1, (numF l (min (16 * n + hexV c) 100000)).2 + 1) else (n, 0)
theorem numF_drop (s : ByteArray) (k : Nat) (h : k < s.size) (n : Int) : numF (s.data.toList.drop k) n = if 0 ≤ hexV s[k] then ((numF (s.data.toList.drop (k + 1)) (min (16 * n + hexV s[k]) 100000)).1, (numF (s.data.toList.drop (k + 1)) (min (16 * n + hexV s[k]) 100000)).2 + 1) else (n, 0) := by
  have hl : k < s.data.toList.length := by rw [Array.length_toList]; exact h
  rw [List.drop_eq_getElem_cons hl]
  rfl
theorem numF_end (s : ByteArray) (k : Nat) (h : s.size ≤ k) (n : Int) : numF (s.data.toList.drop k) n = (n, 0) := by
  rw [List.drop_of_length_le (by rw [Array.length_toList]; exact h)]
  rfl
set_option maxHeartbeats 2000000 in
theorem rnumber_ct (s : ByteArray) (at0 : Nat) (w : World) (hs : s.size ≤ 5000) (ha : at0 ≤ s.size) :
    Calls Tryz.prog 47 #[.string s, .int .i64 (at0 : Int)] w fun e w' => e = .returned (.tuple #[.int .i64 (numF (s.data.toList.drop at0) 0).1, .int .i64 ((at0 + (numF (s.data.toList.drop at0) 0).2 : Nat) : Int)]) ∧ Below w.heap.size w w' := by
  have KV : Hid (∀ (c : UInt8) wr, Calls Tryz.prog 64 #[.int .u8 (c.toNat : Int)] wr fun e w' => e = .returned (.int .i64 (hexV c)) ∧ Below wr.heap.size wr w') := fun c wr => rvalue_ct c wr
  obtain ⟨R, hR⟩ : ∃ R, (numF (s.data.toList.drop at0) 0) = R := ⟨_, rfl⟩
  rw [hR]
  obtain ⟨R1, R2⟩ := R
  obtain ⟨E, hE⟩ : ∃ E, at0 + R2 = E := ⟨_, rfl⟩
  dsimp only
  rw [hE]
  have H0 : Hid (numF (s.data.toList.drop at0) 0 = (R1, E - at0) ∧ at0 ≤ E) := ⟨by rw [hR, ← hE]; simp, by omega⟩
  clear hR hE
  go_enter Tryz.func47, Tryz.ntmps47
  go_wp2
  go_loopw [1, 6] (fun u i wr => ∃ (k : Nat) (n : Int), k ≤ s.size ∧ u = .int .i64 k ∧ i = .int .i64 n ∧ 0 ≤ n ∧ n ≤ 100000 ∧ Hid (numF (s.data.toList.drop k) n = (R1, E - k) ∧ k ≤ E) ∧ Below w.heap.size w wr) (fun u _ _ => s.size - (intOf u).toNat)
  case atStart => exact ⟨at0, 0, ha, rfl, rfl, by omega, by omega, H0, Below.refl _ _⟩
  case round =>
    clear H0
    obtain ⟨k, n, hk, rfl, rfl, n0, n1, hN, hB⟩ := hrel
    by_cases hlt : k < s.size
    · have hd := numF_drop s k hlt n
      have kv := fun wr => KV.out (s[k]'hlt) wr
      have hbd := hexV_bd (s[k]'hlt)
      generalize hexV (s[k]'hlt) = v at *
      obtain ⟨hN1, hN2⟩ := hN.out
      rw [hN1] at hd
      by_cases hv : 0 ≤ v
      · rw [if_pos hv] at hd
        have hv1 := hbd.2
        have Hd : Hid (numF (s.data.toList.drop (k + 1)) (min (16 * n + v) 100000) = (R1, E - (k + 1)) ∧ k + 1 ≤ E) := by
          obtain ⟨e1, e2⟩ := Prod.mk.inj hd
          exact ⟨Prod.ext e1.symm (show _ = E - (k + 1) by omega), by omega⟩
        have m0 : 0 ≤ min (16 * n + v) 100000 := by omega
        have m1 : min (16 * n + v) 100000 ≤ 100000 := by omega
        have hmin : min (16 * n + v) 100000 = (if 100000 < 16 * n + v then 100000 else 16 * n + v) := by split <;> omega
        rw [hmin] at m0 m1 Hd
        have Kv := Lib.hid kv
        clear hd hN hN1 hN2 kv hbd KV hmin
        go_wp2_with fail
        ((with_reducible refine (Kv.out _).mono ?_))
        rintro e w1 ⟨rfl, hB1⟩
        replace hB := hB.next hB1
        clear hB1
        go_wp2_with fail
        ((with_reducible refine (Kv.out _).mono ?_))
        rintro e w2 ⟨rfl, hB1⟩
        replace hB := hB.next hB1
        go_wp2
        go_roundw
        case rel => exact ⟨k + 1, _, by omega, by go_num, rfl, m0, m1, Hd, hB⟩
        case measure => simp [intOf]; omega
      · rw [if_neg hv] at hd
        obtain ⟨e1, e2⟩ := Prod.mk.inj hd
        have e3 : E = k := by omega
        subst e1
        subst e3
        have Kv := Lib.hid kv
        clear hd hN hN1 hN2 kv hbd KV e2
        go_wp2_with fail
        ((with_reducible refine (Kv.out _).mono ?_))
        rintro e w1 ⟨rfl, hB1⟩
        replace hB := hB.next hB1
        go_wp2
        go_ret2
        exact ⟨rfl, hB⟩
    · have hd := numF_end s k (by omega) n
      obtain ⟨hN1, hN2⟩ := hN.out
      rw [hN1] at hd
      obtain ⟨e1, e2⟩ := Prod.mk.inj hd
      have e3 : E = k := by omega
      subst e1
      subst e3
      clear hd hN hN1 hN2 KV e2
      go_wp2
      go_ret2
      exact ⟨rfl, hB⟩
end Go.Proofs.YtfceifmhlmiiiaaGreatDoor
