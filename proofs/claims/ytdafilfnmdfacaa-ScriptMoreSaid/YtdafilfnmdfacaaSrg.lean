/-
  The document's own answer for which scripts may be, and whether two are the same. Over this seat's translation; no condition but that numbers read as lists, and that a text is no longer than a slice may be.
-/
import Derived.Test.YtdafilfnmdfacaaSrf
namespace Go.Proofs.Ytdafilfnmdfacaa
open Go.RowKit

/-- What the document asks of resets, one by one, behind one. -/
def refB (sz : Nat) : Option Int → List Int → Bool
  | _, [] => true
  | p, x :: l => (decide (0 ≤ x) && (!decide ((sz : Int) ≤ IntKind.i64.wrap (2 * x)) && (!decide (600 < x) && (match p with | none => true | some y => decide (y < x))))) && refB sz (some x) l
def pvI (l : List Int) : Nat → Option Int
  | 0 => none
  | k + 1 => some (nthI l k)
theorem refB_drop (sz : Nat) (l : List Int) (k : Nat) (h : k < l.length) : refB sz (pvI l k) (l.drop k) = ((decide (0 ≤ nthI l k) && (!decide ((sz : Int) ≤ IntKind.i64.wrap (2 * nthI l k)) && (!decide (600 < nthI l k) && (match pvI l k with | none => true | some y => decide (y < nthI l k))))) && refB sz (pvI l (k + 1)) (l.drop (k + 1))) := by
  rw [drop_cons' l k 0 h]
  rfl
theorem refB_end (sz : Nat) (l : List Int) (k : Nat) (p : Option Int) (h : l.length ≤ k) : refB sz p (l.drop k) = true := by
  rw [List.drop_of_length_le h]
  rfl
theorem refB_rises (n : Nat) (hn : n ≤ 600) : ∀ (l : List Int) (p : Option Int) (least : Int), (match p with | none => least = 0 | some y => least = y + 1 ∧ 0 ≤ y) → refB (2 * n) p l = risesB (n : Int) least l
  | [], _, _, _ => rfl
  | x :: l, p, least, hp => by
    unfold refB risesB
    by_cases h0 : 0 ≤ x
    · have ih := refB_rises n hn l (some x) (x + 1) ⟨rfl, h0⟩
      rw [ih, decide_eq_true h0, Bool.true_and]
      by_cases h1 : x < n
      · have hw : IntKind.i64.wrap (2 * x) = 2 * x := by rw [IntKind.wrap_i64]; omega
        rw [hw, decide_eq_true h1, Bool.true_and]
        rw [decide_eq_false (show ¬ ((2 * n : Nat) : Int) ≤ 2 * x by omega), decide_eq_false (show ¬ 600 < x by omega)]
        cases p with
        | none =>
          dsimp only at hp
          subst hp
          simp [h0]
        | some y =>
          obtain ⟨rfl, hy⟩ := hp
          simp only [Bool.not_false, Bool.true_and]
          by_cases hyx : y < x
          · rw [decide_eq_true hyx, decide_eq_true (by omega)]
          · rw [decide_eq_false hyx, decide_eq_false (by omega)]
      · rw [decide_eq_false h1, Bool.false_and, Bool.and_false]
        by_cases h2 : 600 < x
        · rw [decide_eq_true h2]; simp
        · have hw : IntKind.i64.wrap (2 * x) = 2 * x := by rw [IntKind.wrap_i64]; omega
          rw [hw, decide_eq_true (show ((2 * n : Nat) : Int) ≤ 2 * x by omega)]; simp
    · rw [decide_eq_false h0]
      have hl : ¬ least ≤ x := by
        cases p with
        | none => dsimp only at hp; omega
        | some y => obtain ⟨rfl, hy⟩ := hp; omega
      rw [decide_eq_false hl]; simp
theorem refB_may (a s m : ByteArray) (l : List Int) : (sizesB a s m && refB a.size none l) = scrMay a l s m := by
  unfold scrMay
  cases h : sizesB a s m
  · rfl
  · unfold sizesB at h
    simp only [Bool.and_eq_true, decide_eq_true_eq] at h
    have := refB_rises (a.size / 2) (by omega) l none 0 rfl
    rw [show 2 * (a.size / 2) = a.size by omega] at this
    rw [this]
set_option maxRecDepth 100000 in
set_option maxHeartbeats 2500000 in
theorem rmays_ct (a s m : ByteArray) (rv : Value) (l : List Int) (w : World) (hr : Ri w rv l) (ha : a.size ≤ maxLen) (hs : s.size ≤ maxLen) (hm : m.size ≤ maxLen) :
    Calls Try.prog 7 #[scrV a rv s m] w fun e w' => e = .returned (.bool (scrMay a l s m)) ∧ Below w.heap.size w w' := by
  obtain ⟨ra, rc, rfl, hcap, hn, hr⟩ := hr
  have hw : ∀ k, k < l.length → ∃ b off, ra = some ⟨b, off, none⟩ ∧ b < w.heap.size ∧ w.cell? ⟨b, off + k, none⟩ = some (.int .i64 (nthI l k)) ∧ ∀ j, j < l.length → w.cell? ⟨b, off + j, none⟩ = some (.int .i64 (nthI l j)) := fun k hk => by
    rcases hr with rfl | ⟨b, off, rfl, hb, hc⟩
    · simp at hk
    exact ⟨b, off, rfl, hb, hc k hk, hc⟩
  have Hw := Lib.hid hw
  clear hw hr
  rw [← refB_may]
  unfold maxLen at ha hs hm hn
  have e1 : Int.tmod (a.size : Int) 2 = ((a.size % 2 : Nat) : Int) := by
    rw [Int.tmod_eq_emod_of_nonneg (by omega)]; omega
  have Hdr := Lib.hid (fun k (hk : k < l.length) => refB_drop a.size l k hk)
  have Hend := Lib.hid (fun p k (hk : l.length ≤ k) => refB_end a.size l k p hk)
  have H0 : Hid (refB a.size none l = refB a.size (pvI l 0) (l.drop 0)) := rfl
  generalize hres : refB a.size none l = res at *
  clear hres
  unfold scrV
  have X := fun W : World => BX.new W 28 (.string a) (.slice ra l.length rc) (.string s) (.string m)
  go_enter Try.func7, Try.ntmps7
  go_upto_region 1 with fail
  go_cut [3] (fun s3 wx => s3 = .int .i64 0 ∧ BX wx w.heap.size 28 (.string a) (.slice ra l.length rc) (.string s) (.string m) ∧ Below w.heap.size w wx)
  case first => as_aux_lemma =>
    go_wp2_with fail
    go_meet
    exact ⟨rfl, X w, (by repeat' (first | exact Below.refl _ _ | (refine Below.setCell ?_ (by first | (simp; done) | (simp; omega) | omega) _) | (refine Below.drew ?_) | (refine Below.drewN ?_ _) | (refine Below.alloc ?_ (by first | (simp; done) | (simp; omega) | omega) _)))⟩
  case rest =>
  clear X
  obtain ⟨rfl, X0, B0⟩ := hcut
  have z0 := X0.lt
  have c0 := X0.c0
  have c1 := X0.c1
  have c2 := X0.c2
  have c3 := X0.c3
  go_wp2
  go_loopw [3] (fun i wr => ∃ (k : Nat), k ≤ l.length ∧ i = .int .i64 k ∧ Hid (res = refB a.size (pvI l k) (l.drop k)) ∧ Below wc.heap.size wc wr) (fun i _ => l.length - (intOf i).toNat)
  case atStart => exact ⟨0, Nat.zero_le _, rfl, H0, Below.refl _ _⟩
  case round =>
    obtain ⟨k, hk, rfl, he, hB⟩ := hrel
    have X1 := X0.next hB
    have B1 := B0.next hB
    clear c0 c1 c2 c3 z0
    have z0 := X1.lt
    have c0 := X1.c0
    have c1 := X1.c1
    have c2 := X1.c2
    have c3 := X1.c3
    by_cases hlt : k < l.length
    · obtain ⟨b, off, rfl, hb, hx, hall⟩ := Hw.out k hlt
      rw [← B1.cell hb] at hx
      have hd := Hdr.out k hlt
      have hy : ∀ j, k = j + 1 → wr.cell? ⟨b, off + j, none⟩ = some (.int .i64 (nthI l j)) := fun j hj => by
        rw [B1.cell (p := ⟨b, off + j, none⟩) hb]
        exact hall j (by omega)
      have Hy := Lib.hid hy
      clear hy hall Hw Hdr Hend H0
      obtain ⟨x, hxx⟩ : ∃ x, nthI l k = x := ⟨_, rfl⟩
      rw [hxx] at hx hd
      have i0 : (0 : Int) ≤ (k : Int) := by omega
      have i1 : (k : Int) < (l.length : Int) := by omega
      by_cases g0 : 0 ≤ x
      · have d0 : decide (x < 0) = false := decide_eq_false (by omega)
        rw [decide_eq_true g0, Bool.true_and] at hd
        obtain ⟨z, hz⟩ : ∃ z, IntKind.i64.wrap (2 * x) = z := ⟨_, rfl⟩
        rw [hz] at hd
        by_cases g1 : (a.size : Int) ≤ z
        · have d1 := decide_eq_true g1
          rw [d1] at hd
          have Hd : Hid (res = false) := he.out.trans (by rw [hd]; rfl)
          clear he hd hxx Hy
          go_wp2_with fail
          go_quiet (fail)
          go_wp2
          go_ret
          exact ⟨by rw [Hd.out, Bool.and_false]; rfl, below_drewN B1 _⟩
        · have d1 := decide_eq_false g1
          rw [d1, Bool.not_false, Bool.true_and] at hd
          by_cases g2 : 600 < x
          · have d2 := decide_eq_true g2
            rw [d2] at hd
            have Hd : Hid (res = false) := he.out.trans (by rw [hd]; rfl)
            clear he hd hxx Hy
            go_wp2_with fail
            go_quiet (fail)
            go_wp2
            go_ret
            exact ⟨by rw [Hd.out, Bool.and_false]; rfl, below_drewN B1 _⟩
          · have d2 := decide_eq_false g2
            rw [d2, Bool.not_false, Bool.true_and] at hd
            cases k with
            | zero =>
              have i1' : (0 : Int) < (l.length : Int) := by omega
              have i2' : 0 < l.length := by omega
              rw [Nat.add_zero] at hx
              have Hd : Hid (res = refB a.size (pvI l (0 + 1)) (l.drop (0 + 1))) := he.out.trans (by rw [hd]; rfl)
              clear he hd hxx Hy
              go_wp2_with fail
              go_quiet (fail)
              go_wp2
              go_roundw
              case rel => exact ⟨0 + 1, by omega, by go_num, Hd, below_drewN hB _⟩
              case measure => simp [intOf]; omega
            | succ j =>
              have hy := Hy.out j rfl
              obtain ⟨y, hyy⟩ : ∃ x, nthI l j = x := ⟨_, rfl⟩
              have hd : refB a.size (pvI l (j + 1)) (l.drop (j + 1)) = (decide (nthI l j < x) && refB a.size (pvI l (j + 1 + 1)) (l.drop (j + 1 + 1))) := hd
              rw [hyy] at hy hd
              have t0 : ((j : Int) + 1).toNat = j + 1 := by omega
              have i0 : (0 : Int) ≤ (j : Int) + 1 := by omega
              have i1 : (j : Int) + 1 < (l.length : Int) := by omega
              have i2 : (j : Int) < (l.length : Int) := by omega
              have i3 : (0 : Int) ≤ (j : Int) := by omega
              have i4 : (0 : Int) < (j : Int) + 1 := by omega
              by_cases g3 : y < x
              · rw [decide_eq_true g3, Bool.true_and] at hd
                have d3 : decide (x ≤ y) = false := decide_eq_false (by omega)
                have Hd : Hid (res = refB a.size (pvI l (j + 1 + 1)) (l.drop (j + 1 + 1))) := he.out.trans hd
                clear he hd hxx hyy Hy
                go_wp2_with fail
                go_quiet (fail)
                go_wp2
                go_roundw
                case rel => exact ⟨j + 1 + 1, by omega, by go_num, Hd, below_drewN hB _⟩
                case measure => simp [intOf]; omega
              · rw [decide_eq_false g3, Bool.false_and] at hd
                have d3 : decide (x ≤ y) = true := decide_eq_true (by omega)
                have Hd : Hid (res = false) := he.out.trans hd
                clear he hd hxx hyy Hy
                go_wp2_with fail
                go_quiet (fail)
                go_wp2
                go_ret
                exact ⟨by rw [Hd.out, Bool.and_false]; rfl, below_drewN B1 _⟩
      · have d0 : decide (x < 0) = true := decide_eq_true (by omega)
        rw [decide_eq_false g0] at hd
        have Hd : Hid (res = false) := he.out.trans (by rw [hd]; rfl)
        clear he hd hxx Hy
        go_wp2_with fail
        go_quiet (fail)
        go_wp2
        go_ret
        exact ⟨by rw [Hd.out, Bool.and_false]; rfl, below_drewN B1 _⟩
    · have Hd : Hid (res = true) := he.out.trans (Hend.out _ k (by omega))
      clear he Hw Hdr Hend H0
      have Hs : Hid ((sizesB a s m && res) = (decide (a.size % 2 = 0) && (decide (a.size ≤ 1200) && (decide (s.size ≤ 8192) && decide (m.size ≤ 2048))))) := by rw [Hid, Hd.out, Bool.and_true]; rfl
      by_cases h1 : a.size % 2 = 0
      · by_cases h2 : a.size ≤ 1200
        · by_cases h3 : s.size ≤ 8192
          · by_cases h4 : m.size ≤ 2048
            · go_wp2
              go_ret
              exact ⟨by rw [Hs.out, decide_eq_true h1, decide_eq_true h2, decide_eq_true h3, decide_eq_true h4]; show Ending.returned (.bool (decide ((m.size : Int) ≤ 2048))) = _; rw [decide_eq_true (show (m.size : Int) ≤ 2048 by omega)]; rfl, B1⟩
            · go_wp2
              go_ret
              exact ⟨by rw [Hs.out, decide_eq_true h1, decide_eq_true h2, decide_eq_true h3, decide_eq_false h4]; show Ending.returned (.bool (decide ((m.size : Int) ≤ 2048))) = _; rw [decide_eq_false (show ¬ (m.size : Int) ≤ 2048 by omega)]; rfl, B1⟩
          · go_wp2
            go_ret
            exact ⟨by rw [Hs.out, decide_eq_true h1, decide_eq_true h2, decide_eq_false h3]; rfl, B1⟩
        · go_wp2
          go_ret
          exact ⟨by rw [Hs.out, decide_eq_true h1, decide_eq_false h2]; rfl, B1⟩
      · go_wp2
        go_ret
        exact ⟨by rw [Hs.out, decide_eq_false h1]; rfl, B1⟩
end Go.Proofs.Ytdafilfnmdfacaa
