/-
  The document's own answer for which scripts are alike. Over this seat's translation; no condition but that numbers and ranges read as lists, and that a text is no longer than a slice may be.
-/
import Derived.Test.YtjiilcnbajcdhaaSrf
import Derived.Test.YtjiilcnbajcdhaaTas
namespace Go.Proofs.Ytjiilcnbajcdhaa
open Go.RowKit

set_option maxHeartbeats 1000000 in
theorem rpad_in (a s m : ByteArray) (ra : Option Addr) (rl rc : Nat) (i j : Nat) (w : World) (ha : a.size ≤ maxLen) (hlt : 2 * i + 1 < a.size) (hj : j < 2) :
    Calls Try.prog 38 #[scrV a (.slice ra rl rc) s m, .int .i64 ((i : Nat) : Int), .int .i64 ((j : Nat) : Int)] w fun e w' => e = .returned (.int .u8 (byteAt a (2 * i + j))) ∧ Below w.heap.size w w' := by
  have hlt' : 2 * i + j < a.size := by omega
  rw [byteAt_lt _ _ hlt']
  unfold maxLen at ha
  unfold scrV
  have i0 : (0 : Int) ≤ 2 * (i : Int) + (j : Int) := by omega
  have i1 : 2 * (i : Int) + (j : Int) < (a.size : Int) := by omega
  have t0 : (2 * (i : Int) + (j : Int)).toNat = 2 * i + j := by omega
  have g0 : ¬ (a.size : Int) < (i : Int) := by omega
  have g1 : ¬ (a.size : Int) ≤ 2 * (i : Int) + 1 := by omega
  have g2 : ¬ (1 : Int) < (j : Int) := by omega
  go_enter Try.func38, Try.ntmps38
  go_wp2
  go_ret
  exact ⟨rfl, (by repeat' (first | exact Below.refl _ _ | (refine Below.setCell ?_ (by first | (simp; done) | (simp; omega) | omega) _) | (refine Below.drew ?_) | (refine Below.drewN ?_ _) | (refine Below.alloc ?_ (by first | (simp; done) | (simp; omega) | omega) _)))⟩

set_option maxHeartbeats 1000000 in
theorem rsecram_ct (p q : Bool) (sv tv : Value) (ra sa : List (Int × Int)) (x : Int) (w : World) (h1 : Rg w sv ra) (h2 : Rg w tv sa) :
    Calls Try.prog 39 #[polV p q sv tv, .int .i64 1, .int .i64 x] w fun e w' => e = .returned (.bool (inB ra x)) ∧ Below w.heap.size w w' := by
  have Hi := fun o => rin_ct sv x ra (w.alloc o) (h1.below ((Below.refl _ _).alloc (Nat.le_refl _) o))
  generalize inB ra x = r at *
  have Hi := Lib.hid Hi
  obtain ⟨a1, c1, rfl, _⟩ := h1
  obtain ⟨a2, c2, rfl, _⟩ := h2
  generalize ra.length = n1 at *
  generalize sa.length = n2 at *
  unfold polV
  go_enter Try.func39, Try.ntmps39
  go_wp2_with fail
  refine (Hi.out _).mono ?_
  rintro e w1 ⟨rfl, rfl⟩
  go_wp2
  go_ret
  exact ⟨rfl, (by repeat' (first | exact Below.refl _ _ | (refine Below.setCell ?_ (by first | (simp; done) | (simp; omega) | omega) _) | (refine Below.drew ?_) | (refine Below.drewN ?_ _) | (refine Below.alloc ?_ (by first | (simp; done) | (simp; omega) | omega) _)))⟩

set_option maxHeartbeats 1000000 in
theorem rsecsave_ct (p q : Bool) (sv tv : Value) (ra sa : List (Int × Int)) (x : Int) (w : World) (h1 : Rg w sv ra) (h2 : Rg w tv sa) :
    Calls Try.prog 39 #[polV p q sv tv, .int .i64 2, .int .i64 x] w fun e w' => e = .returned (.bool (inB sa x)) ∧ Below w.heap.size w w' := by
  have Hi := fun o => rin_ct tv x sa (w.alloc o) (h2.below ((Below.refl _ _).alloc (Nat.le_refl _) o))
  generalize inB sa x = r at *
  have Hi := Lib.hid Hi
  obtain ⟨a1, c1, rfl, _⟩ := h1
  obtain ⟨a2, c2, rfl, _⟩ := h2
  generalize ra.length = n1 at *
  generalize sa.length = n2 at *
  unfold polV
  go_enter Try.func39, Try.ntmps39
  go_wp2_with fail
  refine (Hi.out _).mono ?_
  rintro e w1 ⟨rfl, rfl⟩
  go_wp2
  go_ret
  exact ⟨rfl, (by repeat' (first | exact Below.refl _ _ | (refine Below.setCell ?_ (by first | (simp; done) | (simp; omega) | omega) _) | (refine Below.drew ?_) | (refine Below.drewN ?_ _) | (refine Below.alloc ?_ (by first | (simp; done) | (simp; omega) | omega) _)))⟩

theorem byte_val (s : ByteArray) (k : Nat) (h : k < s.size) : ((s[k]'h).toNat : Int) = byteAt s k := (byteAt_lt s k h).symm
set_option maxRecDepth 100000 in
set_option maxHeartbeats 4000000 in
theorem ralikes_ct (p q : Bool) (sv tv : Value) (ra sa : List (Int × Int)) (a s m : ByteArray) (rv : Value) (l : List Int) (b t n : ByteArray) (rv2 : Value) (l2 : List Int) (w : World) (h1 : Rg w sv ra) (h2 : Rg w tv sa) (h3 : Ri w rv l) (h4 : Ri w rv2 l2)
    (ha : a.size ≤ 1200) (hev : a.size % 2 = 0) (hs : s.size ≤ 8192) (hm : m.size ≤ 2048) (hb : b.size ≤ 1200) :
    Calls Try.prog 18 #[polV p q sv tv, scrV a rv s m, scrV b rv2 t n] w fun e w' => e = .returned (.bool (eqL l l2 && (agP p q a b && (agS sa s t && agS ra m n)))) ∧ Below w.heap.size w w' := by
  have KE : Hid (∀ wr, Below w.heap.size w wr → Calls Try.prog 37 #[rv, rv2] wr fun e w' => e = .returned (.bool (eqL l l2)) ∧ Below wr.heap.size wr w') := fun wr h => rsamei_ct rv rv2 l l2 wr (h3.below h) (h4.below h)
  have KR : Hid (∀ x wr, Below w.heap.size w wr → Calls Try.prog 39 #[polV p q sv tv, .int .i64 1, .int .i64 x] wr fun e w' => e = .returned (.bool (inB ra x)) ∧ Below wr.heap.size wr w') := fun x wr h => rsecram_ct p q sv tv ra sa x wr (h1.below h) (h2.below h)
  have KS : Hid (∀ x wr, Below w.heap.size w wr → Calls Try.prog 39 #[polV p q sv tv, .int .i64 2, .int .i64 x] wr fun e w' => e = .returned (.bool (inB sa x)) ∧ Below wr.heap.size wr w') := fun x wr h => rsecsave_ct p q sv tv ra sa x wr (h1.below h) (h2.below h)
  obtain ⟨a1, c1, rfl, _⟩ := h1
  obtain ⟨a2, c2, rfl, _⟩ := h2
  obtain ⟨a3, c3, rfl, _⟩ := h3
  obtain ⟨a4, c4, rfl, _⟩ := h4
  generalize ra.length = n1 at *
  generalize sa.length = n2 at *
  obtain ⟨n3, hn3⟩ : ∃ n, l.length = n := ⟨_, rfl⟩
  obtain ⟨n4, hn4⟩ : ∃ n, l2.length = n := ⟨_, rfl⟩
  rw [hn3, hn4] at KE
  rw [hn3, hn4]
  clear hn3 hn4
  have zA : a.size ≤ maxLen := Nat.le_trans ha (by decide)
  have zB : b.size ≤ maxLen := Nat.le_trans hb (by decide)
  have KP : Hid (∀ i j wr, 2 * i + 1 < a.size → j < 2 → Calls Try.prog 38 #[scrV a (.slice a3 n3 c3) s m, .int .i64 ((i : Nat) : Int), .int .i64 ((j : Nat) : Int)] wr fun e w' => e = .returned (.int .u8 (byteAt a (2 * i + j))) ∧ Below wr.heap.size wr w') := fun i j wr h hj => rpad_in a s m a3 n3 c3 i j wr zA h hj
  have KQ : Hid (∀ i j wr, 2 * i + 1 < b.size → j < 2 → Calls Try.prog 38 #[scrV b (.slice a4 n4 c4) t n, .int .i64 ((i : Nat) : Int), .int .i64 ((j : Nat) : Int)] wr fun e w' => e = .returned (.int .u8 (byteAt b (2 * i + j))) ∧ Below wr.heap.size wr w') := fun i j wr h hj => rpad_in b t n a4 n4 c4 i j wr zB h hj
  clear zA zB
  unfold polV at KR KS
  unfold scrV at KP KQ
  unfold polV scrV
  go_enter Try.func18, Try.ntmps18
  go_upto_region 0 with fail
  go_cut [3, 4, 5, 6] (fun s3 s4 s5 s6 wx => s3 = .pointer (some ⟨w.heap.size, 0, none⟩) ∧ s4 = .pointer (some ⟨w.heap.size + 1, 0, none⟩) ∧ s5 = .pointer (some ⟨w.heap.size + 1 + 1, 0, none⟩) ∧ s6 = .bool false ∧ BX wx w.heap.size 25 (.bool p) (.bool q) (.slice a1 n1 c1) (.slice a2 n2 c2) ∧ BX wx (w.heap.size + 1) 28 (.string a) (.slice a3 n3 c3) (.string s) (.string m) ∧ BX wx (w.heap.size + 1 + 1) 28 (.string b) (.slice a4 n4 c4) (.string t) (.string n) ∧ Below w.heap.size w wx)
  case first =>
    have X := fun o o' => ((BX.new w 25 (.bool p) (.bool q) (.slice a1 n1 c1) (.slice a2 n2 c2)).alloc o).alloc o'
    have Y := fun o o' => (BX.new1 w o 28 (.string a) (.slice a3 n3 c3) (.string s) (.string m)).alloc o'
    have V := fun o o' => BX.new2 w o o' 28 (.string b) (.slice a4 n4 c4) (.string t) (.string n)
    go_wp2_with fail
    go_meet
    exact ⟨rfl, rfl, rfl, rfl, X _ _, Y _ _, V _ _, (by repeat' (first | exact Below.refl _ _ | (refine Below.setCell ?_ (by first | (simp; done) | (simp; omega) | omega) _) | (refine Below.drew ?_) | (refine Below.drewN ?_ _) | (refine Below.alloc ?_ (by first | (simp; done) | (simp; omega) | omega) _)))⟩
  case rest =>
  obtain ⟨rfl, rfl, rfl, rfl, X, Y, V, B⟩ := hcut
  (skip); have Xz := X.lt; have X0 := X.c0; have X1 := X.c1; have X2 := X.c2; have X3 := X.c3; have Yz := Y.lt; have Y0 := Y.c0; have Y1 := Y.c1; have Y2 := Y.c2; have Y3 := Y.c3; have Vz := V.lt; have V0 := V.c0; have V1 := V.c1; have V2 := V.c2; have V3 := V.c3
  by_cases z1 : a.size = b.size
  case neg =>
    have Hv : Hid (agP p q a b = false) := agree_len _ _ _ z1
    clear KE KR KS KP KQ
    go_wp2
    go_ret
    exact ⟨by rw [Hv.out, Bool.false_and, Bool.and_false]; rfl, B⟩
  by_cases z2 : m.size = n.size
  case neg =>
    have Hv : Hid (agS ra m n = false) := agree_len _ _ _ z2
    clear KE KR KS KP KQ
    go_wp2
    go_ret
    exact ⟨by rw [Hv.out, Bool.and_false, Bool.and_false, Bool.and_false]; rfl, B⟩
  by_cases z3 : s.size = t.size
  case neg =>
    have Hv : Hid (agS sa s t = false) := agree_len _ _ _ z3
    clear KE KR KS KP KQ
    go_wp2
    go_ret
    exact ⟨by rw [Hv.out, Bool.false_and, Bool.and_false, Bool.and_false]; rfl, B⟩
  cases he : eqL l l2
  · rw [he] at KE
    clear KR KS KP KQ
    go_wp2_with fail
    ((with_reducible refine (KE.out _ B).mono ?_))
    rintro e w1 ⟨rfl, hB⟩
    replace B := B.next hB
    go_wp2
    go_ret
    exact ⟨by rw [he]; rfl, B⟩
  rw [he] at KE
  have Hq := Lib.hid he
  clear he
  go_wp2_with fail
  ((with_reducible refine (KE.out _ B).mono ?_))
  rintro e w1 ⟨rfl, hB⟩
  replace B := B.next hB; replace X := X.next hB; replace Y := Y.next hB; replace V := V.next hB; clear hB Xz X0 X1 X2 X3 Yz Y0 Y1 Y2 Y3 Vz V0 V1 V2 V3; have Xz := X.lt; have X0 := X.c0; have X1 := X.c1; have X2 := X.c2; have X3 := X.c3; have Yz := Y.lt; have Y0 := Y.c0; have Y1 := Y.c1; have Y2 := Y.c2; have Y3 := Y.c3; have Vz := V.lt; have V0 := V.c0; have V1 := V.c1; have V2 := V.c2; have V3 := V.c3
  clear KE
  have HP1 := Lib.hid (agree_no (fun k => !(if k % 2 = 0 then p else q)) a b)
  have HP2 := Lib.hid (agree_yes (fun k => !(if k % 2 = 0 then p else q)) a b z1)
  have HR1 := Lib.hid (agree_no (fun k => !inB ra k) m n)
  have HR2 := Lib.hid (agree_yes (fun k => !inB ra k) m n z2)
  have HS1 := Lib.hid (agree_no (fun k => !inB sa k) s t)
  have HS2 := Lib.hid (agree_yes (fun k => !inB sa k) s t z3)
  obtain ⟨f, hf⟩ : ∃ f, a.size / 2 = f := ⟨_, rfl⟩
  have HF : Hid (a.size = 2 * f) := by show a.size = 2 * f; omega
  have e1 : (a.size : Int) / 2 = (f : Int) := by omega
  have W := Lib.hid (And.intro z1 (And.intro z2 z3))
  have f6 : f ≤ 600 := by omega
  clear z1 z2 z3 hf hev ha hb
  go_wp2
  go_loopw [7] (fun i wr => ∃ (k : Nat), k ≤ f ∧ i = .int .i64 k ∧ Hid (∀ j, j < 2 * k → byteAt a j = byteAt b j ∨ (!(if j % 2 = 0 then p else q)) = false) ∧ Below w1.heap.size w1 wr) (fun i _ => f - (intOf i).toNat)
  case atStart => exact ⟨0, Nat.zero_le _, rfl, fun j hj => absurd hj (by omega), Below.refl _ _⟩
  case round =>
    obtain ⟨k, hk, rfl, he, D⟩ := hrel
    replace X := X.next D
    replace Y := Y.next D
    replace V := V.next D
    clear Xz X0 X1 X2 X3 Yz Y0 Y1 Y2 Y3 Vz V0 V1 V2 V3
    (skip); have Xz := X.lt; have X0 := X.c0; have X1 := X.c1; have X2 := X.c2; have X3 := X.c3; have Yz := Y.lt; have Y0 := Y.c0; have Y1 := Y.c1; have Y2 := Y.c2; have Y3 := Y.c3; have Vz := V.lt; have V0 := V.c0; have V1 := V.c1; have V2 := V.c2; have V3 := V.c3
    by_cases hlt : k < f
    · have he0 : Hid (∀ j, j < 2 * k + 0 → byteAt a j = byteAt b j ∨ (!(if j % 2 = 0 then p else q)) = false) := he
      have hl1 : 2 * k + 1 < a.size := by rw [HF.out]; omega
      have hl2 : 2 * k + 1 < b.size := by rw [← W.out.1, HF.out]; omega
      clear he HP1 HP2 HR1 HR2 HS1 HS2 KR KS
      go_wp2
      clear e1
      obtain ⟨wo, rfl⟩ : ∃ wo : World, wo = wr := ⟨_, rfl⟩
      go_loopw [8] (fun i wr => ∃ (j : Nat), j ≤ 2 ∧ i = .int .i64 j ∧ Hid (∀ h, h < 2 * k + j → byteAt a h = byteAt b h ∨ (!(if h % 2 = 0 then p else q)) = false) ∧ Below wo.heap.size wo wr) (fun i _ => 2 - (intOf i).toNat)
      case atStart => exact ⟨0, by omega, rfl, he0, Below.refl _ _⟩
      case round =>
        obtain ⟨j, hj, rfl, he, D2⟩ := hrel
        have D3 := D.next D2
        replace X := X.next D2
        replace Y := Y.next D2
        replace V := V.next D2
        clear Xz X0 X1 X2 X3 Yz Y0 Y1 Y2 Y3 Vz V0 V1 V2 V3 he0
        (skip); have Xz := X.lt; have X0 := X.c0; have X1 := X.c1; have X2 := X.c2; have X3 := X.c3; have Yz := Y.lt; have Y0 := Y.c0; have Y1 := Y.c1; have Y2 := Y.c2; have Y3 := Y.c3; have Vz := V.lt; have V0 := V.c0; have V1 := V.c1; have V2 := V.c2; have V3 := V.c3
        by_cases hj2 : j < 2
        · by_cases j0 : j = 0
          · subst j0
            cases p
            · have hpA := fun wr => KP.out k 0 wr hl1 (by omega)
              have hpB := fun wr => KQ.out k 0 wr hl2 (by omega)
              by_cases hxy : byteAt a (2 * k + 0) = byteAt b (2 * k + 0)
              · have He : Hid (∀ h, h < 2 * k + (0 + 1) → byteAt a h = byteAt b h ∨ (!(if h % 2 = 0 then false else q)) = false) := fun h hh => by
                  by_cases eh : h = 2 * k + 0
                  · subst eh; exact .inl hxy
                  · exact he.out h (by omega)
                rw [hxy] at hpA
                generalize byteAt b (2 * k + 0) = x at *
                generalize byteAt a (2 * k + 0) = y at *
                have qX0 := cell_regrown X0
                have qX1 := cell_regrown X1
                have qX2 := cell_regrown X2
                have qX3 := cell_regrown X3
                have qY0 := cell_regrown Y0
                have qY1 := cell_regrown Y1
                have qY2 := cell_regrown Y2
                have qY3 := cell_regrown Y3
                have qV0 := cell_regrown V0
                have qV1 := cell_regrown V1
                have qV2 := cell_regrown V2
                have qV3 := cell_regrown V3
                clear he hxy KP KQ
                go_wp2_with fail
                (refine wp_region_quiet_below (by kernel_rfl) (by kernel_rfl) ?_); (repeat (go_big_quiet_step ((go_at_call 38; first | (with_reducible exact Calls.regrown_of (hpA _)) | (with_reducible exact Calls.regrown_of (hpB _)))))); (refine wpQuiet_nil ?_); intro _ hw'; obtain ⟨⟨dq, osq⟩, hw''⟩ := hw'; (subst hw''); have hq := below_regrown wr dq osq; generalize Go.Sort.grow (redrawn wr dq) osq = wq at hq ⊢
                have D4 := D2.next hq
                go_wp2
                go_roundw
                case rel => exact ⟨0 + 1, by omega, by go_num, He, D4⟩
                case measure => simp [intOf]
              · have Hv : Hid (agP false q a b = false) := agree_no _ a b (2 * k + 0) (by omega) hxy (by rw [if_pos (by omega)]; rfl)
                have hd : (byteAt a (2 * k + 0) != byteAt b (2 * k + 0)) = true := bne_iff_ne.2 hxy
                generalize byteAt b (2 * k + 0) = x at *
                generalize byteAt a (2 * k + 0) = y at *
                have qX0 := cell_regrown X0
                have qX1 := cell_regrown X1
                have qX2 := cell_regrown X2
                have qX3 := cell_regrown X3
                have qY0 := cell_regrown Y0
                have qY1 := cell_regrown Y1
                have qY2 := cell_regrown Y2
                have qY3 := cell_regrown Y3
                have qV0 := cell_regrown V0
                have qV1 := cell_regrown V1
                have qV2 := cell_regrown V2
                have qV3 := cell_regrown V3
                clear he hxy KP KQ
                go_wp2_with fail
                (refine wp_region_quiet_below (by kernel_rfl) (by kernel_rfl) ?_); (repeat (go_big_quiet_step ((go_at_call 38; first | (with_reducible exact Calls.regrown_of (hpA _)) | (with_reducible exact Calls.regrown_of (hpB _)))))); (refine wpQuiet_nil ?_); intro _ hw'; obtain ⟨⟨dq, osq⟩, hw''⟩ := hw'; (subst hw''); have hq := below_regrown wr dq osq; generalize Go.Sort.grow (redrawn wr dq) osq = wq at hq ⊢
                have D4 := (B.next D3).next hq
                go_wp2
                go_ret
                exact ⟨by rw [Hv.out, Bool.false_and, Bool.and_false]; rfl, D4⟩
            · have He : Hid (∀ h, h < 2 * k + (0 + 1) → byteAt a h = byteAt b h ∨ (!(if h % 2 = 0 then true else q)) = false) := fun h hh => by
                by_cases eh : h = 2 * k + 0
                · subst eh; right; rw [if_pos (by omega)]; rfl
                · exact he.out h (by omega)
              have qX0 := cell_regrown X0
              have qX1 := cell_regrown X1
              have qX2 := cell_regrown X2
              have qX3 := cell_regrown X3
              have qY0 := cell_regrown Y0
              have qY1 := cell_regrown Y1
              have qY2 := cell_regrown Y2
              have qY3 := cell_regrown Y3
              have qV0 := cell_regrown V0
              have qV1 := cell_regrown V1
              have qV2 := cell_regrown V2
              have qV3 := cell_regrown V3
              clear he KP KQ
              go_wp2_with fail
              (refine wp_region_quiet_below (by kernel_rfl) (by kernel_rfl) ?_); (repeat (go_big_quiet_step ((go_at_call 38; first | (with_reducible exact Calls.regrown_of (hpA _)) | (with_reducible exact Calls.regrown_of (hpB _)))))); (refine wpQuiet_nil ?_); intro _ hw'; obtain ⟨⟨dq, osq⟩, hw''⟩ := hw'; (subst hw''); have hq := below_regrown wr dq osq; generalize Go.Sort.grow (redrawn wr dq) osq = wq at hq ⊢
              have D4 := D2.next hq
              go_wp2
              go_roundw
              case rel => exact ⟨0 + 1, by omega, by go_num, He, D4⟩
              case measure => simp [intOf]
          · have j1 : j = 1 := by omega
            subst j1
            cases q
            · have hpA := fun wr => KP.out k 1 wr hl1 (by omega)
              have hpB := fun wr => KQ.out k 1 wr hl2 (by omega)
              by_cases hxy : byteAt a (2 * k + 1) = byteAt b (2 * k + 1)
              · have He : Hid (∀ h, h < 2 * k + (1 + 1) → byteAt a h = byteAt b h ∨ (!(if h % 2 = 0 then p else false)) = false) := fun h hh => by
                  by_cases eh : h = 2 * k + 1
                  · subst eh; exact .inl hxy
                  · exact he.out h (by omega)
                rw [hxy] at hpA
                generalize byteAt b (2 * k + 1) = x at *
                generalize byteAt a (2 * k + 1) = y at *
                have qX0 := cell_regrown X0
                have qX1 := cell_regrown X1
                have qX2 := cell_regrown X2
                have qX3 := cell_regrown X3
                have qY0 := cell_regrown Y0
                have qY1 := cell_regrown Y1
                have qY2 := cell_regrown Y2
                have qY3 := cell_regrown Y3
                have qV0 := cell_regrown V0
                have qV1 := cell_regrown V1
                have qV2 := cell_regrown V2
                have qV3 := cell_regrown V3
                clear he hxy KP KQ
                go_wp2_with fail
                (refine wp_region_quiet_below (by kernel_rfl) (by kernel_rfl) ?_); (repeat (go_big_quiet_step ((go_at_call 38; first | (with_reducible exact Calls.regrown_of (hpA _)) | (with_reducible exact Calls.regrown_of (hpB _)))))); (refine wpQuiet_nil ?_); intro _ hw'; obtain ⟨⟨dq, osq⟩, hw''⟩ := hw'; (subst hw''); have hq := below_regrown wr dq osq; generalize Go.Sort.grow (redrawn wr dq) osq = wq at hq ⊢
                have D4 := D2.next hq
                go_wp2
                go_roundw
                case rel => exact ⟨1 + 1, by omega, by go_num, He, D4⟩
                case measure => simp [intOf]
              · have Hv : Hid (agP p false a b = false) := agree_no _ a b (2 * k + 1) (by omega) hxy (by rw [if_neg (by omega)]; rfl)
                have hd : (byteAt a (2 * k + 1) != byteAt b (2 * k + 1)) = true := bne_iff_ne.2 hxy
                generalize byteAt b (2 * k + 1) = x at *
                generalize byteAt a (2 * k + 1) = y at *
                have qX0 := cell_regrown X0
                have qX1 := cell_regrown X1
                have qX2 := cell_regrown X2
                have qX3 := cell_regrown X3
                have qY0 := cell_regrown Y0
                have qY1 := cell_regrown Y1
                have qY2 := cell_regrown Y2
                have qY3 := cell_regrown Y3
                have qV0 := cell_regrown V0
                have qV1 := cell_regrown V1
                have qV2 := cell_regrown V2
                have qV3 := cell_regrown V3
                clear he hxy KP KQ
                go_wp2_with fail
                (refine wp_region_quiet_below (by kernel_rfl) (by kernel_rfl) ?_); (repeat (go_big_quiet_step ((go_at_call 38; first | (with_reducible exact Calls.regrown_of (hpA _)) | (with_reducible exact Calls.regrown_of (hpB _)))))); (refine wpQuiet_nil ?_); intro _ hw'; obtain ⟨⟨dq, osq⟩, hw''⟩ := hw'; (subst hw''); have hq := below_regrown wr dq osq; generalize Go.Sort.grow (redrawn wr dq) osq = wq at hq ⊢
                have D4 := (B.next D3).next hq
                go_wp2
                go_ret
                exact ⟨by rw [Hv.out, Bool.false_and, Bool.and_false]; rfl, D4⟩
            · have He : Hid (∀ h, h < 2 * k + (1 + 1) → byteAt a h = byteAt b h ∨ (!(if h % 2 = 0 then p else true)) = false) := fun h hh => by
                by_cases eh : h = 2 * k + 1
                · subst eh; right; rw [if_neg (by omega)]; rfl
                · exact he.out h (by omega)
              have qX0 := cell_regrown X0
              have qX1 := cell_regrown X1
              have qX2 := cell_regrown X2
              have qX3 := cell_regrown X3
              have qY0 := cell_regrown Y0
              have qY1 := cell_regrown Y1
              have qY2 := cell_regrown Y2
              have qY3 := cell_regrown Y3
              have qV0 := cell_regrown V0
              have qV1 := cell_regrown V1
              have qV2 := cell_regrown V2
              have qV3 := cell_regrown V3
              clear he KP KQ
              go_wp2_with fail
              (refine wp_region_quiet_below (by kernel_rfl) (by kernel_rfl) ?_); (repeat (go_big_quiet_step ((go_at_call 38; first | (with_reducible exact Calls.regrown_of (hpA _)) | (with_reducible exact Calls.regrown_of (hpB _)))))); (refine wpQuiet_nil ?_); intro _ hw'; obtain ⟨⟨dq, osq⟩, hw''⟩ := hw'; (subst hw''); have hq := below_regrown wr dq osq; generalize Go.Sort.grow (redrawn wr dq) osq = wq at hq ⊢
              have D4 := D2.next hq
              go_wp2
              go_roundw
              case rel => exact ⟨1 + 1, by omega, by go_num, He, D4⟩
              case measure => simp [intOf]
        · obtain rfl : j = 2 := by omega
          have He : Hid (∀ h, h < 2 * (k + 1) → byteAt a h = byteAt b h ∨ (!(if h % 2 = 0 then p else q)) = false) := fun h hh => he.out h (by omega)
          clear he KP KQ
          go_wp2
          go_roundw
          case rel => exact ⟨k + 1, by omega, by go_num, He, D3⟩
          case measure => simp [intOf]; omega
    · obtain rfl : k = f := by omega
      have Hv : Hid (agP p q a b = true) := HP2.out fun j hj => he.out j (by rw [HF.out] at hj; exact hj)
      replace B := B.next D
      clear he HP1 HP2 KP KQ D
      go_wp2
      obtain ⟨W9, rfl⟩ : ∃ wo : World, wo = wr := ⟨_, rfl⟩
      go_loopw [9] (fun i wr => ∃ (k : Nat), k ≤ m.size ∧ i = .int .i64 k ∧ Hid (∀ j, j < k → byteAt m j = byteAt n j ∨ (!inB ra j) = false) ∧ Below W9.heap.size W9 wr) (fun i _ => m.size - (intOf i).toNat)
      case atStart => exact ⟨0, Nat.zero_le _, rfl, fun j hj => absurd hj (by omega), Below.refl _ _⟩
      case round =>
        obtain ⟨k9, hk, rfl, he, D⟩ := hrel
        replace X := X.next D
        replace Y := Y.next D
        replace V := V.next D
        have B2 := B.next D
        clear Xz X0 X1 X2 X3 Yz Y0 Y1 Y2 Y3 Vz V0 V1 V2 V3
        (skip); have Xz := X.lt; have X0 := X.c0; have X1 := X.c1; have X2 := X.c2; have X3 := X.c3; have Yz := Y.lt; have Y0 := Y.c0; have Y1 := Y.c1; have Y2 := Y.c2; have Y3 := Y.c3; have Vz := V.lt; have V0 := V.c0; have V1 := V.c1; have V2 := V.c2; have V3 := V.c3
        by_cases hlt : k9 < m.size
        · have hlt2 : k9 < n.size := by rw [← W.out.2.1]; exact hlt
          have hsc := fun d os => KR.out (k9 : Int) _ (B2.next (below_regrown wr d os))
          have qX0 := cell_regrown X0
          have qX1 := cell_regrown X1
          have qX2 := cell_regrown X2
          have qX3 := cell_regrown X3
          have qY0 := cell_regrown Y0
          have qY1 := cell_regrown Y1
          have qY2 := cell_regrown Y2
          have qY3 := cell_regrown Y3
          have qV0 := cell_regrown V0
          have qV1 := cell_regrown V1
          have qV2 := cell_regrown V2
          have qV3 := cell_regrown V3
          cases hin : inB ra k9
          · rw [hin] at hsc
            by_cases hxy : ((m[k9]'hlt).toNat : Int) = ((n[k9]'hlt2).toNat : Int)
            · have He : Hid (∀ j, j < k9 + 1 → byteAt m j = byteAt n j ∨ (!inB ra j) = false) := fun j hj => by
                by_cases ej : j = k9
                · subst ej; exact .inl (by rw [byteAt_lt _ _ hlt, byteAt_lt _ _ hlt2]; exact hxy)
                · exact he.out j (by omega)
              have hd : (((m[k9]'hlt).toNat : Int) != ((n[k9]'hlt2).toNat : Int)) = false := by rw [hxy]; simp
              clear he hin hxy KR KS HR1 HR2 HS1 HS2
              go_wp2_with fail
              (refine wp_region_quiet_below (by kernel_rfl) (by kernel_rfl) ?_); (repeat (go_big_quiet_step ((go_at_call 39; exact Calls.regrown_of (hsc _ _))))); (refine wpQuiet_nil ?_); intro _ hw'; obtain ⟨⟨dq, osq⟩, hw''⟩ := hw'; (subst hw''); have hq := below_regrown wr dq osq; generalize Go.Sort.grow (redrawn wr dq) osq = wq at hq ⊢
              have D4 := D.next hq
              go_wp2
              go_roundw
              case rel => exact ⟨k9 + 1, by omega, by go_num, He, D4⟩
              case measure => simp [intOf]; omega
            · have Hx : Hid (agS ra m n = false) := HR1.out k9 hlt (by rw [byteAt_lt _ _ hlt, byteAt_lt _ _ hlt2]; exact hxy) (by rw [hin]; rfl)
              have hd : (((m[k9]'hlt).toNat : Int) != ((n[k9]'hlt2).toNat : Int)) = true := bne_iff_ne.2 hxy
              clear he hin hxy KR KS HR1 HR2 HS1 HS2
              go_wp2_with fail
              (refine wp_region_quiet_below (by kernel_rfl) (by kernel_rfl) ?_); (repeat (go_big_quiet_step ((go_at_call 39; exact Calls.regrown_of (hsc _ _))))); (refine wpQuiet_nil ?_); intro _ hw'; obtain ⟨⟨dq, osq⟩, hw''⟩ := hw'; (subst hw''); have hq := below_regrown wr dq osq; generalize Go.Sort.grow (redrawn wr dq) osq = wq at hq ⊢
              have D4 := B2.next hq
              go_wp2
              go_ret
              exact ⟨by rw [Hx.out]; simp, D4⟩
          · rw [hin] at hsc
            have He : Hid (∀ j, j < k9 + 1 → byteAt m j = byteAt n j ∨ (!inB ra j) = false) := fun j hj => by
              by_cases ej : j = k9
              · subst ej; exact .inr (by rw [hin]; rfl)
              · exact he.out j (by omega)
            clear he hin KR KS HR1 HR2 HS1 HS2
            go_wp2_with fail
            (refine wp_region_quiet_below (by kernel_rfl) (by kernel_rfl) ?_); (repeat (go_big_quiet_step ((go_at_call 39; exact Calls.regrown_of (hsc _ _))))); (refine wpQuiet_nil ?_); intro _ hw'; obtain ⟨⟨dq, osq⟩, hw''⟩ := hw'; (subst hw''); have hq := below_regrown wr dq osq; generalize Go.Sort.grow (redrawn wr dq) osq = wq at hq ⊢
            have D4 := D.next hq
            go_wp2
            go_roundw
            case rel => exact ⟨k9 + 1, by omega, by go_num, He, D4⟩
            case measure => simp [intOf]; omega
        · have H9 : Hid (agS ra m n = true) := HR2.out fun j hj => he.out j (by omega)
          replace B := B2
          clear he D B2
          go_wp2
          obtain ⟨W10, rfl⟩ : ∃ wo : World, wo = wr := ⟨_, rfl⟩
          go_loopw [10] (fun i wr => ∃ (k : Nat), k ≤ s.size ∧ i = .int .i64 k ∧ Hid (∀ j, j < k → byteAt s j = byteAt t j ∨ (!inB sa j) = false) ∧ Below W10.heap.size W10 wr) (fun i _ => s.size - (intOf i).toNat)
          case atStart => exact ⟨0, Nat.zero_le _, rfl, fun j hj => absurd hj (by omega), Below.refl _ _⟩
          case round =>
            obtain ⟨k10, hk, rfl, he, D⟩ := hrel
            replace X := X.next D
            replace Y := Y.next D
            replace V := V.next D
            have B2 := B.next D
            clear Xz X0 X1 X2 X3 Yz Y0 Y1 Y2 Y3 Vz V0 V1 V2 V3
            (skip); have Xz := X.lt; have X0 := X.c0; have X1 := X.c1; have X2 := X.c2; have X3 := X.c3; have Yz := Y.lt; have Y0 := Y.c0; have Y1 := Y.c1; have Y2 := Y.c2; have Y3 := Y.c3; have Vz := V.lt; have V0 := V.c0; have V1 := V.c1; have V2 := V.c2; have V3 := V.c3
            by_cases hlt : k10 < s.size
            · have hlt2 : k10 < t.size := by rw [← W.out.2.2]; exact hlt
              have hsc := fun d os => KS.out (k10 : Int) _ (B2.next (below_regrown wr d os))
              have qX0 := cell_regrown X0
              have qX1 := cell_regrown X1
              have qX2 := cell_regrown X2
              have qX3 := cell_regrown X3
              have qY0 := cell_regrown Y0
              have qY1 := cell_regrown Y1
              have qY2 := cell_regrown Y2
              have qY3 := cell_regrown Y3
              have qV0 := cell_regrown V0
              have qV1 := cell_regrown V1
              have qV2 := cell_regrown V2
              have qV3 := cell_regrown V3
              cases hin : inB sa k10
              · rw [hin] at hsc
                by_cases hxy : ((s[k10]'hlt).toNat : Int) = ((t[k10]'hlt2).toNat : Int)
                · have He : Hid (∀ j, j < k10 + 1 → byteAt s j = byteAt t j ∨ (!inB sa j) = false) := fun j hj => by
                    by_cases ej : j = k10
                    · subst ej; exact .inl (by rw [byteAt_lt _ _ hlt, byteAt_lt _ _ hlt2]; exact hxy)
                    · exact he.out j (by omega)
                  have hd : (((s[k10]'hlt).toNat : Int) != ((t[k10]'hlt2).toNat : Int)) = false := by rw [hxy]; simp
                  clear he hin hxy KR KS HR1 HR2 HS1 HS2
                  go_wp2_with fail
                  (refine wp_region_quiet_below (by kernel_rfl) (by kernel_rfl) ?_); (repeat (go_big_quiet_step ((go_at_call 39; exact Calls.regrown_of (hsc _ _))))); (refine wpQuiet_nil ?_); intro _ hw'; obtain ⟨⟨dq, osq⟩, hw''⟩ := hw'; (subst hw''); have hq := below_regrown wr dq osq; generalize Go.Sort.grow (redrawn wr dq) osq = wq at hq ⊢
                  have D4 := D.next hq
                  go_wp2
                  go_roundw
                  case rel => exact ⟨k10 + 1, by omega, by go_num, He, D4⟩
                  case measure => simp [intOf]; omega
                · have Hx : Hid (agS sa s t = false) := HS1.out k10 hlt (by rw [byteAt_lt _ _ hlt, byteAt_lt _ _ hlt2]; exact hxy) (by rw [hin]; rfl)
                  have hd : (((s[k10]'hlt).toNat : Int) != ((t[k10]'hlt2).toNat : Int)) = true := bne_iff_ne.2 hxy
                  clear he hin hxy KR KS HR1 HR2 HS1 HS2
                  go_wp2_with fail
                  (refine wp_region_quiet_below (by kernel_rfl) (by kernel_rfl) ?_); (repeat (go_big_quiet_step ((go_at_call 39; exact Calls.regrown_of (hsc _ _))))); (refine wpQuiet_nil ?_); intro _ hw'; obtain ⟨⟨dq, osq⟩, hw''⟩ := hw'; (subst hw''); have hq := below_regrown wr dq osq; generalize Go.Sort.grow (redrawn wr dq) osq = wq at hq ⊢
                  have D4 := B2.next hq
                  go_wp2
                  go_ret
                  exact ⟨by rw [Hx.out]; simp, D4⟩
              · rw [hin] at hsc
                have He : Hid (∀ j, j < k10 + 1 → byteAt s j = byteAt t j ∨ (!inB sa j) = false) := fun j hj => by
                  by_cases ej : j = k10
                  · subst ej; exact .inr (by rw [hin]; rfl)
                  · exact he.out j (by omega)
                clear he hin KR KS HR1 HR2 HS1 HS2
                go_wp2_with fail
                (refine wp_region_quiet_below (by kernel_rfl) (by kernel_rfl) ?_); (repeat (go_big_quiet_step ((go_at_call 39; exact Calls.regrown_of (hsc _ _))))); (refine wpQuiet_nil ?_); intro _ hw'; obtain ⟨⟨dq, osq⟩, hw''⟩ := hw'; (subst hw''); have hq := below_regrown wr dq osq; generalize Go.Sort.grow (redrawn wr dq) osq = wq at hq ⊢
                have D4 := D.next hq
                go_wp2
                go_roundw
                case rel => exact ⟨k10 + 1, by omega, by go_num, He, D4⟩
                case measure => simp [intOf]; omega
            · have H10 : Hid (agS sa s t = true) := HS2.out fun j hj => he.out j (by omega)
              replace B := B2
              clear he D B2
              go_wp2
              go_ret
              exact ⟨by rw [Hq.out, Hv.out, H9.out, H10.out]; rfl, B⟩
end Go.Proofs.Ytjiilcnbajcdhaa
