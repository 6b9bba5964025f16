/-
  The walk of PixelSecrets. Over this seat's translation; no condition. (Written by gen_px.py.)
-/
import Derived.Test.YtkmmmnoipgdedaaPxe
import Derived.LoopN
namespace Go.Proofs.Ytkmmmnoipgdedaa
open Go.RowKit Go.Sort
set_option linter.unusedSimpArgs false
set_option linter.unusedVariables false
set_option maxRecDepth 20000

/-- A list by a function. -/
def flP (n : Nat) (f : Nat → Int × Bool) : List (Int × Bool) := (List.range n).map f
theorem flP_len (n : Nat) (f : Nat → Int × Bool) : (flP n f).length = n := by simp [flP]
theorem flP_nth (n : Nat) (f : Nat → Int × Bool) (k : Nat) (h : k < n) : nth (flP n f) k = f k := by
  unfold nth flP
  rw [List.getD_eq_getElem?_getD]
  simp [h]
theorem flP_congr (n : Nat) (f g : Nat → Int × Bool) (h : ∀ j, j < n → f j = g j) : flP n f = flP n g := by
  unfold flP
  exact List.map_congr_left fun j hj => h j (List.mem_range.1 hj)
theorem flP_set (n : Nat) (f : Nat → Int × Bool) (k : Nat) (x : Int × Bool) : (flP n f).set k x = flP n (fun j => if j = k then x else f j) := by
  apply List.ext_getElem
  · simp [flP]
  · intro i h1 h2
    simp only [flP, List.length_map, List.length_range] at h2
    rw [List.getElem_set]
    simp only [flP, List.getElem_map, List.getElem_range]
    by_cases e : k = i
    · rw [if_pos e, if_pos e.symm]
    · rw [if_neg e, if_neg (Ne.symm e)]
theorem flP_self (l : List (Int × Bool)) (n : Nat) (h : l.length = n) : l = flP n (fun j => nth l j) := by
  apply List.ext_getElem
  · rw [flP_len, h]
  · intro i h1 h2
    simp only [flP, List.getElem_map, List.getElem_range]
    unfold nth
    rw [List.getD_eq_getElem?_getD, List.getElem?_eq_getElem h1]
    rfl
theorem flP_step (n : Nat) (f g : Nat → Int × Bool) (k : Nat) (x : Int × Bool) (hx : f k = x) : (flP n (fun j => if j < k then f j else g j)).set k x = flP n (fun j => if j < k + 1 then f j else g j) := by
  rw [flP_set]
  refine flP_congr _ _ _ fun j _ => ?_
  by_cases e : j = k
  · subst e
    rw [if_pos rfl, if_pos (by omega), hx]
  · rw [if_neg e]
    by_cases h : j < k
    · rw [if_pos h, if_pos (by omega)]
    · rw [if_neg h, if_neg (by omega)]
theorem flP_same (n : Nat) (f g : Nat → Int × Bool) (k : Nat) (hx : f k = g k) : flP n (fun j => if j < k then f j else g j) = flP n (fun j => if j < k + 1 then f j else g j) := by
  refine flP_congr _ _ _ fun j _ => ?_
  by_cases e : j = k
  · subst e
    rw [if_neg (by omega), if_pos (by omega), hx]
  · by_cases h : j < k
    · rw [if_pos h, if_pos (by omega)]
    · rw [if_neg h, if_neg (by omega)]
theorem flP_zero (n : Nat) (f g : Nat → Int × Bool) : flP n g = flP n (fun j => if j < 0 then f j else g j) := flP_congr _ _ _ fun j _ => (if_neg (by omega)).symm
theorem rowP_setS {cs : Array Value} {cap : Nat} {l : List (Int × Bool)} (h : RowG pcs 2 cs cap l) (k : Nat) (s : Bool) (hk : k < l.length) : RowG pcs 2 (splice cs.toList (k * 2 + 1) [.bool s]).toArray cap (l.set k ((nth l k).1, s)) := by
  have hsz := h.size
  have hle := h.le
  have hp : k * 2 + 1 < cs.size := by omega
  rw [spliceP_one cs _ _ hp]
  refine ⟨by simpa using hsz, by rw [List.length_set]; exact hle, h.max, fun j u hu => ?_⟩
  have hj : j < (l.set k ((nth l k).1, s)).length * 2 := by
    have := (List.getElem?_eq_some_iff.1 hu).1
    rwa [flatG_len pcs_len] at this
  rw [List.length_set] at hj
  have hq : j / 2 < l.length := by omega
  have hg := flatG_get pcs_len (l.set k ((nth l k).1, s)) (j / 2) _ (nthP_at (by rw [List.length_set]; exact hq)) (j % 2) (by omega)
  rw [show j / 2 * 2 + j % 2 = j by omega, hu, nthP_set hq] at hg
  obtain ⟨c0, c1⟩ := rowP_get h (j / 2) hq
  rw [Array.getElem?_setIfInBounds]
  by_cases e : k = j / 2
  · subst e
    rw [if_pos rfl] at hg
    rcases Nat.mod_two_eq_zero_or_one j with m | m
    · rw [m] at hg
      rw [if_neg (by omega), hg, show j = j / 2 * 2 by omega, show j / 2 * 2 / 2 = j / 2 by omega, c0]
      rfl
    · rw [m] at hg
      rw [if_pos (by omega), if_pos hp, hg]
      rfl
  · rw [if_neg e] at hg
    rw [if_neg (by omega)]
    rcases Nat.mod_two_eq_zero_or_one j with m | m
    · rw [m] at hg
      rw [hg, show j = j / 2 * 2 by omega, show j / 2 * 2 / 2 = j / 2 by omega, c0]
      rfl
    · rw [m] at hg
      rw [hg, show j = j / 2 * 2 + 1 by omega, show (j / 2 * 2 + 1) / 2 = j / 2 by omega, c1]
      rfl
theorem wpList_psts {P : Program} {ops : Array Oper} {rest : List Oper} {o : Oper} {a : Act} {w : World} {Q : Exit → Act → World → Prop} {n : Nat} {X : List Nat} {w0 : World} {l : List (Nat × Array Value)} (hgd : Region.wanted o (yielded ops a.tmps) = true) (ty : TypeId) (x y : Operand) (ho : o.op = .store ty x y) (hdst : o.dst = none) (R k : Nat) (hx : a.eval x = .pointer (some ⟨R, k * 2 + 1, none⟩)) (i : Nat) (H : Mem n X w0 w l) {cs : Array Value} {cap : Nat} {L : List (Int × Bool)} (hi : l[i]? = some (R, cs)) (hG : RowG pcs 2 cs cap L) (hk : k < L.length) (v : Bool) (hy : a.eval y = .bool v)
    (hz : (P.info? ty).map (·.size) = some 1) (h : ∀ w1 cs', RowG pcs 2 cs' cap (L.set k ((nth L k).1, v)) → Mem n X w0 w1 (l.set i (R, cs')) → wpList P ops Q rest a w1) : wpList P ops Q (o :: rest) a w :=
  wpList_mstore hgd ty x y ho hdst R (k * 2 + 1) hx i H cs _ hi (.bool v) hy hz (by have h1 := hG.size; have h2 := hG.le; show k * 2 + 1 + 1 ≤ cs.size; omega) (by kernel_rfl) rfl fun w1 H1 => h w1 _ (rowP_setS hG k v hk) H1
/-- What is changed where it is secret; what is made low. -/
def mixF (l : List (Int × Bool)) (U : Int) (j : Nat) : Int × Bool := cond (nth l j).2 (bits .xor .u8 (nth l j).1 U, true) (nth l j)
def lowF (l : List (Int × Bool)) (j : Nat) : Int × Bool := ((nth l j).1, false)
theorem tint_lt (v m : BitVec 8) : decide (w8 (tintP v m) < 64) = true := by
  have h1 : ∀ v : BitVec 8, w8 (v &&& 48#8) < 64 := by decide +kernel
  have h2 : ∀ v : BitVec 8, w8 (v &&& 63#8) < 64 := by decide +kernel
  rw [tint_at]
  cases m.getLsbD 0
  · exact decide_eq_true (h2 v)
  · exact decide_eq_true (h1 v)
attribute [local irreducible] wpList
set_option maxHeartbeats 4000000 in
theorem pixelSecrets_no (G S M I x U : Int) (bb ll : Bool) (a : Option Addr) (n cap : Nat) (i0 : 0 ≤ I) (i1 : I < 256) (h : n ≠ 32 ∨ 32 ≤ I) (w : World) : Calls Try.prog 6 #[.agg (pqV G S M I x bb ll), .slice a n cap, .int .u8 U] w fun e w' => e = .returned (.bool true) ∧ Below w.heap.size w w' := by
  have QW := Lib.hid (fun wr => awake16_ct wr)
  have H := Mem.start w
  have M1 : True := trivial
  by_cases hn : n = 32
  · subst hn
    have hI : 31 < I := by have := h.resolve_left (fun e => e rfl); omega
    clear h
    go_enter Try.func6, Try.ntmps6
    go_wp2_with (first | (clear M1; refine wpList_mboxA rfl _ _ rfl H (pqV _ _ _ _ _ _ _) rfl ?_; clear H; intro Rq w1 _ H) | (refine gate_load _ _ rfl ?_; refine wpList_mload1 rfl 5 _ rfl _ _ rfl 0 H (pqV _ _ _ _ _ _ _) (.int .u8 _) rfl rfl (by decide +kernel) ?_) | (refine gate_load _ _ rfl ?_; refine wpList_mload1 rfl 3 _ rfl _ _ rfl 0 H (pqV _ _ _ _ _ _ _) (.int .i64 _) rfl rfl (by decide +kernel) ?_) | (refine gate_load _ _ rfl ?_; refine wpList_mload1 rfl 4 _ rfl _ _ rfl 0 H (pqV _ _ _ _ _ _ _) (.bool _) rfl rfl (by decide +kernel) ?_) | (go_at_call 18; (with_reducible refine (QW.out _).mono ?_); rintro e w2 ⟨rfl, hB⟩; replace H := H.next hB; clear hB) | fail)
    go_ret
    exact ⟨rfl, H.toBelow⟩
  · clear h
    have hn1 : ¬ (n : Int) = 32 := by omega
    have hn2 : decide ((n : Int) = 32) = false := decide_eq_false hn1
    have hn3 : ((n : Int) == 32) = false := by simpa using hn1
    go_enter Try.func6, Try.ntmps6
    go_wp2_with (first | (clear M1; refine wpList_mboxA rfl _ _ rfl H (pqV _ _ _ _ _ _ _) rfl ?_; clear H; intro Rq w1 _ H) | (refine gate_load _ _ rfl ?_; refine wpList_mload1 rfl 5 _ rfl _ _ rfl 0 H (pqV _ _ _ _ _ _ _) (.int .u8 _) rfl rfl (by decide +kernel) ?_) | (refine gate_load _ _ rfl ?_; refine wpList_mload1 rfl 3 _ rfl _ _ rfl 0 H (pqV _ _ _ _ _ _ _) (.int .i64 _) rfl rfl (by decide +kernel) ?_) | (refine gate_load _ _ rfl ?_; refine wpList_mload1 rfl 4 _ rfl _ _ rfl 0 H (pqV _ _ _ _ _ _ _) (.bool _) rfl rfl (by decide +kernel) ?_) | (go_at_call 18; (with_reducible refine (QW.out _).mono ?_); rintro e w2 ⟨rfl, hB⟩; replace H := H.next hB; clear hB) | fail)
    go_ret
    exact ⟨rfl, H.toBelow⟩
set_option maxHeartbeats 16000000 in
theorem pixelSecrets_yes (G S x : Int) (i m v u : BitVec 8) (y bb ll : Bool) (l : List (Int × Bool)) (b off cap k : Nat) (hl : l.length = 32) (hik : w8 i = (k : Int)) (hk : k < 32) (hc : 32 ≤ cap) (hm : cap ≤ maxLen) (w : World) (hr : Rd w (.slice (some ⟨b, off, none⟩) 32 cap) l) (hb : b < w.heap.size) (hn : nth l k = (w8 v, y)) (c0 : w.cell? ⟨b, off + k * 2, none⟩ = some (.int .u8 (w8 v))) (c1 : w.cell? ⟨b, off + k * 2 + 1, none⟩ = some (.bool y)) : Calls Try.prog 6 #[.agg (pqV G S (w8 m) (k : Int) x bb ll), .slice (some ⟨b, off, none⟩) 32 cap, .int .u8 (w8 u)] w fun e w' => e = .returned (.bool true) ∧ Below w.heap.size w w' := by
  have C := fun (b off cap : Nat) (v : BitVec 8) (y s : Bool) hc hm wr hb c0 c1 => pcol_yes b off cap k i m v y s hik hk hc hm wr hb c0 c1
  simp only [hik] at C
  have QC := Lib.hid C
  have QW := Lib.hid (fun wr => awake16_ct wr)
  have HZ := Lib.hid alloc_pb
  have HR := Lib.hid hr
  have HL := Lib.hid hl
  have HC := Lib.hid hc
  have HM := Lib.hid hm
  have HK := Lib.hid hk
  have HN := Lib.hid hn
  have HB := Lib.hid hb
  have K0 := Lib.hid c0
  have K1 := Lib.hid c1
  have H := Mem.start w
  unfold maxLen at hm
  have hu := w8_lt u
  clear C hr hn c0 c1 hl hik hb
  have M1 : True := trivial
  have M2 : True := trivial
  have M3 : True := trivial
  have M4 : True := trivial
  have M5 : True := trivial
  have M6 : True := trivial
  go_enter Try.func6, Try.ntmps6
  go_wp2_with (first | (clear M1; refine wpList_mboxA rfl _ _ rfl H (pqV _ _ _ _ _ _ _) rfl ?_; clear H; intro Rq w1 _ H) | (refine gate_load _ _ rfl ?_; refine wpList_mload1 rfl 5 _ rfl _ _ rfl 0 H (pqV _ _ _ _ _ _ _) (.int .u8 _) rfl rfl (by decide +kernel) ?_) | (refine gate_load _ _ rfl ?_; refine wpList_mload1 rfl 3 _ rfl _ _ rfl 0 H (pqV _ _ _ _ _ _ _) (.int .i64 _) rfl rfl (by decide +kernel) ?_) | (refine gate_load _ _ rfl ?_; refine wpList_mload1 rfl 4 _ rfl _ _ rfl 0 H (pqV _ _ _ _ _ _ _) (.bool _) rfl rfl (by decide +kernel) ?_) | (clear M2; at_builtin; have o0 := ownP_none w1; have b0 : Below w1.heap.size w1 (w1.alloc (.cells #[] 28)) := (Below.refl _ _).alloc (Nat.le_refl _) _; obtain ⟨R1, cap1, wq, r1, o2, _, b2⟩ := app_bytes (w1.alloc (.cells #[] 28)) w1.heap.size w1.heap.size 0 [] l (.slice (some ⟨b, off, none⟩) 32 cap) 24 o0 ((HR.out.below H.toBelow).below b0).src (by rw [List.length_nil, HL.out]; decide) b0.size; rw [List.nil_append] at r1 o2; rw [HL.out] at r1; refine step_app (by rfl) _ _ _ _ rfl _ _ rfl rfl _ _ r1 ?_; obtain ⟨cs1, hb0, hO, hG⟩ := rowP_own o2; replace H := Mem.add H (b0.trans b2) hb0 hO; have HG1 := Lib.hid hG; clear r1 o0 o2 b0 b2 hb0 hO hG) | (clear M3; at_builtin; have o0 := ownP_none wq; have b0 : Below wq.heap.size wq (wq.alloc (.cells #[] 28)) := (Below.refl _ _).alloc (Nat.le_refl _) _; obtain ⟨R2, cap2, wq, r1, o2, _, b2⟩ := app_bytes (wq.alloc (.cells #[] 28)) wq.heap.size wq.heap.size 0 [] l (.slice (some ⟨b, off, none⟩) 32 cap) 24 o0 ((HR.out.below H.toBelow).below b0).src (by rw [List.length_nil, HL.out]; decide) b0.size; rw [List.nil_append] at r1 o2; rw [HL.out] at r1; refine step_app (by rfl) _ _ _ _ rfl _ _ rfl rfl _ _ r1 ?_; obtain ⟨cs2, hb0, hO, hG⟩ := rowP_own o2; replace H := Mem.add H (b0.trans b2) hb0 hO; have HG2 := Lib.hid hG; clear r1 o0 o2 b0 b2 hb0 hO hG) | fail)
  have hg1 := HG1.out
  have hg2 := HG2.out
  rw [flP_self l 32 HL.out, flP_zero 32 (mixF l (w8 u)) (fun j => nth l j)] at hg1
  rw [flP_self l 32 HL.out, flP_zero 32 (lowF l) (fun j => nth l j)] at hg2
  clear HG1 HG2
  go_loopw [9] (fun ii wr => ∃ (n : Nat) (cs1 cs2 : Array Value), n ≤ 32 ∧ ii = .int .i64 n ∧ Hid (RowG pcs 2 cs1 cap1 (flP 32 fun j => if j < n then mixF l (w8 u) j else nth l j)) ∧ Hid (RowG pcs 2 cs2 cap2 (flP 32 fun j => if j < n then lowF l j else nth l j)) ∧ Mem w.heap.size [] w wr [(R2, cs2), (R1, cs1), (Rq, pqV G S (w8 m) (k : Int) x bb ll)]) (fun ii _ => 32 - (intOf ii).toNat)
  case atStart => exact ⟨0, cs1, cs2, by omega, rfl, hg1, hg2, H⟩
  case round =>
    clear H hg1 hg2
    obtain ⟨n, cs1, cs2, hn32, rfl, HG1, HG2, H⟩ := hrel
    by_cases hlt : n < 32
    · have hk1 : n < (flP 32 fun j => if j < n then mixF l (w8 u) j else nth l j).length := by rw [flP_len]; exact hlt
      have hk2 : n < (flP 32 fun j => if j < n then lowF l j else nth l j).length := by rw [flP_len]; exact hlt
      have g1 := rowP_get HG1.out n hk1
      rw [flP_nth _ _ _ hlt, if_neg (Nat.lt_irrefl n)] at g1
      have GA := Lib.hid g1.1
      have GB := Lib.hid g1.2
      clear g1
      have MA : True := trivial
      have MB : True := trivial
      have MC : True := trivial
      have MD : True := trivial
      have EL : lowF l n = ((nth l n).1, false) := rfl
      cases hs : (nth l n).2
      · have EM : mixF l (w8 u) n = nth l n := by unfold mixF; rw [hs]; rfl
        have EMH := Lib.hid EM
        have ELH := Lib.hid EL
        have HS := Lib.hid hs
        clear EM EL hs
        go_wp2_with (first | (clear MA; refine gate_load _ _ rfl ?_; refine wpList_mload1 rfl 4 _ rfl _ (n * 2 + 1) rfl 1 H _ (.bool false) rfl (GB.out.trans (by rw [HS.out])) (by decide +kernel) ?_) | (clear MD; refine gate_store _ _ _ rfl ?_; refine wpList_psts rfl 4 _ _ rfl rfl _ n (by simp only [Act.eval]; rfl) 0 H rfl HG2.out hk2 _ rfl (by kernel_rfl) ?_; clear H; intro w1 cs4 hg H; simp only [List.set_cons_zero, List.set_cons_succ] at H; have HG4 := Lib.hid hg; clear hg) | fail)
        have hg1 := HG1.out
        rw [flP_same 32 _ _ n EMH.out] at hg1
        have hg4 := HG4.out
        rw [flP_nth _ _ _ hlt, if_neg (Nat.lt_irrefl n), flP_step 32 _ _ n _ ELH.out] at hg4
        go_roundw
        case rel => exact ⟨n + 1, cs1, cs4, by omega, by go_num, hg1, hg4, H⟩
        case measure => simp [intOf]; omega
      · have EM : mixF l (w8 u) n = (bits .xor .u8 (nth l n).1 (w8 u), true) := by unfold mixF; rw [hs]; rfl
        have EMH := Lib.hid EM
        have ELH := Lib.hid EL
        have HS := Lib.hid hs
        clear EM EL hs
        go_wp2_with (first | (clear MA; refine gate_load _ _ rfl ?_; refine wpList_mload1 rfl 4 _ rfl _ (n * 2 + 1) rfl 1 H _ (.bool true) rfl (GB.out.trans (by rw [HS.out])) (by decide +kernel) ?_) | (clear MB; refine gate_load _ _ rfl ?_; refine wpList_mload1 rfl 5 _ rfl _ (n * 2) rfl 1 H _ (.int .u8 _) rfl (GA.out) (by decide +kernel) ?_) | (clear MC; refine gate_store _ _ _ rfl ?_; refine wpList_pst rfl 5 _ _ rfl rfl _ n (by simp only [Act.eval]; rfl) 1 H rfl HG1.out hk1 _ rfl (by kernel_rfl) ?_; clear H; intro w1 cs3 hg H; simp only [List.set_cons_zero, List.set_cons_succ] at H; have HG3 := Lib.hid hg; clear hg) | (clear MD; refine gate_store _ _ _ rfl ?_; refine wpList_psts rfl 4 _ _ rfl rfl _ n (by simp only [Act.eval]; rfl) 0 H rfl HG2.out hk2 _ rfl (by kernel_rfl) ?_; clear H; intro w1 cs4 hg H; simp only [List.set_cons_zero, List.set_cons_succ] at H; have HG4 := Lib.hid hg; clear hg) | fail)
        have hg1 := HG3.out
        rw [flP_nth _ _ _ hlt, if_neg (Nat.lt_irrefl n), HS.out, flP_step 32 _ _ n _ EMH.out] at hg1
        have hg4 := HG4.out
        rw [flP_nth _ _ _ hlt, if_neg (Nat.lt_irrefl n), flP_step 32 _ _ n _ ELH.out] at hg4
        go_roundw
        case rel => exact ⟨n + 1, cs3, cs4, by omega, by go_num, hg1, hg4, H⟩
        case measure => simp [intOf]; omega
    · obtain rfl : n = 32 := by omega
      have l1 : (flP 32 fun j => if j < 32 then mixF l (w8 u) j else nth l j).length = 32 := flP_len _ _
      have l2 : (flP 32 fun j => if j < 32 then lowF l j else nth l j).length = 32 := flP_len _ _
      have g1 := rowP_get HG1.out k (by rw [l1]; exact HK.out)
      have g2 := rowP_get HG2.out k (by rw [l2]; exact HK.out)
      rw [flP_nth _ _ _ HK.out, if_pos HK.out] at g1 g2
      have z1 := HG1.out.le
      have z2 := HG2.out.le
      rw [l1] at z1
      rw [l2] at z2
      have y1 := HG1.out.max
      have y2 := HG2.out.max
      unfold mixF at g1
      unfold lowF at g2
      rw [HN.out] at g1 g2
      dsimp only at g1 g2
      have ex : bits .xor .u8 (w8 v) (w8 u) = w8 (v ^^^ u) := v8_xor v u
      rw [ex] at g1
      have lt1 := Lib.hid (tint_lt v m)
      have A := Lib.hid (fun wr (B : Below w.heap.size w wr) => QC.out b off cap v y ll HC.out HM.out wr (Nat.lt_of_lt_of_le HB.out B.size) ((B.cell (p := ⟨b, off + k * 2, none⟩) HB.out).trans K0.out) ((B.cell (p := ⟨b, off + k * 2 + 1, none⟩) HB.out).trans K1.out))
      clear HG1 HG2 l1 l2 ex
      cases y
      · have B2 := Lib.hid (fun wr hb c0 c1 => QC.out R1 0 cap1 v false ll z1 y1 wr hb c0 c1)
        have B3 := Lib.hid (fun wr hb c0 c1 => QC.out R2 0 cap2 v false false z2 y2 wr hb c0 c1)
        have G0 := Lib.hid (show cs1[0 + k * 2]? = some (.int .u8 (w8 v)) by rw [Nat.zero_add]; exact g1.1)
        have G1 := Lib.hid (show cs1[0 + k * 2 + 1]? = some (.bool false) by rw [Nat.zero_add]; exact g1.2)
        have G2 := Lib.hid (show cs2[0 + k * 2]? = some (.int .u8 (w8 v)) by rw [Nat.zero_add]; exact g2.1)
        have G3 := Lib.hid (show cs2[0 + k * 2 + 1]? = some (.bool false) by rw [Nat.zero_add]; exact g2.2)
        have lt2 := lt1.out
        generalize w8 (tintP v m) = va at *
        clear g1 g2 z1 z2 y1 y2 lt1
        cases ll
        all_goals
          have N1 : True := trivial
          have N2 : True := trivial
          have N3 : True := trivial
          have N4 : True := trivial
          have N5 : True := trivial
          have N6 : True := trivial
          go_wp2_with (first | (refine gate_load _ _ rfl ?_; refine wpList_mload1 rfl 5 _ rfl _ _ rfl 2 H (pqV _ _ _ _ _ _ _) (.int .u8 _) rfl rfl (by decide +kernel) ?_) | (refine gate_load _ _ rfl ?_; refine wpList_mload1 rfl 3 _ rfl _ _ rfl 2 H (pqV _ _ _ _ _ _ _) (.int .i64 _) rfl rfl (by decide +kernel) ?_) | (refine gate_load _ _ rfl ?_; refine wpList_mload1 rfl 4 _ rfl _ _ rfl 2 H (pqV _ _ _ _ _ _ _) (.bool _) rfl rfl (by decide +kernel) ?_) | (refine gate_load _ _ rfl ?_; refine wpList_mload1 rfl 5 _ rfl _ _ rfl 3 H (pqV _ _ _ _ _ _ _) (.int .u8 _) rfl rfl (by decide +kernel) ?_) | (refine gate_load _ _ rfl ?_; refine wpList_mload1 rfl 3 _ rfl _ _ rfl 3 H (pqV _ _ _ _ _ _ _) (.int .i64 _) rfl rfl (by decide +kernel) ?_) | (refine gate_load _ _ rfl ?_; refine wpList_mload1 rfl 4 _ rfl _ _ rfl 3 H (pqV _ _ _ _ _ _ _) (.bool _) rfl rfl (by decide +kernel) ?_) | (refine gate_load _ _ rfl ?_; refine wpList_mload1 rfl 5 _ rfl _ _ rfl 4 H (pqV _ _ _ _ _ _ _) (.int .u8 _) rfl rfl (by decide +kernel) ?_) | (refine gate_load _ _ rfl ?_; refine wpList_mload1 rfl 3 _ rfl _ _ rfl 4 H (pqV _ _ _ _ _ _ _) (.int .i64 _) rfl rfl (by decide +kernel) ?_) | (refine gate_load _ _ rfl ?_; refine wpList_mload1 rfl 4 _ rfl _ _ rfl 4 H (pqV _ _ _ _ _ _ _) (.bool _) rfl rfl (by decide +kernel) ?_) | (refine gate_load _ _ rfl ?_; refine wpList_mload1 rfl 5 _ rfl _ _ rfl 5 H (pqV _ _ _ _ _ _ _) (.int .u8 _) rfl rfl (by decide +kernel) ?_) | (refine gate_load _ _ rfl ?_; refine wpList_mload1 rfl 3 _ rfl _ _ rfl 5 H (pqV _ _ _ _ _ _ _) (.int .i64 _) rfl rfl (by decide +kernel) ?_) | (refine gate_load _ _ rfl ?_; refine wpList_mload1 rfl 4 _ rfl _ _ rfl 5 H (pqV _ _ _ _ _ _ _) (.bool _) rfl rfl (by decide +kernel) ?_) | (clear N1; go_at_call 10; (with_reducible refine (A.out _ H.toBelow).mono ?_); rintro e w2 ⟨rfl, hB⟩; replace H := H.next hB; clear hB) | (clear N2; go_at_call 10; have c0 := H.cell (i := 2) rfl G0.out; have c1 := H.cell (i := 2) rfl G1.out; (with_reducible refine (B2.out _ (World.block_lt_of_cell? _ _ c0) c0 c1).mono ?_); rintro e w2 ⟨rfl, hB⟩; replace H := H.next hB; clear hB c0 c1) | (clear N3; go_at_call 10; have c0 := H.cell (i := 2) rfl G2.out; have c1 := H.cell (i := 2) rfl G3.out; (with_reducible refine (B3.out _ (World.block_lt_of_cell? _ _ c0) c0 c1).mono ?_); rintro e w2 ⟨rfl, hB⟩; replace H := H.next hB; clear hB c0 c1) | (clear N4; refine wpList_mnew rfl _ rfl H _ HZ.out ?_; clear H; intro Ra w1 _ H) | (clear N5; refine wpList_mnew rfl _ rfl H _ HZ.out ?_; clear H; intro Rb w1 _ H) | (clear N6; refine wpList_mnew rfl _ rfl H _ HZ.out ?_; clear H; intro Rc w1 _ H) | (refine gate_store _ _ _ rfl ?_; refine wpList_mstoreA rfl 28 _ _ rfl rfl _ rfl 0 H #[.int .u8 _, .bool _] _ rfl rfl (by kernel_rfl) (by kernel_rfl) (by kernel_rfl) ?_; clear H; intro w1 H; simp only [List.set_cons_zero, List.set_cons_succ] at H) | fail)
          have K3 := (H.toBelow.cell (p := ⟨b, off + k * 2 + 1, none⟩) HB.out).trans K1.out
          have r1 := cell_regrown K3
          (try simp only [Act.put, List.setIfInBounds_toArray, List.set_cons_succ, List.set_cons_zero])
          (refine wp_region_quiet_below (by kernel_rfl) (by kernel_rfl) ?_); (repeat (first | (go_big_quiet_want; refine gate_qload _ _ rfl ?_; refine quiet_mload1 5 _ rfl _ _ rfl 5 H (pqV _ _ _ _ _ _ _) (.int .u8 _) rfl rfl (by decide +kernel) ?_; simp only [Act.put, List.setIfInBounds_toArray, List.set_cons_succ, List.set_cons_zero]; go_big_quiet_on) | (go_big_quiet_want; refine gate_qload _ _ rfl ?_; refine quiet_mload1 3 _ rfl _ _ rfl 5 H (pqV _ _ _ _ _ _ _) (.int .i64 _) rfl rfl (by decide +kernel) ?_; simp only [Act.put, List.setIfInBounds_toArray, List.set_cons_succ, List.set_cons_zero]; go_big_quiet_on) | (go_big_quiet_want; refine gate_qload _ _ rfl ?_; refine quiet_mload1 4 _ rfl _ _ rfl 5 H (pqV _ _ _ _ _ _ _) (.bool _) rfl rfl (by decide +kernel) ?_; simp only [Act.put, List.setIfInBounds_toArray, List.set_cons_succ, List.set_cons_zero]; go_big_quiet_on) | (go_big_quiet_want; refine gate_qload _ _ rfl ?_; refine quiet_mload1 5 _ rfl _ _ rfl 0 H #[.int .u8 _, .bool _] (.int .u8 _) rfl rfl (by decide +kernel) ?_; simp only [Act.put, List.setIfInBounds_toArray, List.set_cons_succ, List.set_cons_zero]; go_big_quiet_on) | (go_big_quiet_want; refine gate_qload _ _ rfl ?_; refine quiet_mload1 4 _ rfl _ _ rfl 0 H #[.int .u8 _, .bool _] (.bool _) rfl rfl (by decide +kernel) ?_; simp only [Act.put, List.setIfInBounds_toArray, List.set_cons_succ, List.set_cons_zero]; go_big_quiet_on) | (go_big_quiet_want; refine gate_qload _ _ rfl ?_; refine quiet_mloadA 28 _ rfl _ rfl 0 H #[.int .u8 _, .bool _] rfl (by decide +kernel) (by kernel_rfl) ?_; simp only [Act.put, List.setIfInBounds_toArray, List.set_cons_succ, List.set_cons_zero]; go_big_quiet_on) | (go_big_quiet_want; refine gate_qload _ _ rfl ?_; refine quiet_mload1 5 _ rfl _ _ rfl 1 H #[.int .u8 _, .bool _] (.int .u8 _) rfl rfl (by decide +kernel) ?_; simp only [Act.put, List.setIfInBounds_toArray, List.set_cons_succ, List.set_cons_zero]; go_big_quiet_on) | (go_big_quiet_want; refine gate_qload _ _ rfl ?_; refine quiet_mload1 4 _ rfl _ _ rfl 1 H #[.int .u8 _, .bool _] (.bool _) rfl rfl (by decide +kernel) ?_; simp only [Act.put, List.setIfInBounds_toArray, List.set_cons_succ, List.set_cons_zero]; go_big_quiet_on) | (go_big_quiet_want; refine gate_qload _ _ rfl ?_; refine quiet_mloadA 28 _ rfl _ rfl 1 H #[.int .u8 _, .bool _] rfl (by decide +kernel) (by kernel_rfl) ?_; simp only [Act.put, List.setIfInBounds_toArray, List.set_cons_succ, List.set_cons_zero]; go_big_quiet_on) | (go_big_quiet_want; refine gate_qload _ _ rfl ?_; refine quiet_mload1 5 _ rfl _ _ rfl 2 H #[.int .u8 _, .bool _] (.int .u8 _) rfl rfl (by decide +kernel) ?_; simp only [Act.put, List.setIfInBounds_toArray, List.set_cons_succ, List.set_cons_zero]; go_big_quiet_on) | (go_big_quiet_want; refine gate_qload _ _ rfl ?_; refine quiet_mload1 4 _ rfl _ _ rfl 2 H #[.int .u8 _, .bool _] (.bool _) rfl rfl (by decide +kernel) ?_; simp only [Act.put, List.setIfInBounds_toArray, List.set_cons_succ, List.set_cons_zero]; go_big_quiet_on) | (go_big_quiet_want; refine gate_qload _ _ rfl ?_; refine quiet_mloadA 28 _ rfl _ rfl 2 H #[.int .u8 _, .bool _] rfl (by decide +kernel) (by kernel_rfl) ?_; simp only [Act.put, List.setIfInBounds_toArray, List.set_cons_succ, List.set_cons_zero]; go_big_quiet_on) | go_big_quiet_step ((first | (go_at_call 18; (with_reducible exact Calls.regrown_of (QW.out _))) | fail)))); (refine wpQuiet_nil ?_); intro _ hw'; obtain ⟨⟨dq, osq⟩, hw''⟩ := hw'; (subst hw''); replace H := H.next (below_regrown _ dq osq); generalize Go.Sort.grow (redrawn _ dq) osq = wq at *
          go_wp2
          go_ret
          exact ⟨rfl, H.toBelow⟩
      · have B2 := Lib.hid (fun wr hb c0 c1 => QC.out R1 0 cap1 (v ^^^ u) true ll z1 y1 wr hb c0 c1)
        have B3 := Lib.hid (fun wr hb c0 c1 => QC.out R2 0 cap2 v false false z2 y2 wr hb c0 c1)
        have G0 := Lib.hid (show cs1[0 + k * 2]? = some (.int .u8 (w8 (v ^^^ u))) by rw [Nat.zero_add]; exact g1.1)
        have G1 := Lib.hid (show cs1[0 + k * 2 + 1]? = some (.bool true) by rw [Nat.zero_add]; exact g1.2)
        have G2 := Lib.hid (show cs2[0 + k * 2]? = some (.int .u8 (w8 v)) by rw [Nat.zero_add]; exact g2.1)
        have G3 := Lib.hid (show cs2[0 + k * 2 + 1]? = some (.bool false) by rw [Nat.zero_add]; exact g2.2)
        have lt2 := lt1.out
        generalize w8 (tintP v m) = va at *
        generalize w8 (tintP (v ^^^ u) m) = vb at *
        clear g1 g2 z1 z2 y1 y2 lt1
        cases ll
        all_goals
          have N1 : True := trivial
          have N2 : True := trivial
          have N3 : True := trivial
          have N4 : True := trivial
          have N5 : True := trivial
          have N6 : True := trivial
          go_wp2_with (first | (refine gate_load _ _ rfl ?_; refine wpList_mload1 rfl 5 _ rfl _ _ rfl 2 H (pqV _ _ _ _ _ _ _) (.int .u8 _) rfl rfl (by decide +kernel) ?_) | (refine gate_load _ _ rfl ?_; refine wpList_mload1 rfl 3 _ rfl _ _ rfl 2 H (pqV _ _ _ _ _ _ _) (.int .i64 _) rfl rfl (by decide +kernel) ?_) | (refine gate_load _ _ rfl ?_; refine wpList_mload1 rfl 4 _ rfl _ _ rfl 2 H (pqV _ _ _ _ _ _ _) (.bool _) rfl rfl (by decide +kernel) ?_) | (refine gate_load _ _ rfl ?_; refine wpList_mload1 rfl 5 _ rfl _ _ rfl 3 H (pqV _ _ _ _ _ _ _) (.int .u8 _) rfl rfl (by decide +kernel) ?_) | (refine gate_load _ _ rfl ?_; refine wpList_mload1 rfl 3 _ rfl _ _ rfl 3 H (pqV _ _ _ _ _ _ _) (.int .i64 _) rfl rfl (by decide +kernel) ?_) | (refine gate_load _ _ rfl ?_; refine wpList_mload1 rfl 4 _ rfl _ _ rfl 3 H (pqV _ _ _ _ _ _ _) (.bool _) rfl rfl (by decide +kernel) ?_) | (refine gate_load _ _ rfl ?_; refine wpList_mload1 rfl 5 _ rfl _ _ rfl 4 H (pqV _ _ _ _ _ _ _) (.int .u8 _) rfl rfl (by decide +kernel) ?_) | (refine gate_load _ _ rfl ?_; refine wpList_mload1 rfl 3 _ rfl _ _ rfl 4 H (pqV _ _ _ _ _ _ _) (.int .i64 _) rfl rfl (by decide +kernel) ?_) | (refine gate_load _ _ rfl ?_; refine wpList_mload1 rfl 4 _ rfl _ _ rfl 4 H (pqV _ _ _ _ _ _ _) (.bool _) rfl rfl (by decide +kernel) ?_) | (refine gate_load _ _ rfl ?_; refine wpList_mload1 rfl 5 _ rfl _ _ rfl 5 H (pqV _ _ _ _ _ _ _) (.int .u8 _) rfl rfl (by decide +kernel) ?_) | (refine gate_load _ _ rfl ?_; refine wpList_mload1 rfl 3 _ rfl _ _ rfl 5 H (pqV _ _ _ _ _ _ _) (.int .i64 _) rfl rfl (by decide +kernel) ?_) | (refine gate_load _ _ rfl ?_; refine wpList_mload1 rfl 4 _ rfl _ _ rfl 5 H (pqV _ _ _ _ _ _ _) (.bool _) rfl rfl (by decide +kernel) ?_) | (clear N1; go_at_call 10; (with_reducible refine (A.out _ H.toBelow).mono ?_); rintro e w2 ⟨rfl, hB⟩; replace H := H.next hB; clear hB) | (clear N2; go_at_call 10; have c0 := H.cell (i := 2) rfl G0.out; have c1 := H.cell (i := 2) rfl G1.out; (with_reducible refine (B2.out _ (World.block_lt_of_cell? _ _ c0) c0 c1).mono ?_); rintro e w2 ⟨rfl, hB⟩; replace H := H.next hB; clear hB c0 c1) | (clear N3; go_at_call 10; have c0 := H.cell (i := 2) rfl G2.out; have c1 := H.cell (i := 2) rfl G3.out; (with_reducible refine (B3.out _ (World.block_lt_of_cell? _ _ c0) c0 c1).mono ?_); rintro e w2 ⟨rfl, hB⟩; replace H := H.next hB; clear hB c0 c1) | (clear N4; refine wpList_mnew rfl _ rfl H _ HZ.out ?_; clear H; intro Ra w1 _ H) | (clear N5; refine wpList_mnew rfl _ rfl H _ HZ.out ?_; clear H; intro Rb w1 _ H) | (clear N6; refine wpList_mnew rfl _ rfl H _ HZ.out ?_; clear H; intro Rc w1 _ H) | (refine gate_store _ _ _ rfl ?_; refine wpList_mstoreA rfl 28 _ _ rfl rfl _ rfl 0 H #[.int .u8 _, .bool _] _ rfl rfl (by kernel_rfl) (by kernel_rfl) (by kernel_rfl) ?_; clear H; intro w1 H; simp only [List.set_cons_zero, List.set_cons_succ] at H) | fail)
          have K3 := (H.toBelow.cell (p := ⟨b, off + k * 2 + 1, none⟩) HB.out).trans K1.out
          have r1 := cell_regrown K3
          (try simp only [Act.put, List.setIfInBounds_toArray, List.set_cons_succ, List.set_cons_zero])
          (refine wp_region_quiet_below (by kernel_rfl) (by kernel_rfl) ?_); (repeat (first | (go_big_quiet_want; refine gate_qload _ _ rfl ?_; refine quiet_mload1 5 _ rfl _ _ rfl 5 H (pqV _ _ _ _ _ _ _) (.int .u8 _) rfl rfl (by decide +kernel) ?_; simp only [Act.put, List.setIfInBounds_toArray, List.set_cons_succ, List.set_cons_zero]; go_big_quiet_on) | (go_big_quiet_want; refine gate_qload _ _ rfl ?_; refine quiet_mload1 3 _ rfl _ _ rfl 5 H (pqV _ _ _ _ _ _ _) (.int .i64 _) rfl rfl (by decide +kernel) ?_; simp only [Act.put, List.setIfInBounds_toArray, List.set_cons_succ, List.set_cons_zero]; go_big_quiet_on) | (go_big_quiet_want; refine gate_qload _ _ rfl ?_; refine quiet_mload1 4 _ rfl _ _ rfl 5 H (pqV _ _ _ _ _ _ _) (.bool _) rfl rfl (by decide +kernel) ?_; simp only [Act.put, List.setIfInBounds_toArray, List.set_cons_succ, List.set_cons_zero]; go_big_quiet_on) | (go_big_quiet_want; refine gate_qload _ _ rfl ?_; refine quiet_mload1 5 _ rfl _ _ rfl 0 H #[.int .u8 _, .bool _] (.int .u8 _) rfl rfl (by decide +kernel) ?_; simp only [Act.put, List.setIfInBounds_toArray, List.set_cons_succ, List.set_cons_zero]; go_big_quiet_on) | (go_big_quiet_want; refine gate_qload _ _ rfl ?_; refine quiet_mload1 4 _ rfl _ _ rfl 0 H #[.int .u8 _, .bool _] (.bool _) rfl rfl (by decide +kernel) ?_; simp only [Act.put, List.setIfInBounds_toArray, List.set_cons_succ, List.set_cons_zero]; go_big_quiet_on) | (go_big_quiet_want; refine gate_qload _ _ rfl ?_; refine quiet_mloadA 28 _ rfl _ rfl 0 H #[.int .u8 _, .bool _] rfl (by decide +kernel) (by kernel_rfl) ?_; simp only [Act.put, List.setIfInBounds_toArray, List.set_cons_succ, List.set_cons_zero]; go_big_quiet_on) | (go_big_quiet_want; refine gate_qload _ _ rfl ?_; refine quiet_mload1 5 _ rfl _ _ rfl 1 H #[.int .u8 _, .bool _] (.int .u8 _) rfl rfl (by decide +kernel) ?_; simp only [Act.put, List.setIfInBounds_toArray, List.set_cons_succ, List.set_cons_zero]; go_big_quiet_on) | (go_big_quiet_want; refine gate_qload _ _ rfl ?_; refine quiet_mload1 4 _ rfl _ _ rfl 1 H #[.int .u8 _, .bool _] (.bool _) rfl rfl (by decide +kernel) ?_; simp only [Act.put, List.setIfInBounds_toArray, List.set_cons_succ, List.set_cons_zero]; go_big_quiet_on) | (go_big_quiet_want; refine gate_qload _ _ rfl ?_; refine quiet_mloadA 28 _ rfl _ rfl 1 H #[.int .u8 _, .bool _] rfl (by decide +kernel) (by kernel_rfl) ?_; simp only [Act.put, List.setIfInBounds_toArray, List.set_cons_succ, List.set_cons_zero]; go_big_quiet_on) | (go_big_quiet_want; refine gate_qload _ _ rfl ?_; refine quiet_mload1 5 _ rfl _ _ rfl 2 H #[.int .u8 _, .bool _] (.int .u8 _) rfl rfl (by decide +kernel) ?_; simp only [Act.put, List.setIfInBounds_toArray, List.set_cons_succ, List.set_cons_zero]; go_big_quiet_on) | (go_big_quiet_want; refine gate_qload _ _ rfl ?_; refine quiet_mload1 4 _ rfl _ _ rfl 2 H #[.int .u8 _, .bool _] (.bool _) rfl rfl (by decide +kernel) ?_; simp only [Act.put, List.setIfInBounds_toArray, List.set_cons_succ, List.set_cons_zero]; go_big_quiet_on) | (go_big_quiet_want; refine gate_qload _ _ rfl ?_; refine quiet_mloadA 28 _ rfl _ rfl 2 H #[.int .u8 _, .bool _] rfl (by decide +kernel) (by kernel_rfl) ?_; simp only [Act.put, List.setIfInBounds_toArray, List.set_cons_succ, List.set_cons_zero]; go_big_quiet_on) | go_big_quiet_step ((first | (go_at_call 18; (with_reducible exact Calls.regrown_of (QW.out _))) | fail)))); (refine wpQuiet_nil ?_); intro _ hw'; obtain ⟨⟨dq, osq⟩, hw''⟩ := hw'; (subst hw''); replace H := H.next (below_regrown _ dq osq); generalize Go.Sort.grow (redrawn _ dq) osq = wq at *
          go_wp2
          go_ret
          exact ⟨rfl, H.toBelow⟩
theorem pixelSecrets_walk (q : Pq) (sv : Value) (l : List (Int × Bool)) (u : BitVec 8) (w : World) (hr : Rd w sv l) (hb : bytP l) : Calls Try.prog 6 #[.agg (pqC q), sv, .int .u8 (w8 u)] w fun e w' => e = .returned (.bool true) ∧ Below w.heap.size w w' := by
  have hr0 := hr
  obtain ⟨a, cap, rfl, hcap, hm, hr⟩ := hr
  obtain ⟨i0, i1⟩ := w8_lt q.i
  by_cases h2 : l.length = 32 ∧ w8 q.i < 32
  · obtain ⟨hl, hi⟩ := h2
    rcases hr with rfl | ⟨b, off, rfl, hlt, hc⟩
    · simp at hl
    obtain ⟨k, hk⟩ := Int.eq_ofNat_of_zero_le i0
    have hk2 : k < 32 := by omega
    obtain ⟨c1, c2⟩ := hc k (by omega)
    obtain ⟨v, hv⟩ := w8_ex (hb k (by omega)).1 (hb k (by omega)).2
    rw [hv] at c1
    rw [hl] at hcap hr0 ⊢
    have e : pqC q = pqV (w8 q.g) (w8 q.s) (w8 q.m) (k : Int) q.x q.b q.l := by unfold pqC pqV; rw [hk]
    rw [e]
    exact pixelSecrets_yes (w8 q.g) (w8 q.s) q.x q.i q.m v u (nth l k).2 q.b q.l l b off cap k hl hk hk2 hcap hm w hr0 hlt (Prod.ext hv rfl) c1 c2
  · have hn : l.length ≠ 32 ∨ 32 ≤ w8 q.i := by
      by_cases e : l.length = 32
      · exact .inr (by have := fun h => h2 ⟨e, h⟩; omega)
      · exact .inl e
    exact pixelSecrets_no (w8 q.g) (w8 q.s) (w8 q.m) (w8 q.i) q.x (w8 u) q.b q.l a l.length cap i0 i1 hn w
end Go.Proofs.Ytkmmmnoipgdedaa
