/-
  Package policy's Parse, at every text: refused where it is too large, refused at the first line that is not read, or else the policy of what its lines tell. Over this seat's translation, where the variables hold what their texts lay.
-/
import Derived.Test.YtfceifmhlmiiiaaGreatDoorPst
namespace Go.Proofs.YtfceifmhlmiiiaaGreatDoor
open Go.RowKit Go.Shelf

def zPol : Value := .agg #[.bool false, .bool false, .slice none 0 0, .slice none 0 0]
set_option maxRecDepth 100000 in
set_option maxHeartbeats 1000000 in
theorem parse_large (s : ByteArray) (w : World) (hs : 4096 < s.size) :
    Calls Tryz.prog 4 #[.string s] w fun e w' => e = .returned (.tuple #[.agg #[.bool false, .bool false, .slice none 0 0, .slice none 0 0], .int .i64 0, .int .i64 9]) ∧ Below w.heap.size w w' := by
  go_enter Tryz.func4, Tryz.ntmps4
  go_wp2
  go_step3
  go_wp2
  rw [Exit.noGoto_ret]
  exact bodyPost_ret (v := .tuple #[.agg #[.bool false, .bool false, .slice none 0 0, .slice none 0 0], .int .i64 0, .int .i64 9]) (by simp [results, Tryz.results4, go_sem]) rfl ⟨rfl, (by repeat' (first | exact Below.refl _ _ | (refine Below.setCell ?_ (by first | (simp; done) | (simp; omega) | omega) _) | (refine Below.drew ?_) | (refine Below.drewN ?_ _) | (refine Below.alloc ?_ (by first | (simp; done) | (simp; omega) | omega) _)))⟩

def NoInt (w : World) (T : Nat) : Prop := ∀ o x, w.cell? ⟨T, o, none⟩ ≠ some (.int .i64 x)
theorem noInt_pol {w : World} {T : Nat} {p q : Bool} {a b : Option Addr} {n m c d : Nat} (h : w.heap[T]? = some (.cells #[.bool p, .bool q, .slice a n c, .slice b m d] 25 (0, 0))) : NoInt w T := fun o x e => by
  rw [Lib.cell_of_heap h] at e
  match o, e with
  | 0, e => simp at e
  | 1, e => simp at e
  | 2, e => simp at e
  | 3, e => simp at e
  | o + 4, e => simp at e
theorem rg_setCell {w : World} {v : Value} {l : List (Int × Int)} (h : Rg w v l) {T : Nat} (hn : NoInt w T) (o : Nat) (y : Value) : Rg (w.setCell ⟨T, o, none⟩ y) v l := by
  obtain ⟨a, c, rfl, h1, h2, h3⟩ := h
  refine ⟨a, c, rfl, h1, h2, ?_⟩
  rcases h3 with rfl | ⟨b, off, rfl, hb, hc⟩
  · exact .inl rfl
  · refine .inr ⟨b, off, rfl, by simpa [World.setCell] using hb, fun k hk => ?_⟩
    obtain ⟨g1, g2⟩ := hc k hk
    have hne : T ≠ b := by rintro rfl; exact hn _ _ g1
    rw [World.cell?_setCell_other _ _ _ _ (by intro e; cases e; exact hne rfl), World.cell?_setCell_other _ _ _ _ (by intro e; cases e; exact hne rfl)]
    exact ⟨g1, g2⟩
theorem rg_copy {w : World} {v : Value} {l : List (Int × Int)} (h : Rg w v l) {R : Nat} {x y : Bool} {a b : Option Addr} {n m c d : Nat} (hR : w.heap[R]? = some (.cells #[.bool x, .bool y, .slice a n c, .slice b m d] 25 (0, 0))) (p q : Bool) (a1 a2 : Option Addr) (n1 n2 c1 c2 : Nat) :
    Rg ((((w.setCell ⟨R, 0, none⟩ (.bool p)).setCell ⟨R, 1, none⟩ (.bool q)).setCell ⟨R, 2, none⟩ (.slice a1 n1 c1)).setCell ⟨R, 3, none⟩ (.slice a2 n2 c2)) v l := by
  have h0 := rg_setCell h (noInt_pol hR) 0 (.bool p)
  have hR0 : (w.setCell ⟨R, 0, none⟩ (.bool p)).heap[R]? = some (.cells #[.bool p, .bool y, .slice a n c, .slice b m d] 25 (0, 0)) := by simp [World.setCell, Array.getElem?_modify, hR]
  have h1 := rg_setCell h0 (noInt_pol hR0) 1 (.bool q)
  have hR1 : ((w.setCell ⟨R, 0, none⟩ (.bool p)).setCell ⟨R, 1, none⟩ (.bool q)).heap[R]? = some (.cells #[.bool p, .bool q, .slice a n c, .slice b m d] 25 (0, 0)) := by
    generalize w.setCell ⟨R, 0, none⟩ (.bool p) = w' at hR0
    simp [World.setCell, Array.getElem?_modify, hR0]
  have h2 := rg_setCell h1 (noInt_pol hR1) 2 (.slice a1 n1 c1)
  have hR2 : (((w.setCell ⟨R, 0, none⟩ (.bool p)).setCell ⟨R, 1, none⟩ (.bool q)).setCell ⟨R, 2, none⟩ (.slice a1 n1 c1)).heap[R]? = some (.cells #[.bool p, .bool q, .slice a1 n1 c1, .slice b m d] 25 (0, 0)) := by
    generalize (w.setCell ⟨R, 0, none⟩ (.bool p)).setCell ⟨R, 1, none⟩ (.bool q) = w' at hR1
    simp [World.setCell, Array.getElem?_modify, hR1]
  exact rg_setCell h2 (noInt_pol hR2) 3 _
theorem own_nil (w : World) (B : Nat) : OwnR w B (.slice none 0 0) [] := ⟨World.ownsRow_nil _ _ _ _, by simp⟩
theorem PS.start (w w1 : World) (L : List ByteArray) (hb : Below (w.heap.size + 2) ((w.alloc (.cells #[.bool false, .bool false, .slice none 0 0, .slice none 0 0] 25)).alloc (.cells #[.bool false, .bool false, .slice none 0 0, .slice none 0 0] 25)) w1) (hz : w.heap.size + 2 ≤ w1.heap.size) (hB : Below w.heap.size w w1) :
    PS w L w.heap.size (w.heap.size + 1) w1.heap.size (w1.heap.size + 1) ((w1.alloc (.cells #[.string ⟨#[114, 97, 109, 32]⟩, .int .i64 2048, .slice none 0 0, .string ⟨#[115, 97, 118, 101, 32]⟩, .int .i64 8192, .slice none 0 0] 36)).alloc (.cells (L.map Value.string).toArray 9)) false false (.slice none 0 0) (.slice none 0 0) [] [] := by
  have old : ∀ b, b < w1.heap.size → ((w1.alloc (.cells #[.string ⟨#[114, 97, 109, 32]⟩, .int .i64 2048, .slice none 0 0, .string ⟨#[115, 97, 118, 101, 32]⟩, .int .i64 8192, .slice none 0 0] 36)).alloc (.cells (L.map Value.string).toArray 9)).heap[b]? = w1.heap[b]? := fun b h => by
    rw [Lib.alloc_old _ _ b (by simp; omega), Lib.alloc_old _ _ b h]
  refine ⟨?_, ?_, ?_, ?_, own_nil _ _, own_nil _ _, fun g h => by simp [Value.ownBlock] at h, ?_, Nat.le_refl _, by omega, by omega, by omega⟩
  · rw [old _ (by omega), hb.block _ (by omega), Lib.alloc_old _ _ _ (by simp)]
    exact World.alloc_heap_new w _
  · rw [old _ (by omega), hb.block _ (by omega)]
    have := World.alloc_heap_new (w.alloc (.cells #[.bool false, .bool false, .slice none 0 0, .slice none 0 0] 25)) (.cells #[.bool false, .bool false, .slice none 0 0, .slice none 0 0] 25)
    simpa using this
  · rw [Lib.alloc_old _ _ _ (by simp)]
    exact World.alloc_heap_new w1 _
  · have := World.alloc_heap_new (w1.alloc (.cells #[.string ⟨#[114, 97, 109, 32]⟩, .int .i64 2048, .slice none 0 0, .string ⟨#[115, 97, 118, 101, 32]⟩, .int .i64 8192, .slice none 0 0] 36)) (.cells (L.map Value.string).toArray 9)
    simpa using this
  · exact (by repeat' (first | exact Below.refl _ _ | (refine Below.setCell ?_ (by first | (simp; done) | (simp; omega) | omega) _) | (refine Below.drew ?_) | (refine Below.drewN ?_ _) | (refine Below.alloc ?_ (by first | (simp; done) | (simp; omega) | omega) _) | (refine Below.trans ?_ (Below.mono hB (by first | (simp; done) | (simp; omega) | omega)))))
theorem read_some {word : ByteArray} {n : Int} (va : Option Addr) (vl vc : Nat) {s : ByteArray} (w : World) (G : Glob w) (hs : s.size < 4294967281) {r : Int × Int} (h : readL word.data.toList n s.data.toList = some r) :
    Calls Tryz.prog 10 #[.agg #[.string word, .int .i64 n, .slice va vl vc], .string s] w fun e w' => e = .returned (.tuple #[.agg #[.int .i64 r.1, .int .i64 r.2], .bool true]) ∧ Below w.heap.size w w' := by
  have := read_ct word n va vl vc s w G hs
  rw [h] at this
  exact this
theorem read_none {word : ByteArray} {n : Int} (va : Option Addr) (vl vc : Nat) {s : ByteArray} (w : World) (G : Glob w) (hs : s.size < 4294967281) (h : readL word.data.toList n s.data.toList = none) :
    Calls Tryz.prog 10 #[.agg #[.string word, .int .i64 n, .slice va vl vc], .string s] w fun e w' => e = .returned (.tuple #[.agg #[.int .i64 0, .int .i64 0], .bool false]) ∧ Below w.heap.size w w' := by
  have := read_ct word n va vl vc s w G hs
  rw [h] at this
  exact this
theorem cls_cases (l : List UInt8) :
    (isSkip l = true ∧ cls l = .skip) ∨ (isSkip l = false ∧ l = port1W ∧ cls l = .port1) ∨ (isSkip l = false ∧ ¬ l = port1W ∧ l = port2W ∧ cls l = .port2) ∨
    (isSkip l = false ∧ ¬ l = port1W ∧ ¬ l = port2W ∧ ∃ r, readL ramW 2048 l = some r ∧ cls l = .ram r) ∨
    (isSkip l = false ∧ ¬ l = port1W ∧ ¬ l = port2W ∧ readL ramW 2048 l = none ∧ ∃ r, readL saveW 8192 l = some r ∧ cls l = .save r) ∨
    (isSkip l = false ∧ ¬ l = port1W ∧ ¬ l = port2W ∧ readL ramW 2048 l = none ∧ readL saveW 8192 l = none ∧ cls l = .bad) := by
  cases h1 : isSkip l
  · by_cases h2 : l = port1W
    · exact .inr (.inl ⟨rfl, h2, by unfold cls; rw [h1, if_neg (by decide), if_pos h2]⟩)
    · by_cases h3 : l = port2W
      · exact .inr (.inr (.inl ⟨rfl, h2, h3, by unfold cls; rw [h1, if_neg (by decide), if_neg h2, if_pos h3]⟩))
      · cases h4 : readL ramW 2048 l with
        | some r => exact .inr (.inr (.inr (.inl ⟨rfl, h2, h3, r, rfl, by unfold cls; rw [h1, if_neg (by decide), if_neg h2, if_neg h3, h4]⟩)))
        | none =>
          cases h5 : readL saveW 8192 l with
          | some r => exact .inr (.inr (.inr (.inr (.inl ⟨rfl, h2, h3, rfl, r, rfl, by unfold cls; rw [h1, if_neg (by decide), if_neg h2, if_neg h3, h4, h5]⟩))))
          | none => exact .inr (.inr (.inr (.inr (.inr ⟨rfl, h2, h3, rfl, rfl, by unfold cls; rw [h1, if_neg (by decide), if_neg h2, if_neg h3, h4, h5]⟩))))
  · exact .inl ⟨rfl, by unfold cls; rw [h1, if_pos rfl]⟩
theorem noskip_facts (B : ByteArray) (h : isSkip B.data.toList = false) : B.toList.isEmpty = false ∧ (¬ B.toList = []) ∧ ∃ h0 : 0 < B.size, (((B[0]'h0).toNat : Int) == 35) = false := by
  have hb : B.data.toList.length = B.size := by rw [Array.length_toList]; rfl
  rw [ByteArray.toList_eq]
  cases hl : B.data.toList with
  | nil => rw [hl] at h; cases h
  | cons c u =>
    have h0 : 0 < B.size := by rw [← hb, hl]; simp
    refine ⟨rfl, by simp, h0, ?_⟩
    have hc : B[0]'h0 = c := by
      have : B[0]'h0 = B.data.toList[0]'(by rw [hl]; simp) := rfl
      rw [this]; simp [hl]
    rw [hc]
    rw [hl] at h
    have hne : ¬ c = 35 := by simpa [isSkip] using h
    simp only [beq_eq_false_iff_ne, ne_eq]
    intro e
    exact hne (UInt8.toNat_inj.1 (by show c.toNat = 35; omega))
theorem skip_facts (B : ByteArray) (h : isSkip B.data.toList = true) : B.toList = [] ∨ (B.toList.isEmpty = false ∧ (¬ B.toList = []) ∧ ∃ h0 : 0 < B.size, (((B[0]'h0).toNat : Int) == 35) = true) := by
  have hb : B.data.toList.length = B.size := by rw [Array.length_toList]; rfl
  rw [ByteArray.toList_eq]
  cases hl : B.data.toList with
  | nil => exact .inl rfl
  | cons c u =>
    have h0 : 0 < B.size := by rw [← hb, hl]; simp
    refine .inr ⟨rfl, by simp, h0, ?_⟩
    have hc : B[0]'h0 = c := by
      have : B[0]'h0 = B.data.toList[0]'(by rw [hl]; simp) := rfl
      rw [this]; simp [hl]
    rw [hc]
    rw [hl] at h
    have he : c = 35 := by simpa [isSkip] using h
    subst he
    rfl
theorem eqB_no (B C : ByteArray) (l : List UInt8) (hC : C.data.toList = l) (h : ¬ B.data.toList = l) : (B.toList == C.toList) = false := by
  rw [ByteArray.toList_eq, ByteArray.toList_eq, hC]
  simpa using h
theorem eqB_yes (B C : ByteArray) (l : List UInt8) (hC : C.data.toList = l) (h : B.data.toList = l) : (B.toList == C.toList) = true := by
  rw [ByteArray.toList_eq, ByteArray.toList_eq, hC, h]
  exact beq_self_eq_true _
theorem take_line (ls : List (List UInt8)) (k : Nat) (l : List UInt8) (h : ls[k]? = some l) : ls.take (k + 1) = ls.take k ++ [l] := by
  rw [List.take_add_one, h]; rfl
def ParseP (ls : List (List UInt8)) (w : World) (e : Ending) (w' : World) : Prop :=
  (∃ k, k < ls.length ∧ noBad (ls.take k) = true ∧ isBad (ls.getD k []) = true ∧ e = .returned (.tuple #[.agg #[.bool false, .bool false, .slice none 0 0, .slice none 0 0], .int .i64 ((k + 1 : Nat) : Int), .int .i64 7]) ∧ Below w.heap.size w w') ∨
  (noBad ls = true ∧ ∃ sv tv ra sa, e = .returned (.tuple #[polV (anyP1 ls) (anyP2 ls) sv tv, .int .i64 0, .int .i64 0]) ∧ Rg w' sv ra ∧ Rg w' tv sa ∧ Tidied (rams ls) ra ∧ Tidied (saves ls) sa ∧ Below w.heap.size w w')
set_option maxRecDepth 100000 in
set_option maxHeartbeats 8000000 in
theorem parse_in (s : ByteArray) (w : World) (G : Glob w) (hs : s.size ≤ 4096) :
    Calls Tryz.prog 4 #[.string s] w (ParseP (linesOf s.data.toList) w) := by
  obtain ⟨i0, hi, hy0, hy1, hy2⟩ := info_parts info_range
  have Gb : Hid (∀ w', Below w.heap.size w w' → Glob w') := fun _ hb => G.below hb
  clear G
  go_enter Tryz.func4, Tryz.ntmps4
  go_wp2
  go_step3
  go_wp2_with fail
  refine (areas_ct _ _ _ _ _ _ _ _ _).mono ?_
  rintro e w1 ⟨rfl, hB⟩
  obtain ⟨hc1, hf1⟩ := bcell hB
  simp at hc1 hf1
  have hz1 : w.heap.size + 2 ≤ w1.heap.size := by have := hB.size; simp at this; omega
  have HB1 : Hid (Below w.heap.size w w1) := (by repeat' (first | exact Below.refl _ _ | (refine Below.setCell ?_ (by first | (simp; done) | (simp; omega) | omega) _) | (refine Below.drew ?_) | (refine Below.drewN ?_ _) | (refine Below.alloc ?_ (by first | (simp; done) | (simp; omega) | omega) _) | (refine Below.trans ?_ (Below.mono hB (by first | (simp; done) | (simp; omega) | omega)))))
  obtain ⟨L, hL, hsp⟩ := cutlines_ct s (w1.alloc (.cells #[.string ⟨#[114, 97, 109, 32]⟩, .int .i64 2048, .slice none 0 0, .string ⟨#[115, 97, 118, 101, 32]⟩, .int .i64 8192, .slice none 0 0] 36)) (Gb.out _ (by repeat' (first | exact Below.refl _ _ | (refine Below.setCell ?_ (by first | (simp; done) | (simp; omega) | omega) _) | (refine Below.drew ?_) | (refine Below.drewN ?_ _) | (refine Below.alloc ?_ (by first | (simp; done) | (simp; omega) | omega) _) | (refine Below.trans ?_ (Below.mono HB1.out (by first | (simp; done) | (simp; omega) | omega)))))) (by omega)
  go_wp2
  go_step3
  go_wp2_with fail
  refine hsp.mono ?_
  rintro e w2 ⟨rfl, rfl⟩
  have hP := PS.start w w1 L (by simpa using hB) hz1 HB1.out
  have HP := Lib.hid hP
  obtain ⟨T, hT⟩ : ∃ T, T = w.heap.size + 1 := ⟨_, rfl⟩
  obtain ⟨R, hR⟩ : ∃ R, R = w.heap.size := ⟨_, rfl⟩
  rw [← hT, ← hR] at HP
  clear hP hB hc1 hf1 hsp
  have HL := Lib.hid hL
  clear hL
  go_wp2
  rw [← hT, ← hR]
  clear hT hR
  generalize w1.heap.size + 1 = S at HP ⊢
  generalize w1.heap.size = M at HP ⊢
  go_loopw [24] (fun i wr => ∃ (k : Nat) (v1 v2 : Value), k ≤ L.length ∧ i = .int .i64 k ∧ Hid (noBad ((linesOf s.data.toList).take k) = true) ∧ Hid (PS w L R T M S wr (anyP1 ((linesOf s.data.toList).take k)) (anyP2 ((linesOf s.data.toList).take k)) v1 v2 (rams ((linesOf s.data.toList).take k)) (saves ((linesOf s.data.toList).take k)))) (fun i _ => L.length - (intOf i).toNat)
  case atStart => exact ⟨0, _, _, Nat.zero_le _, rfl, rfl, HP⟩
  case round =>
    clear HP
    obtain ⟨k, v1, v2, hk, rfl, hN, hP⟩ := hrel
    by_cases hlt : k < L.length
    · have hcell : wr.cell? ⟨S, k, none⟩ = some (.string L[k]) := by
        simp [World.cell?, hP.out.hS, hlt]
      obtain ⟨B, hBv⟩ : ∃ B, L[k] = B := ⟨_, rfl⟩
      rw [hBv] at hcell
      have hln : L.length ≤ 4097 := by
        have h1 := linesOf_len s.data.toList
        have h2 : s.data.toList.length = s.size := by rw [Array.length_toList]; rfl
        rw [← HL.out, List.length_map] at h1
        omega
      have hlk : (linesOf s.data.toList)[k]? = some B.data.toList := by
        rw [← HL.out, List.getElem?_map, List.getElem?_eq_getElem hlt, hBv]; rfl
      have htk := take_line _ k _ hlk
      have hBs : B.size < 4294967281 := by
        have h1 := linesOf_mem_len s.data.toList _ (List.mem_of_getElem? hlk)
        have h2 : s.data.toList.length = s.size := by rw [Array.length_toList]; rfl
        have h3 : B.data.toList.length = B.size := by rw [Array.length_toList]; rfl
        omega
      have hg := Gb.out wr hP.out.bel
      have hp1 := hg.port1
      have hp2 := hg.port2
      clear hg
      have ix0 : ∀ w, (Instr.index 40 (.agg #[.string port1B, .string port2B]) (.int .i64 0)).run Tryz.prog w = .ok (.string port1B) w := fun _ => by kernel_rfl
      have ix1 : ∀ w, (Instr.index 40 (.agg #[.string port1B, .string port2B]) (.int .i64 1)).run Tryz.prog w = .ok (.string port2B) w := fun _ => by kernel_rfl
      have ct0 : wr.cell? ⟨T, 0, none⟩ = some (.bool (anyP1 ((linesOf s.data.toList).take k))) := by rw [Lib.cell_of_heap hP.out.hT]; rfl
      have ct1 : wr.cell? ⟨T, 1, none⟩ = some (.bool (anyP2 ((linesOf s.data.toList).take k))) := by rw [Lib.cell_of_heap hP.out.hT]; rfl
      have ft0 : wr.frozen? ⟨T, 0, none⟩ = false := Lib.frozen_of_heap hP.out.hT 0
      have ft1 : wr.frozen? ⟨T, 1, none⟩ = false := Lib.frozen_of_heap hP.out.hT 1
      rcases cls_cases B.data.toList with ⟨hsk, hc⟩ | ⟨hsk, h1, hc⟩ | ⟨hsk, h1, h2, hc⟩ | ⟨hsk, h1, h2, r, h3, hc⟩ | ⟨hsk, h1, h2, h3, r, h4, hc⟩ | ⟨hsk, h1, h2, h3, h4, hc⟩
      · have HN : Hid (noBad ((linesOf s.data.toList).take (k + 1)) = true) := by rw [Hid, htk, noBad_append, hN.out]; simp [noBad, isBad, hc]
        have HP : Hid (PS w L R T M S wr (anyP1 ((linesOf s.data.toList).take (k + 1))) (anyP2 ((linesOf s.data.toList).take (k + 1))) v1 v2 (rams ((linesOf s.data.toList).take (k + 1))) (saves ((linesOf s.data.toList).take (k + 1)))) := by
          rw [Hid, htk, anyP1_append, anyP2_append, rams_append, saves_append]
          simpa [anyP1, anyP2, rams, saves, ramOf, saveOf, hc] using hP.out
        have hsf := skip_facts B hsk
        clear htk hc hlk hN hP hBv hsk
        rcases hsf with e1 | ⟨e1, e2, e3, e4⟩
        · go_wp2
          go_roundw
          case rel => exact ⟨k + 1, v1, v2, by omega, by go_num, HN, HP⟩
          case measure => simp [intOf]; omega
        · go_wp2
          go_roundw
          case rel => exact ⟨k + 1, v1, v2, by omega, by go_num, HN, HP⟩
          case measure => simp [intOf]; omega
      · have HN : Hid (noBad ((linesOf s.data.toList).take (k + 1)) = true) := by rw [Hid, htk, noBad_append, hN.out]; simp [noBad, isBad, hc]
        have HP : Hid (PS w L R T M S (wr.setCell ⟨T, 0, none⟩ (.bool true)) (anyP1 ((linesOf s.data.toList).take (k + 1))) (anyP2 ((linesOf s.data.toList).take (k + 1))) v1 v2 (rams ((linesOf s.data.toList).take (k + 1))) (saves ((linesOf s.data.toList).take (k + 1)))) := by
          rw [Hid, htk, anyP1_append, anyP2_append, rams_append, saves_append]
          simpa [anyP1, anyP2, rams, saves, ramOf, saveOf, hc] using hP.out.port1 hP.out.ne_TM hP.out.ne_TS
        have q1 := eqB_yes B port1B port1W rfl h1
        obtain ⟨e1, e2, e3, e4⟩ := noskip_facts B hsk
        clear htk hc hlk hN hP hBv hsk h1
        go_wp2
        refine wp_loop_rounds (2 + 1) ?_
        rw [rounds_succ]
        go_wp2
        go_roundw
        case rel => exact ⟨k + 1, v1, v2, by omega, by go_num, HN, HP⟩
        case measure => simp [intOf]; omega
      · have HN : Hid (noBad ((linesOf s.data.toList).take (k + 1)) = true) := by rw [Hid, htk, noBad_append, hN.out]; simp [noBad, isBad, hc]
        have HP : Hid (PS w L R T M S (wr.setCell ⟨T, 1, none⟩ (.bool true)) (anyP1 ((linesOf s.data.toList).take (k + 1))) (anyP2 ((linesOf s.data.toList).take (k + 1))) v1 v2 (rams ((linesOf s.data.toList).take (k + 1))) (saves ((linesOf s.data.toList).take (k + 1)))) := by
          rw [Hid, htk, anyP1_append, anyP2_append, rams_append, saves_append]
          simpa [anyP1, anyP2, rams, saves, ramOf, saveOf, hc] using hP.out.port2 hP.out.ne_TM hP.out.ne_TS
        have q1 := eqB_no B port1B port1W rfl h1
        have q2 := eqB_yes B port2B port2W rfl h2
        obtain ⟨e1, e2, e3, e4⟩ := noskip_facts B hsk
        clear htk hc hlk hN hP hBv hsk h1 h2
        go_wp2
        refine wp_loop_rounds (2 + 1) ?_
        rw [rounds_succ]
        go_wp2
        rw [rounds_succ]
        go_wp2
        go_roundw
        case rel => exact ⟨k + 1, v1, v2, by omega, by go_num, HN, HP⟩
        case measure => simp [intOf]; omega
      · obtain ⟨a1, c1, hv1, hcap1, hm1, _⟩ := hP.out.o1.rg
        obtain ⟨a2, c2, hv2, hcap2, hm2, _⟩ := hP.out.o2.rg
        have hl1 : (rams ((linesOf s.data.toList).take k)).length ≤ 4097 := by
          have h1 := rams_len ((linesOf s.data.toList).take k)
          have h2 := List.length_take_le k (linesOf s.data.toList)
          omega
        have hl2 : (saves ((linesOf s.data.toList).take k)).length ≤ 4097 := by
          have h1 := saves_len ((linesOf s.data.toList).take k)
          have h2 := List.length_take_le k (linesOf s.data.toList)
          omega
        obtain ⟨n1, hn1⟩ : ∃ n, (rams ((linesOf s.data.toList).take k)).length = n := ⟨_, rfl⟩
        obtain ⟨n2, hn2⟩ : ∃ n, (saves ((linesOf s.data.toList).take k)).length = n := ⟨_, rfl⟩
        rw [hn1] at hv1 hl1
        rw [hn2] at hv2 hl2
        subst hv1 hv2
        have Hn1 := Lib.hid hn1
        have Hn2 := Lib.hid hn2
        have cm0 : wr.cell? ⟨M, 0, none⟩ = some (.string ⟨#[114, 97, 109, 32]⟩) := by rw [Lib.cell_of_heap hP.out.hM]; rfl
        have cm1 : wr.cell? ⟨M, 1, none⟩ = some (.int .i64 2048) := by rw [Lib.cell_of_heap hP.out.hM]; rfl
        have cm2 : wr.cell? ⟨M, 2, none⟩ = some (.slice a1 n1 c1) := by rw [Lib.cell_of_heap hP.out.hM]; rfl
        have cm3 : wr.cell? ⟨M, 3, none⟩ = some (.string ⟨#[115, 97, 118, 101, 32]⟩) := by rw [Lib.cell_of_heap hP.out.hM]; rfl
        have cm4 : wr.cell? ⟨M, 4, none⟩ = some (.int .i64 8192) := by rw [Lib.cell_of_heap hP.out.hM]; rfl
        have cm5 : wr.cell? ⟨M, 5, none⟩ = some (.slice a2 n2 c2) := by rw [Lib.cell_of_heap hP.out.hM]; rfl
        have ia0 : ∀ w, (Instr.index 36 (.agg #[.string ⟨#[114, 97, 109, 32]⟩, .int .i64 2048, .slice a1 n1 c1, .string ⟨#[115, 97, 118, 101, 32]⟩, .int .i64 8192, .slice a2 n2 c2]) (.int .i64 0)).run Tryz.prog w = .ok (.agg #[.string ⟨#[114, 97, 109, 32]⟩, .int .i64 2048, .slice a1 n1 c1]) w := fun _ => by kernel_rfl
        have ia1 : ∀ w, (Instr.index 36 (.agg #[.string ⟨#[114, 97, 109, 32]⟩, .int .i64 2048, .slice a1 n1 c1, .string ⟨#[115, 97, 118, 101, 32]⟩, .int .i64 8192, .slice a2 n2 c2]) (.int .i64 1)).run Tryz.prog w = .ok (.agg #[.string ⟨#[115, 97, 118, 101, 32]⟩, .int .i64 8192, .slice a2 n2 c2]) w := fun _ => by kernel_rfl
        have q1 := eqB_no B port1B port1W rfl h1
        have q2 := eqB_no B port2B port2W rfl h2
        obtain ⟨e1, e2, e3, e4⟩ := noskip_facts B hsk
        clear hn1 hn2 hcap1 hcap2 hm1 hm2
        have Hc := Lib.hid hc
        have Htk := Lib.hid htk
        have H3 := Lib.hid h3
        clear htk hc hlk hBv hsk h1 h2 h3
        go_wp2
        refine wp_loop_rounds (2 + 1) ?_
        rw [rounds_succ]
        go_wp2
        rw [rounds_succ]
        go_wp2
        rw [rounds_succ]
        go_wp2
        refine wp_loop_rounds (2 + 1) ?_
        rw [rounds_succ]
        go_wp2_with fail
        have hPA := hP.out.below (w2 := wr.alloc (.cells #[.string ⟨#[114, 97, 109, 32]⟩, .int .i64 2048, .slice a1 n1 c1] 35)) (by repeat' (first | exact Below.refl _ _ | (refine Below.setCell ?_ (by first | (simp; done) | (simp; omega) | omega) _) | (refine Below.drew ?_) | (refine Below.drewN ?_ _) | (refine Below.alloc ?_ (by first | (simp; done) | (simp; omega) | omega) _)))
        refine (read_some a1 n1 c1 _ (Gb.out _ hPA.bel) hBs H3.out).mono ?_
        rintro e w2 ⟨rfl, hB2⟩
        have hP2 := Lib.hid (hPA.below hB2)
        obtain ⟨hc2, hf2⟩ := bcell hB2
        simp at hc2 hf2
        have hz2 : wr.heap.size < w2.heap.size := by have := hB2.size; simp at this; omega
        clear hPA hB2
        have ho := hP2.out.o1.1
        rw [Hn1.out] at ho
        have Ho := Lib.hid ho
        clear ho
        go_wp2_with (at_builtin; refine wpList_append_where _ rfl _ _ 23 rfl w.heap.size 42 i0 (.agg #[.int .i64 0, .int .i64 0]) 2 16 Tryz.underlying23 hi hy0 hy1 hy2 rfl (by decide) _ _ _ rfl ((Ho.out.alloc _).alloc _) ⟨w2.heap.size + 1, 0, none⟩ 1 1 [.int .i64 r.1, .int .i64 r.2] rfl rfl ?c1 (by simp [Value.oneCell']) (by decide) (by unfold maxLen; omega) (by omega) (by have := hP2.out.bel.size; simp; omega) ?_)
        case c1 =>
          rw [show w2.heap.size + 1 = (w2.alloc (.cells #[.int .i64 r.1, .int .i64 r.2] 42)).heap.size by simp]
          exact cell_two_new _ _ _ _
        intro v' w3 hown' hgrow hwh
        obtain ⟨g', cap', rfl⟩ := ownsRow_succ hown'
        have hP3 := (hP2.out.below (w2 := w2.alloc (.cells #[.int .i64 r.1, .int .i64 r.2] 42)) (by repeat' (first | exact Below.refl _ _ | (refine Below.setCell ?_ (by first | (simp; done) | (simp; omega) | omega) _) | (refine Below.drew ?_) | (refine Below.drewN ?_ _) | (refine Below.alloc ?_ (by first | (simp; done) | (simp; omega) | omega) _)))).below (w2 := (w2.alloc (.cells #[.int .i64 r.1, .int .i64 r.2] 42)).alloc (.cells #[.int .i64 r.1, .int .i64 r.2] 42)) (by repeat' (first | exact Below.refl _ _ | (refine Below.setCell ?_ (by first | (simp; done) | (simp; omega) | omega) _) | (refine Below.drew ?_) | (refine Below.drewN ?_ _) | (refine Below.alloc ?_ (by first | (simp; done) | (simp; omega) | omega) _)))
        have hM3 : w3.heap[M]? = some (.cells #[.string ⟨#[114, 97, 109, 32]⟩, .int .i64 2048, .slice a1 n1 c1, .string ⟨#[115, 97, 118, 101, 32]⟩, .int .i64 8192, .slice a2 n2 c2] 36 (0, 0)) := (hgrow.block M (Array.getElem?_eq_some_iff.1 hP3.hM).1 (kind_ne hP3.o1.1 hP3.hM (by decide))).trans hP3.hM
        have d2 : w3.cell? ⟨M, 2, none⟩ = some (.slice a1 n1 c1) := by rw [Lib.cell_of_heap hM3]; rfl
        have f2 : w3.frozen? ⟨M, 2, none⟩ = false := Lib.frozen_of_heap hM3 2
        have HN : Hid (noBad ((linesOf s.data.toList).take (k + 1)) = true) := by rw [Hid, Htk.out, noBad_append, hN.out]; simp [noBad, isBad, Hc.out]
        have HP := Lib.hid (hP3.app1 (r := r) (by rw [Hn1.out]; exact hown') hgrow (by rw [show ((w2.alloc (.cells #[.int .i64 r.1, .int .i64 r.2] 42)).alloc (.cells #[.int .i64 r.1, .int .i64 r.2] 42)).heap.size = w2.heap.size + 1 + 1 by simp]; exact hwh))
        have HP' : Hid (PS w L R T M S (w3.setCell ⟨M, 2, none⟩ (.slice (some ⟨g', 0, none⟩) (n1 + 1) cap')) (anyP1 ((linesOf s.data.toList).take (k + 1))) (anyP2 ((linesOf s.data.toList).take (k + 1))) (.slice (some ⟨g', 0, none⟩) (n1 + 1) cap') (.slice a2 n2 c2) (rams ((linesOf s.data.toList).take (k + 1))) (saves ((linesOf s.data.toList).take (k + 1)))) := by
          rw [Hid, Htk.out, anyP1_append, anyP2_append, rams_append, saves_append, show anyP1 [B.data.toList] = false by simp [anyP1, Hc.out], show anyP2 [B.data.toList] = false by simp [anyP2, Hc.out], show rams [B.data.toList] = [r] by simp [rams, ramOf, Hc.out], show saves [B.data.toList] = [] by simp [saves, saveOf, Hc.out], Bool.or_false, Bool.or_false, List.append_nil]
          exact HP.out
        clear hown' hgrow hwh hP3 hM3 HP hN hP hP2 Ho
        go_wp2
        go_roundw
        case rel => exact ⟨k + 1, _, _, by omega, by go_num, HN, HP'⟩
        case measure => simp [intOf]; omega
      · obtain ⟨a1, c1, hv1, hcap1, hm1, _⟩ := hP.out.o1.rg
        obtain ⟨a2, c2, hv2, hcap2, hm2, _⟩ := hP.out.o2.rg
        have hl1 : (rams ((linesOf s.data.toList).take k)).length ≤ 4097 := by
          have h1 := rams_len ((linesOf s.data.toList).take k)
          have h2 := List.length_take_le k (linesOf s.data.toList)
          omega
        have hl2 : (saves ((linesOf s.data.toList).take k)).length ≤ 4097 := by
          have h1 := saves_len ((linesOf s.data.toList).take k)
          have h2 := List.length_take_le k (linesOf s.data.toList)
          omega
        obtain ⟨n1, hn1⟩ : ∃ n, (rams ((linesOf s.data.toList).take k)).length = n := ⟨_, rfl⟩
        obtain ⟨n2, hn2⟩ : ∃ n, (saves ((linesOf s.data.toList).take k)).length = n := ⟨_, rfl⟩
        rw [hn1] at hv1 hl1
        rw [hn2] at hv2 hl2
        subst hv1 hv2
        have Hn1 := Lib.hid hn1
        have Hn2 := Lib.hid hn2
        have cm0 : wr.cell? ⟨M, 0, none⟩ = some (.string ⟨#[114, 97, 109, 32]⟩) := by rw [Lib.cell_of_heap hP.out.hM]; rfl
        have cm1 : wr.cell? ⟨M, 1, none⟩ = some (.int .i64 2048) := by rw [Lib.cell_of_heap hP.out.hM]; rfl
        have cm2 : wr.cell? ⟨M, 2, none⟩ = some (.slice a1 n1 c1) := by rw [Lib.cell_of_heap hP.out.hM]; rfl
        have cm3 : wr.cell? ⟨M, 3, none⟩ = some (.string ⟨#[115, 97, 118, 101, 32]⟩) := by rw [Lib.cell_of_heap hP.out.hM]; rfl
        have cm4 : wr.cell? ⟨M, 4, none⟩ = some (.int .i64 8192) := by rw [Lib.cell_of_heap hP.out.hM]; rfl
        have cm5 : wr.cell? ⟨M, 5, none⟩ = some (.slice a2 n2 c2) := by rw [Lib.cell_of_heap hP.out.hM]; rfl
        have ia0 : ∀ w, (Instr.index 36 (.agg #[.string ⟨#[114, 97, 109, 32]⟩, .int .i64 2048, .slice a1 n1 c1, .string ⟨#[115, 97, 118, 101, 32]⟩, .int .i64 8192, .slice a2 n2 c2]) (.int .i64 0)).run Tryz.prog w = .ok (.agg #[.string ⟨#[114, 97, 109, 32]⟩, .int .i64 2048, .slice a1 n1 c1]) w := fun _ => by kernel_rfl
        have ia1 : ∀ w, (Instr.index 36 (.agg #[.string ⟨#[114, 97, 109, 32]⟩, .int .i64 2048, .slice a1 n1 c1, .string ⟨#[115, 97, 118, 101, 32]⟩, .int .i64 8192, .slice a2 n2 c2]) (.int .i64 1)).run Tryz.prog w = .ok (.agg #[.string ⟨#[115, 97, 118, 101, 32]⟩, .int .i64 8192, .slice a2 n2 c2]) w := fun _ => by kernel_rfl
        have q1 := eqB_no B port1B port1W rfl h1
        have q2 := eqB_no B port2B port2W rfl h2
        obtain ⟨e1, e2, e3, e4⟩ := noskip_facts B hsk
        clear hn1 hn2 hcap1 hcap2 hm1 hm2
        have Hc := Lib.hid hc
        have Htk := Lib.hid htk
        have H3 := Lib.hid h3
        have H4 := Lib.hid h4
        have Hlk := Lib.hid hlk
        clear htk hc hlk hBv hsk h1 h2 h3 h4
        go_wp2
        refine wp_loop_rounds (2 + 1) ?_
        rw [rounds_succ]
        go_wp2
        rw [rounds_succ]
        go_wp2
        rw [rounds_succ]
        go_wp2
        refine wp_loop_rounds (2 + 1) ?_
        rw [rounds_succ]
        go_wp2_with fail
        have hPA := hP.out.below (w2 := wr.alloc (.cells #[.string ⟨#[114, 97, 109, 32]⟩, .int .i64 2048, .slice a1 n1 c1] 35)) (by repeat' (first | exact Below.refl _ _ | (refine Below.setCell ?_ (by first | (simp; done) | (simp; omega) | omega) _) | (refine Below.drew ?_) | (refine Below.drewN ?_ _) | (refine Below.alloc ?_ (by first | (simp; done) | (simp; omega) | omega) _)))
        refine (read_none a1 n1 c1 _ (Gb.out _ hPA.bel) hBs H3.out).mono ?_
        rintro e w2 ⟨rfl, hB2⟩
        have hP2 := Lib.hid (hPA.below hB2)
        obtain ⟨hc2, hf2⟩ := bcell hB2
        simp at hc2 hf2
        have hz2 : wr.heap.size < w2.heap.size := by have := hB2.size; simp at this; omega
        clear hPA hB2
        go_wp2
        rw [rounds_succ]
        go_wp2_with fail
        have hPB := (hP2.out.below (w2 := w2.alloc (.cells #[.int .i64 0, .int .i64 0] 42)) (by repeat' (first | exact Below.refl _ _ | (refine Below.setCell ?_ (by first | (simp; done) | (simp; omega) | omega) _) | (refine Below.drew ?_) | (refine Below.drewN ?_ _) | (refine Below.alloc ?_ (by first | (simp; done) | (simp; omega) | omega) _)))).below (w2 := (w2.alloc (.cells #[.int .i64 0, .int .i64 0] 42)).alloc (.cells #[.string ⟨#[115, 97, 118, 101, 32]⟩, .int .i64 8192, .slice a2 n2 c2] 35)) (by repeat' (first | exact Below.refl _ _ | (refine Below.setCell ?_ (by first | (simp; done) | (simp; omega) | omega) _) | (refine Below.drew ?_) | (refine Below.drewN ?_ _) | (refine Below.alloc ?_ (by first | (simp; done) | (simp; omega) | omega) _)))
        refine (read_some a2 n2 c2 _ (Gb.out _ hPB.bel) hBs H4.out).mono ?_
        rintro e w3 ⟨rfl, hB3⟩
        have hP3 := Lib.hid (hPB.below hB3)
        clear hc2 hf2
        obtain ⟨hc2, hf2⟩ := bcell hB3
        simp at hc2 hf2
        have hz3 : w2.heap.size + 1 < w3.heap.size := by have := hB3.size; simp at this; omega
        clear hPB hB3
        have ho := hP3.out.o2.1
        rw [Hn2.out] at ho
        have Ho := Lib.hid ho
        clear ho
        go_wp2_with (at_builtin; refine wpList_append_where _ rfl _ _ 23 rfl w.heap.size 42 i0 (.agg #[.int .i64 0, .int .i64 0]) 2 16 Tryz.underlying23 hi hy0 hy1 hy2 rfl (by decide) _ _ _ rfl ((Ho.out.alloc _).alloc _) ⟨w3.heap.size + 1, 0, none⟩ 1 1 [.int .i64 r.1, .int .i64 r.2] rfl rfl ?c1 (by simp [Value.oneCell']) (by decide) (by unfold maxLen; omega) (by omega) (by have := hP3.out.bel.size; simp; omega) ?_)
        case c1 =>
          rw [show w3.heap.size + 1 = (w3.alloc (.cells #[.int .i64 r.1, .int .i64 r.2] 42)).heap.size by simp]
          exact cell_two_new _ _ _ _
        intro v' w4 hown' hgrow hwh
        obtain ⟨g', cap', rfl⟩ := ownsRow_succ hown'
        have hP4 := (hP3.out.below (w2 := w3.alloc (.cells #[.int .i64 r.1, .int .i64 r.2] 42)) (by repeat' (first | exact Below.refl _ _ | (refine Below.setCell ?_ (by first | (simp; done) | (simp; omega) | omega) _) | (refine Below.drew ?_) | (refine Below.drewN ?_ _) | (refine Below.alloc ?_ (by first | (simp; done) | (simp; omega) | omega) _)))).below (w2 := (w3.alloc (.cells #[.int .i64 r.1, .int .i64 r.2] 42)).alloc (.cells #[.int .i64 r.1, .int .i64 r.2] 42)) (by repeat' (first | exact Below.refl _ _ | (refine Below.setCell ?_ (by first | (simp; done) | (simp; omega) | omega) _) | (refine Below.drew ?_) | (refine Below.drewN ?_ _) | (refine Below.alloc ?_ (by first | (simp; done) | (simp; omega) | omega) _)))
        have hM3 : w4.heap[M]? = some (.cells #[.string ⟨#[114, 97, 109, 32]⟩, .int .i64 2048, .slice a1 n1 c1, .string ⟨#[115, 97, 118, 101, 32]⟩, .int .i64 8192, .slice a2 n2 c2] 36 (0, 0)) := (hgrow.block M (Array.getElem?_eq_some_iff.1 hP4.hM).1 (kind_ne hP4.o2.1 hP4.hM (by decide))).trans hP4.hM
        have d2 : w4.cell? ⟨M, 5, none⟩ = some (.slice a2 n2 c2) := by rw [Lib.cell_of_heap hM3]; rfl
        have f2 : w4.frozen? ⟨M, 5, none⟩ = false := Lib.frozen_of_heap hM3 5
        have HN : Hid (noBad ((linesOf s.data.toList).take (k + 1)) = true) := by rw [Hid, Htk.out, noBad_append, hN.out]; simp [noBad, isBad, Hc.out]
        have HP := Lib.hid (hP4.app2 (r := r) (by rw [Hn2.out]; exact hown') hgrow (by rw [show ((w3.alloc (.cells #[.int .i64 r.1, .int .i64 r.2] 42)).alloc (.cells #[.int .i64 r.1, .int .i64 r.2] 42)).heap.size = w3.heap.size + 1 + 1 by simp]; exact hwh))
        have HP' : Hid (PS w L R T M S (w4.setCell ⟨M, 5, none⟩ (.slice (some ⟨g', 0, none⟩) (n2 + 1) cap')) (anyP1 ((linesOf s.data.toList).take (k + 1))) (anyP2 ((linesOf s.data.toList).take (k + 1))) (.slice a1 n1 c1) (.slice (some ⟨g', 0, none⟩) (n2 + 1) cap') (rams ((linesOf s.data.toList).take (k + 1))) (saves ((linesOf s.data.toList).take (k + 1)))) := by
          rw [Hid, Htk.out, anyP1_append, anyP2_append, rams_append, saves_append, show anyP1 [B.data.toList] = false by simp [anyP1, Hc.out], show anyP2 [B.data.toList] = false by simp [anyP2, Hc.out], show rams [B.data.toList] = [] by simp [rams, ramOf, Hc.out], show saves [B.data.toList] = [r] by simp [saves, saveOf, Hc.out], Bool.or_false, Bool.or_false, List.append_nil]
          exact HP.out
        clear hown' hgrow hwh hP4 hM3 HP hN hP hP2 hP3 Ho
        go_wp2
        go_roundw
        case rel => exact ⟨k + 1, _, _, by omega, by go_num, HN, HP'⟩
        case measure => simp [intOf]; omega
      · obtain ⟨a1, c1, hv1, hcap1, hm1, _⟩ := hP.out.o1.rg
        obtain ⟨a2, c2, hv2, hcap2, hm2, _⟩ := hP.out.o2.rg
        have hl1 : (rams ((linesOf s.data.toList).take k)).length ≤ 4097 := by
          have h1 := rams_len ((linesOf s.data.toList).take k)
          have h2 := List.length_take_le k (linesOf s.data.toList)
          omega
        have hl2 : (saves ((linesOf s.data.toList).take k)).length ≤ 4097 := by
          have h1 := saves_len ((linesOf s.data.toList).take k)
          have h2 := List.length_take_le k (linesOf s.data.toList)
          omega
        obtain ⟨n1, hn1⟩ : ∃ n, (rams ((linesOf s.data.toList).take k)).length = n := ⟨_, rfl⟩
        obtain ⟨n2, hn2⟩ : ∃ n, (saves ((linesOf s.data.toList).take k)).length = n := ⟨_, rfl⟩
        rw [hn1] at hv1 hl1
        rw [hn2] at hv2 hl2
        subst hv1 hv2
        have Hn1 := Lib.hid hn1
        have Hn2 := Lib.hid hn2
        have cm0 : wr.cell? ⟨M, 0, none⟩ = some (.string ⟨#[114, 97, 109, 32]⟩) := by rw [Lib.cell_of_heap hP.out.hM]; rfl
        have cm1 : wr.cell? ⟨M, 1, none⟩ = some (.int .i64 2048) := by rw [Lib.cell_of_heap hP.out.hM]; rfl
        have cm2 : wr.cell? ⟨M, 2, none⟩ = some (.slice a1 n1 c1) := by rw [Lib.cell_of_heap hP.out.hM]; rfl
        have cm3 : wr.cell? ⟨M, 3, none⟩ = some (.string ⟨#[115, 97, 118, 101, 32]⟩) := by rw [Lib.cell_of_heap hP.out.hM]; rfl
        have cm4 : wr.cell? ⟨M, 4, none⟩ = some (.int .i64 8192) := by rw [Lib.cell_of_heap hP.out.hM]; rfl
        have cm5 : wr.cell? ⟨M, 5, none⟩ = some (.slice a2 n2 c2) := by rw [Lib.cell_of_heap hP.out.hM]; rfl
        have ia0 : ∀ w, (Instr.index 36 (.agg #[.string ⟨#[114, 97, 109, 32]⟩, .int .i64 2048, .slice a1 n1 c1, .string ⟨#[115, 97, 118, 101, 32]⟩, .int .i64 8192, .slice a2 n2 c2]) (.int .i64 0)).run Tryz.prog w = .ok (.agg #[.string ⟨#[114, 97, 109, 32]⟩, .int .i64 2048, .slice a1 n1 c1]) w := fun _ => by kernel_rfl
        have ia1 : ∀ w, (Instr.index 36 (.agg #[.string ⟨#[114, 97, 109, 32]⟩, .int .i64 2048, .slice a1 n1 c1, .string ⟨#[115, 97, 118, 101, 32]⟩, .int .i64 8192, .slice a2 n2 c2]) (.int .i64 1)).run Tryz.prog w = .ok (.agg #[.string ⟨#[115, 97, 118, 101, 32]⟩, .int .i64 8192, .slice a2 n2 c2]) w := fun _ => by kernel_rfl
        have q1 := eqB_no B port1B port1W rfl h1
        have q2 := eqB_no B port2B port2W rfl h2
        obtain ⟨e1, e2, e3, e4⟩ := noskip_facts B hsk
        clear hn1 hn2 hcap1 hcap2 hm1 hm2
        have Hc := Lib.hid hc
        have Htk := Lib.hid htk
        have H3 := Lib.hid h3
        have H4 := Lib.hid h4
        have Hlk := Lib.hid hlk
        clear htk hc hlk hBv hsk h1 h2 h3 h4
        go_wp2
        refine wp_loop_rounds (2 + 1) ?_
        rw [rounds_succ]
        go_wp2
        rw [rounds_succ]
        go_wp2
        rw [rounds_succ]
        go_wp2
        refine wp_loop_rounds (2 + 1) ?_
        rw [rounds_succ]
        go_wp2_with fail
        have hPA := hP.out.below (w2 := wr.alloc (.cells #[.string ⟨#[114, 97, 109, 32]⟩, .int .i64 2048, .slice a1 n1 c1] 35)) (by repeat' (first | exact Below.refl _ _ | (refine Below.setCell ?_ (by first | (simp; done) | (simp; omega) | omega) _) | (refine Below.drew ?_) | (refine Below.drewN ?_ _) | (refine Below.alloc ?_ (by first | (simp; done) | (simp; omega) | omega) _)))
        refine (read_none a1 n1 c1 _ (Gb.out _ hPA.bel) hBs H3.out).mono ?_
        rintro e w2 ⟨rfl, hB2⟩
        have hP2 := Lib.hid (hPA.below hB2)
        obtain ⟨hc2, hf2⟩ := bcell hB2
        simp at hc2 hf2
        have hz2 : wr.heap.size < w2.heap.size := by have := hB2.size; simp at this; omega
        clear hPA hB2
        go_wp2
        rw [rounds_succ]
        go_wp2_with fail
        have hPB := (hP2.out.below (w2 := w2.alloc (.cells #[.int .i64 0, .int .i64 0] 42)) (by repeat' (first | exact Below.refl _ _ | (refine Below.setCell ?_ (by first | (simp; done) | (simp; omega) | omega) _) | (refine Below.drew ?_) | (refine Below.drewN ?_ _) | (refine Below.alloc ?_ (by first | (simp; done) | (simp; omega) | omega) _)))).below (w2 := (w2.alloc (.cells #[.int .i64 0, .int .i64 0] 42)).alloc (.cells #[.string ⟨#[115, 97, 118, 101, 32]⟩, .int .i64 8192, .slice a2 n2 c2] 35)) (by repeat' (first | exact Below.refl _ _ | (refine Below.setCell ?_ (by first | (simp; done) | (simp; omega) | omega) _) | (refine Below.drew ?_) | (refine Below.drewN ?_ _) | (refine Below.alloc ?_ (by first | (simp; done) | (simp; omega) | omega) _)))
        refine (read_none a2 n2 c2 _ (Gb.out _ hPB.bel) hBs H4.out).mono ?_
        rintro e w3 ⟨rfl, hB3⟩
        have hP3 := hPB.below hB3
        clear hc2 hf2
        have cr : ∀ j, w3.frozen? ⟨R, j, none⟩ = false := fun j => Lib.frozen_of_heap hP3.hR j
        have cr0 : w3.cell? ⟨R, 0, none⟩ = some (.bool false) := by rw [Lib.cell_of_heap hP3.hR]; rfl
        have cr1 : w3.cell? ⟨R, 1, none⟩ = some (.bool false) := by rw [Lib.cell_of_heap hP3.hR]; rfl
        have cr2 : w3.cell? ⟨R, 2, none⟩ = some (.slice none 0 0) := by rw [Lib.cell_of_heap hP3.hR]; rfl
        have cr3 : w3.cell? ⟨R, 3, none⟩ = some (.slice none 0 0) := by rw [Lib.cell_of_heap hP3.hR]; rfl
        have lr : R < w3.heap.size := (Array.getElem?_eq_some_iff.1 hP3.hR).1
        have HB := Lib.hid hP3.bel
        have lRR := hP3.lR
        clear hPB hB3 hP3
        go_wp2
        rw [rounds_succ]
        go_wp2
        rw [Exit.noGoto_ret]
        refine bodyPost_ret (v := .tuple #[.agg #[.bool false, .bool false, .slice none 0 0, .slice none 0 0], .int .i64 ((k : Int) + 1), .int .i64 7]) (by simp [results, Tryz.results4, go_sem, lr, cr0, cr1, cr2, cr3]) rfl (.inl ⟨k, ?_, hN.out, ?_, by rw [show ((k + 1 : Nat) : Int) = (k : Int) + 1 by omega], ?_⟩)
        · rw [← HL.out, List.length_map]; exact hlt
        · rw [List.getD_eq_getElem?_getD, Hlk.out]; simp [isBad, Hc.out]
        · exact (by repeat' (first | exact Below.refl _ _ | (refine Below.setCell ?_ (by first | (simp; done) | (simp; omega) | omega) _) | (refine Below.drew ?_) | (refine Below.drewN ?_ _) | (refine Below.alloc ?_ (by first | (simp; done) | (simp; omega) | omega) _) | (refine Below.trans ?_ (Below.mono HB.out (by first | (simp; done) | (simp; omega) | omega)))))
    · obtain rfl : k = L.length := by omega
      have hll : (linesOf s.data.toList).take L.length = linesOf s.data.toList := List.take_of_length_le (by rw [← HL.out, List.length_map]; exact Nat.le_refl _)
      rw [hll] at hN hP
      have hl1 : (rams (linesOf s.data.toList)).length ≤ 100000 := by
        have h1 := rams_len (linesOf s.data.toList)
        have h3 := linesOf_len s.data.toList
        have h2 : s.data.toList.length = s.size := by rw [Array.length_toList]; rfl
        omega
      have hl2 : (saves (linesOf s.data.toList)).length ≤ 100000 := by
        have h1 := saves_len (linesOf s.data.toList)
        have h3 := linesOf_len s.data.toList
        have h2 : s.data.toList.length = s.size := by rw [Array.length_toList]; rfl
        omega
      obtain ⟨p, hp⟩ : ∃ p, anyP1 (linesOf s.data.toList) = p := ⟨_, rfl⟩
      obtain ⟨q, hq⟩ : ∃ q, anyP2 (linesOf s.data.toList) = q := ⟨_, rfl⟩
      rw [hp, hq] at hP
      have Hp := Lib.hid hp
      have Hq := Lib.hid hq
      clear hp hq hll
      have c2 : wr.cell? ⟨M, 2, none⟩ = some v1 := by rw [Lib.cell_of_heap hP.out.hM]; rfl
      have ht1 := tidy_yes v1 _ wr hP.out.o1.rg (rams_whole _) hl1
      have Ht1 := Lib.hid ht1
      clear ht1
      obtain ⟨a1, d1, hv1, _⟩ := hP.out.o1.rg
      obtain ⟨n1, hn1⟩ : ∃ n, (rams (linesOf s.data.toList)).length = n := ⟨_, rfl⟩
      rw [hn1] at hv1
      subst hv1
      clear hn1
      go_wp2_with fail
      refine Ht1.out.mono ?_
      rintro e w3 ⟨x1, T1, rfl, hx1, hT1, hB3⟩
      have hP3 := hP.out.below hB3
      have Hx1 := Lib.hid hx1
      have HT1 := Lib.hid hT1
      obtain ⟨b1, k1, rfl, _⟩ := hx1
      obtain ⟨m1, hm1⟩ : ∃ m, T1.length = m := ⟨_, rfl⟩
      rw [hm1] at Hx1 ⊢
      clear hm1 hT1 hB3
      have hg3 : (w3.setCell ⟨T, 2, none⟩ (.slice b1 m1 k1)).heap[T]? = some (.cells #[.bool p, .bool q, .slice b1 m1 k1, .slice none 0 0] 25 (0, 0)) := by simp [World.setCell, Array.getElem?_modify, hP3.hT]
      have hx3 : Rg (w3.setCell ⟨T, 2, none⟩ (.slice b1 m1 k1)) (.slice b1 m1 k1) T1 := rg_setCell Hx1.out (noInt_pol hP3.hT) 2 _
      have hv3 : Rg (w3.setCell ⟨T, 2, none⟩ (.slice b1 m1 k1)) v2 (saves (linesOf s.data.toList)) := (own_setCell (b := T) (o := 2) (x := .slice b1 m1 k1) hP3.o2 (kind_ne hP3.o2.1 hP3.hT (by decide))).rg
      have hR3 : (w3.setCell ⟨T, 2, none⟩ (.slice b1 m1 k1)).heap[R]? = some (.cells #[.bool false, .bool false, .slice none 0 0, .slice none 0 0] 25 (0, 0)) := (heap_setCell_ne _ _ _ _ _ hP3.rt).trans hP3.hR
      have hb3 : Below w.heap.size w (w3.setCell ⟨T, 2, none⟩ (.slice b1 m1 k1)) := hP3.bel.setCell (p := ⟨T, 2, none⟩) hP3.lT _
      have hM3 : (w3.setCell ⟨T, 2, none⟩ (.slice b1 m1 k1)).heap[M]? = some (.cells #[.string ⟨#[114, 97, 109, 32]⟩, .int .i64 2048, .slice a1 n1 d1, .string ⟨#[115, 97, 118, 101, 32]⟩, .int .i64 8192, v2] 36 (0, 0)) := (heap_setCell_ne _ _ _ _ _ (Ne.symm hP3.ne_TM)).trans hP3.hM
      have t2 : w3.cell? ⟨T, 2, none⟩ = some (.slice none 0 0) := by rw [Lib.cell_of_heap hP3.hT]; rfl
      have f2 : w3.frozen? ⟨T, 2, none⟩ = false := Lib.frozen_of_heap hP3.hT 2
      have ht2 := tidy_yes v2 _ _ hv3 (saves_whole _) hl2
      obtain ⟨a2, d2, hv2, _⟩ := hv3
      obtain ⟨n2, hn2⟩ : ∃ n, (saves (linesOf s.data.toList)).length = n := ⟨_, rfl⟩
      rw [hn2] at hv2
      subst hv2
      have c5 : (w3.setCell ⟨T, 2, none⟩ (.slice b1 m1 k1)).cell? ⟨M, 5, none⟩ = some (.slice a2 n2 d2) := by rw [Lib.cell_of_heap hM3]; rfl
      have Ht2 := Lib.hid ht2
      have Hg3 := Lib.hid hg3
      have Hx3 := Lib.hid hx3
      have HR3 := Lib.hid hR3
      have Hb3 := Lib.hid hb3
      have LT := hP3.lT
      have LR := hP3.lR
      have RT := hP3.rt
      clear hg3 hx3 hR3 hb3 ht2 hn2 hM3 hP3 Hx1 hP
      go_wp2_with fail
      refine Ht2.out.mono ?_
      rintro e w4 ⟨x2, T2, rfl, hx2, hT2, hB4⟩
      have hg4 := (hB4.block _ (Array.getElem?_eq_some_iff.1 Hg3.out).1).trans Hg3.out
      have hR4 := (hB4.block _ (Array.getElem?_eq_some_iff.1 HR3.out).1).trans HR3.out
      have hx4 := Hx3.out.below hB4
      have hb4 := Hb3.out.next hB4
      clear hB4
      have HT2 := Lib.hid hT2
      have Hx2 := Lib.hid hx2
      obtain ⟨b2, k2, rfl, _⟩ := hx2
      obtain ⟨m2, hm2⟩ : ∃ m, T2.length = m := ⟨_, rfl⟩
      rw [hm2] at Hx2 ⊢
      clear hm2 hT2
      have t3 : w4.cell? ⟨T, 3, none⟩ = some (.slice none 0 0) := by rw [Lib.cell_of_heap hg4]; rfl
      have f3 : ∀ j, w4.frozen? ⟨T, j, none⟩ = false := fun j => Lib.frozen_of_heap hg4 j
      have t0 : w4.cell? ⟨T, 0, none⟩ = some (.bool p) := by rw [Lib.cell_of_heap hg4]; rfl
      have t1 : w4.cell? ⟨T, 1, none⟩ = some (.bool q) := by rw [Lib.cell_of_heap hg4]; rfl
      have t2' : w4.cell? ⟨T, 2, none⟩ = some (.slice b1 m1 k1) := by rw [Lib.cell_of_heap hg4]; rfl
      have r0 : w4.cell? ⟨R, 0, none⟩ = some (.bool false) := by rw [Lib.cell_of_heap hR4]; rfl
      have r1 : w4.cell? ⟨R, 1, none⟩ = some (.bool false) := by rw [Lib.cell_of_heap hR4]; rfl
      have r2 : w4.cell? ⟨R, 2, none⟩ = some (.slice none 0 0) := by rw [Lib.cell_of_heap hR4]; rfl
      have r3 : w4.cell? ⟨R, 3, none⟩ = some (.slice none 0 0) := by rw [Lib.cell_of_heap hR4]; rfl
      have fr : ∀ j, w4.frozen? ⟨R, j, none⟩ = false := fun j => Lib.frozen_of_heap hR4 j
      have TR : ¬ T = R := fun e => RT e.symm
      have hn4 : NoInt w4 T := noInt_pol hg4
      have hr4 := (heap_setCell_ne w4 T R 3 (.slice b2 m2 k2) RT).trans hR4
      have Hy1 := Lib.hid (rg_copy (rg_setCell hx4 hn4 3 (.slice b2 m2 k2)) hr4 p q b1 b2 m1 m2 k1 k2)
      have Hy2 := Lib.hid (rg_copy (rg_setCell Hx2.out hn4 3 (.slice b2 m2 k2)) hr4 p q b1 b2 m1 m2 k1 k2)
      have Hb4 := Lib.hid hb4
      clear hg4 hR4 hx4 hb4 hn4 hr4 Hx2
      go_wp2
      rw [Exit.noGoto_ret]
      refine bodyPost_ret (v := .tuple #[.agg #[.bool p, .bool q, .slice b1 m1 k1, .slice b2 m2 k2], .int .i64 0, .int .i64 0]) (by simp [results, Tryz.results4, go_sem, r0, r1, r2, r3]) rfl (.inr ⟨hN.out, _, _, T1, T2, ?_, Hy1.out, Hy2.out, HT1.out, HT2.out, ?_⟩)
      · rw [Hp.out, Hq.out]; rfl
      · exact ((((Hb4.out.setCell (p := ⟨T, 3, none⟩) LT _).setCell (p := ⟨R, 0, none⟩) LR _).setCell (p := ⟨R, 1, none⟩) LR _).setCell (p := ⟨R, 2, none⟩) LR _).setCell (p := ⟨R, 3, none⟩) LR _
end Go.Proofs.YtfceifmhlmiiiaaGreatDoor
