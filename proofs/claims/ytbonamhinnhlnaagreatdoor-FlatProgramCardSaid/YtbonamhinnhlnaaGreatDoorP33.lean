/-
  Several texts in one: what is read and written by the functions on the way to the statements. Conditions stand in each theorem.
-/
import Derived.Test.YtbonamhinnhlnaaGreatDoorP32
namespace Go.Proofs.YtbonamhinnhlnaaGreatDoor
open Go.RowKit
set_option linter.unusedSimpArgs false
set_option linter.unusedVariables false
set_option maxRecDepth 20000

def bscl (b : Bs) : List Value := [.int .u16 b.ad, .bool b.wr, .int .u8 b.v, .bool b.vb, .bool b.sc]
/-- Lists of what is known, and worlds in which just that stays. -/
theorem Mem.stay {n : Nat} {X : List Nat} {w0 W W' : World} {L : List (Nat × Array Value)} (h : Mem n X w0 W L) (h1 : W'.os = W.os) (h2 : W'.tape = W.tape) (h3 : W'.output = W.output) (h4 : W.heap.size ≤ W'.heap.size)
    (hn : ∀ b, b < n → W'.heap[b]? = W.heap[b]?) (hl : ∀ x ∈ L, W'.heap[x.1]? = W.heap[x.1]?) : Mem n X w0 W' L :=
  ⟨h1.trans h.os, h2.trans h.tape, h3.trans h.output, Nat.le_trans h.size h4, h.base, fun k hk hX => (hn k hk).trans (h.block k hk hX), fun x hx => by
    obtain ⟨T, e⟩ := h.row x hx
    exact ⟨T, (hl x hx).trans e⟩, h.mine, h.nodup⟩
/-- Where two blocks alone turn, of which nothing is listed. -/
theorem Mem.near {n : Nat} {X : List Nat} {w0 W W' : World} {L M : List (Nat × Array Value)} {R g : Nat} (h : Mem n X w0 W L) (hm : Mem W.heap.size [R, g] W W' M) (hR : n ≤ R) (hg : n ≤ g) (hl : ∀ x ∈ L, x.1 ≠ R ∧ x.1 ≠ g) : Mem n X w0 W' L :=
  h.stay hm.os hm.tape hm.output hm.size
    (fun b hb => hm.block b (Nat.lt_of_lt_of_le hb (Nat.le_trans h.base h.size)) (by
      intro e
      simp only [List.mem_cons, List.not_mem_nil, or_false] at e
      rcases e with rfl | rfl <;> omega))
    (fun x hx => hm.block x.1 (h.lt hx) (by
      have h1 := hl x hx
      intro e
      simp only [List.mem_cons, List.not_mem_nil, or_false] at e
      rcases e with e | e
      · exact h1.1 e
      · exact h1.2 e))
/-- What was told, in a row of one's own that a box holds. -/
def ToldAt (base Bt : Nat) (L : List Bs) (W : World) : Prop := ∃ v t, Boxed W Bt t v ∧ W.ownsRow base 36 5 v L.length (L.flatMap bscl)
theorem told_near {base Bt : Nat} {L : List Bs} {W W' : World} {R g : Nat} {M : List (Nat × Array Value)} (h : ToldAt base Bt L W) (hm : Mem W.heap.size [R, g] W W' M) (h1 : Bt ≠ R) (h2 : Bt ≠ g) (h3 : R < base) (h4 : g < base) : ToldAt base Bt L W' := by
  obtain ⟨v, t, hv, hlen, hrow⟩ := h
  refine ⟨v, t, ?_, hlen, ?_⟩
  · exact (hm.block Bt hv.lt (by
      intro e
      simp only [List.mem_cons, List.not_mem_nil, or_false] at e
      exact e.elim h1 h2)).trans hv
  · rcases hrow with h | ⟨q, cap, cur, e, hb, hq, hr⟩
    · exact .inl h
    · exact .inr ⟨q, cap, cur, e, hb, (hm.block q (Array.getElem?_eq_some_iff.1 hq).1 (by
        have hb' : base ≤ q := hb
        clear hr hm
        intro e
        simp only [List.mem_cons, List.not_mem_nil, or_false] at e
        rcases e with rfl | rfl <;> omega)).trans hq, hr⟩
theorem told_abide {base Bt B : Nat} {L : List Bs} : Abide B (ToldAt base Bt L) :=
  abide_of fun W W' h hz hs _ _ _ => by
    obtain ⟨v, t, hv, hlen, hrow⟩ := h
    refine ⟨v, t, hs _ _ hv (.inl rfl), hlen, ?_⟩
    rcases hrow with h | ⟨q, cap, cur, e, hb, hq, hr⟩
    · exact .inl h
    · exact .inr ⟨q, cap, cur, e, hb, hs _ _ hq (.inl rfl), hr⟩
theorem mem_abide {n : Nat} {X : List Nat} {w0 : World} {L : List (Nat × Array Value)} {B : Nat} (hB : n ≤ B) (hs0 : B ≤ w0.heap.size ∨ True) : Abide B (fun W => Mem n X w0 W L) :=
  abide_of fun W W' h hz hs ho ht hu => by
    refine ⟨ho.trans h.os, ht.trans h.tape, hu.trans h.output, Nat.le_trans h.size hz, h.base, fun k hk hX => ?_, fun x hx => ?_, h.mine, h.nodup⟩
    · have hlt : k < W.heap.size := Nat.lt_of_lt_of_le hk (Nat.le_trans h.base h.size)
      have e : W.heap[k]? = some (W.heap[k]'hlt) := Array.getElem?_eq_getElem hlt
      rw [hs _ _ e (.inr (by omega)), ← h.block k hk hX, e]
    · obtain ⟨T, e⟩ := h.row x hx
      exact ⟨T, hs _ _ e (.inl rfl)⟩
theorem abide_and {B : Nat} {J K : World → Prop} (h : Abide B J) (k : Abide B K) : Abide B (fun W => J W ∧ K W) :=
  ⟨fun W o hj => ⟨h.alloc W o hj.1, k.alloc W o hj.2⟩, fun W l o o' hj hB ho hc => ⟨h.put W l o o' hj.1 hB ho hc, k.put W l o o' hj.2 hB ho hc⟩⟩
theorem abide_size {B m : Nat} : Abide B (fun W => m ≤ W.heap.size) := abide_of fun W W' h hz _ _ _ _ => Nat.le_trans h hz
theorem abide_true {B : Nat} (p : Prop) : Abide B (fun _ => p) := ⟨fun _ _ h => h, fun _ _ _ _ h _ _ _ => h⟩
theorem abide_box {B b : Nat} {o : Obj} (hc : o.isCells = true) : Abide B (fun W => W.heap[b]? = some o) :=
  abide_of fun W W' h hz hs _ _ _ => hs _ _ h (.inl hc)
theorem abide_ex {α : Type} {B : Nat} {J : α → World → Prop} (h : ∀ x, Abide B (J x)) : Abide B (fun W => ∃ x, J x W) :=
  ⟨fun W o ⟨x, hj⟩ => ⟨x, (h x).alloc W o hj⟩, fun W l o o' ⟨x, hj⟩ hB ho hc => ⟨x, (h x).put W l o o' hj hB ho hc⟩⟩
theorem info_bus : (Tryz.prog.info? 36).map (fun i => (i.zero, i.size, i.bytes)) = some (some (.agg #[.int .u16 0, .bool false, .int .u8 0, .bool false, .bool false]), 5, 6) := by kernel_rfl
theorem cell_five_new (w : World) (a b c d e : Value) (t : TypeId) : ∀ j u, [a, b, c, d, e][j]? = some u → (w.alloc (.cells #[a, b, c, d, e] t)).cell? ((⟨w.heap.size, 0, none⟩ : Addr).add j) = some u := by
  intro j u hj
  match j, hj with
  | 0, hj => simp at hj; subst hj; simp [Addr.add]
  | 1, hj => simp at hj; subst hj; simp [Addr.add]
  | 2, hj => simp at hj; subst hj; simp [Addr.add]
  | 3, hj => simp at hj; subst hj; simp [Addr.add]
  | 4, hj => simp at hj; subst hj; simp [Addr.add]
  | j + 5, hj => simp at hj
/-- The iterator, as it is handed out: two boxes, and a function over them. -/
theorem cyclesf_ct (R : Nat) (n : Int) (w : World) : Calls Tryz.prog 20 #[.pointer (some ⟨R, 0, none⟩), .int .i64 n] w fun e w' =>
    e = .returned (.func (.func 32) #[] #[.pointer (some ⟨w.heap.size + 1, 0, none⟩), .pointer (some ⟨w.heap.size, 0, none⟩)]) ∧
    Mem w.heap.size [] w w' [(w.heap.size + 1, #[.int .i64 n]), (w.heap.size, #[.pointer (some ⟨R, 0, none⟩)])] := by
  have H := Mem.start w
  go_enter Tryz.func20, Tryz.ntmps20
  go_wp2
  go_ret
  refine ⟨by simp, ?_⟩
  have h1 := (Mem.start w).new #[.pointer (some ⟨R, 0, none⟩)] 59
  have h2 := h1.new #[.int .i64 n] 3
  simpa using h2
/-- Behind an append and the store of what it handed back into box B, whatever lay below n₀ but for the box lies as it lay. -/
theorem kept_appended {W w1 : World} {n₀ B : Nat} {e : TypeId} {size k : Nat} {v v' : Value} {xs : List Value} {tmp : Obj}
    (hrow : W.ownsRow n₀ e size v k xs) (hn₀ : n₀ ≤ W.heap.size) (hgrow : (W.alloc tmp).grownBy w1 v.ownBlock) : ∀ b, b < n₀ → b ≠ B → (w1.setCell ⟨B, 0, none⟩ v').heap[b]? = W.heap[b]? := fun b hb hne => by
  have h1 : w1.heap[b]? = W.heap[b]? := by
    refine (hgrow.block b (by simp; omega) fun ej => ?_).trans (((Below.refl _ W).alloc (Nat.le_refl _) tmp).block b (by omega))
    rcases hrow.2 with ⟨rfl, _⟩ | ⟨g, cap, cur, rfl, hb2, _, _⟩
    · simp [Value.ownBlock] at ej
    · obtain rfl : b = g := by simpa [Value.ownBlock] using ej
      omega
  exact (Below.heap_setCell w1 ⟨B, 0, none⟩ v' b (fun e => hne (by simpa using e))).trans h1
/-- An append and the store of what it handed back: the box holds the longer row; nothing else turns. -/
theorem told_appended {W w1 : World} {n₀ base B : Nat} {t e : TypeId} {size k m : Nat} {v v' : Value} {xs ys : List Value} {tmp : Obj} (hn : n₀ ≤ B) (hB : B < base) (hv : Boxed W B t v)
    (hrow : W.ownsRow base e size v k xs) (hb : base ≤ W.heap.size) (hown' : w1.ownsRow base e size v' m ys) (hgrow : (W.alloc tmp).grownBy w1 v.ownBlock) :
    Boxed w1 B t v ∧ Boxed (w1.setCell ⟨B, 0, none⟩ v') B t v' ∧ (w1.setCell ⟨B, 0, none⟩ v').ownsRow base e size v' m ys ∧ KeepsOthers W (w1.setCell ⟨B, 0, none⟩ v') ∧ Below n₀ W (w1.setCell ⟨B, 0, none⟩ v') := by
  have hne : some B ≠ v.ownBlock := fun h => by
    have := (hrow.lt B h.symm).1
    omega
  have hne' : some B ≠ v'.ownBlock := fun h => by
    have := (hown'.lt B h.symm).1
    omega
  have hv1 : Boxed w1 B t v := (hv.alloc tmp).kept hgrow hne
  refine ⟨hv1, hv1.set v', hown'.kept (grownBy_setCell' w1 B v') (.inr hne'.symm), ?_, ?_⟩
  · refine ((KeepsOthers.alloc W tmp).trans (KeepsOthers.of_grownBy hgrow fun j o ej hj => ?_)).trans (KeepsOthers.setCell _ _ _)
    rcases (hrow.alloc tmp).2 with ⟨rfl, _⟩ | ⟨g, cap, cur, rfl, _, hgb, _⟩
    · simp [Value.ownBlock] at ej
    · obtain rfl : g = j := by simpa [Value.ownBlock] using ej
      rw [hgb] at hj; cases hj; rfl
  · refine (((Below.refl n₀ W).alloc (by omega) tmp).grown hgrow (by simp; omega) fun j ej => ?_).setCell (p := ⟨B, 0, none⟩) hn v'
    rcases hrow.2 with ⟨rfl, _⟩ | ⟨g, cap, cur, rfl, hb2, _, _⟩
    · simp [Value.ownBlock] at ej
    · obtain rfl : g = j := by simpa [Value.ownBlock] using ej
      omega
end Go.Proofs.YtbonamhinnhlnaaGreatDoor
namespace Go.Proofs.YtbonamhinnhlnaaGreatDoor
open Go.RowKit
set_option linter.unusedSimpArgs false
set_option linter.unusedVariables false
set_option maxRecDepth 20000

attribute [local irreducible] wpList
end Go.Proofs.YtbonamhinnhlnaaGreatDoor
namespace Go.Proofs.YtbonamhinnhlnaaGreatDoor
open Go.RowKit
attribute [local go_sem] Oper.semAt_some
set_option linter.unusedSimpArgs false
set_option linter.unusedVariables false
set_option maxRecDepth 100000

theorem Mem.more {n : Nat} {X : List Nat} {w0 W : World} {L : List (Nat × Array Value)} (h : Mem n X w0 W L) {b : Nat} {cs : Array Value} {T : TypeId} (e : W.heap[b]? = some (.cells cs T)) (hb : n ≤ b) (hn : ∀ x ∈ L, x.1 ≠ b) : Mem n X w0 W ((b, cs) :: L) :=
  ⟨h.os, h.tape, h.output, h.size, h.base, h.block, fun x hx => by
    rcases List.mem_cons.1 hx with rfl | hx
    · exact ⟨T, e⟩
    · exact h.row x hx, fun x hx => by
    rcases List.mem_cons.1 hx with rfl | hx
    · exact .inl hb
    · exact h.mine x hx, by
    rw [List.map_cons, List.nodup_cons]
    exact ⟨fun hm => by
      obtain ⟨x, hx, e⟩ := List.mem_map.1 hm
      exact hn x hx e, h.nodup⟩⟩
theorem Mem.begin3 {w : World} {R S U : Nat} {cs ds es : Array Value} {T1 T2 T3 : TypeId} (hR : w.heap[R]? = some (.cells cs T1)) (hS : w.heap[S]? = some (.cells ds T2)) (hU : w.heap[U]? = some (.cells es T3)) (h1 : R ≠ S) (h2 : R ≠ U) (h3 : S ≠ U) :
    Mem w.heap.size [R, S, U] w w [(R, cs), (S, ds), (U, es)] :=
  ⟨rfl, rfl, rfl, Nat.le_refl _, Nat.le_refl _, fun _ _ _ => rfl, fun x hx => by
    simp only [List.mem_cons, List.not_mem_nil, or_false] at hx
    rcases hx with rfl | rfl | rfl
    · exact ⟨_, hR⟩
    · exact ⟨_, hS⟩
    · exact ⟨_, hU⟩, fun x hx => by
    simp only [List.mem_cons, List.not_mem_nil, or_false] at hx
    rcases hx with rfl | rfl | rfl <;> exact .inr (by simp), by simp [h1, h2, h3]⟩
theorem res_cttt {P : Program} {fn : Func} {tmps : Array Value} {p q r s : Tmp} {ty : TypeId} (hf : fn.results = #[.cell p ty, .tmp q, .tmp r, .tmp s]) (R : Nat) (hp : tmps.getD p undef = .pointer (some ⟨R, 0, none⟩)) {w : World} {cs : Array Value} {t : TypeId} (hg : w.heap[R]? = some (.cells cs t (0, 0)))
    (hu : (P.underlying ty).map aggB = some true) (hz : (P.info? ty).map (·.size) = some cs.size) {v u x : Value} (hq : tmps.getD q undef = v) (hr : tmps.getD r undef = u) (hs : tmps.getD s undef = x) : (results fn tmps).run P w = .ok (.tuple #[.agg cs, v, u, x]) w := by
  have hl := run_loadVar_part (P := P) w R 0 t ty cs cs hg hu hz (fun j v hj => by rw [Nat.zero_add]; exact hj)
  have hp' : tmps[p]?.getD undef = .pointer (some ⟨R, 0, none⟩) := by simpa using hp
  have hq' : tmps[q]?.getD undef = v := by simpa using hq
  have hr' : tmps[r]?.getD undef = u := by simpa using hr
  have hs' : tmps[s]?.getD undef = x := by simpa using hs
  simp [results, hf, hp', hq', hr', hs', asAddr, hl]
/-- What a round begins with: the element, in a block of its own. -/
def RoundB (c : Cp) (l : List (Int × Bool)) (B k Bx : Nat) (W : World) : Prop := B ≤ Bx ∧ W.heap[Bx]? = some (.cells #[.int .u16 (tellF c l k).ad, .bool (tellF c l k).wr, .int .u8 (tellF c l k).v, .bool (tellF c l k).vb, .bool (tellF c l k).sc] 36 (0, 0))
theorem tells_succ (c : Cp) (l : List (Int × Bool)) (k : Nat) : ((List.range (k + 1)).map (tellF c l)) = (List.range k).map (tellF c l) ++ [tellF c l k] := by rw [List.range_succ, List.map_append]; rfl
theorem tells_len (c : Cp) (l : List (Int × Bool)) (k : Nat) : ((List.range k).map (tellF c l)).length = k := by simp
theorem cyclesf_ex (R : Nat) (n : Int) (w : World) : Calls Tryz.prog 20 #[.pointer (some ⟨R, 0, none⟩), .int .i64 n] w fun e w' => ∃ Bn Bp,
    e = .returned (.func (.func 32) #[] #[.pointer (some ⟨Bn, 0, none⟩), .pointer (some ⟨Bp, 0, none⟩)]) ∧ Mem w.heap.size [] w w' [(Bn, #[.int .i64 n]), (Bp, #[.pointer (some ⟨R, 0, none⟩)])] := by
  refine (cyclesf_ct R n w).mono ?_
  rintro e w' ⟨rfl, h⟩
  exact ⟨_, _, rfl, h⟩
theorem alloc_told (w : World) : (Instr.alloc 40 true (.tuple #[])).run Tryz.prog w = .ok (.pointer (some ⟨w.heap.size, 0, none⟩)) (w.alloc (.cells #[.slice none 0 0] 40)) := by kernel_rfl
def RunP (c : Cp) (l : List (Int × Bool)) (n : Nat) (w : World) (e : Ending) (w' : World) : Prop :=
  ∃ k g cap cs v, EndsF n c l k ∧ e = .returned (.tuple #[.agg (cpC (stF c l k).1), .slice (some ⟨g, 0, none⟩) l.length cap, v, .int .i64 0]) ∧ RowG bcl 2 cs cap (stF c l k).2 ∧ Mem w.heap.size [] w w' [(g, cs)] ∧
    w'.ownsRow w.heap.size 36 5 v k (((List.range k).map (tellF c l)).flatMap bscl) ∧ v.ownBlock ≠ some g
set_option maxHeartbeats 16000000 in
theorem run_yes (c : Cp) (sv : Value) (l : List (Int × Bool)) (n : Nat) (F : Fit c) (ok : okB c = true) (om : okM l) (hm : memB l.length = true) (hn : n ≤ 100000) (w : World) (G : GlobO w) (hr : Rd w sv l) :
    Calls Tryz.prog 8 #[.agg (cpC c), sv, .int .i64 (n : Int)] w (RunP c l n w) := by
  have hlen : 256 ≤ l.length ∧ l.length ≤ 65536 := by
    simp only [memB, Bool.and_eq_true, decide_eq_true_eq] at hm
    exact ⟨hm.1.1, hm.1.2⟩
  have HS := Lib.hid (fun wr gr h => start_ct c sv l (n : Int) F ok hm (by omega) (by omega) wr gr h)
  have HF := Lib.hid F
  have HO := Lib.hid ok
  have HM := Lib.hid om
  have HG := Lib.hid G
  have HR := Lib.hid hr
  have HL := Lib.hid hlen
  have HZC := Lib.hid alloc_cpu
  have H := Mem.start w
  clear F ok om hm G hr hlen
  refine (callsIn_wide (n := 5)).1 ?_
  refine callsIn_of_wp_marks Tryz.func8 rfl trivial ?_ rfl
  simp only [Tryz.ntmps8, List.size_toArray, List.length_cons, List.length_nil, Nat.reduceAdd, Nat.reduceSub, Array.replicate_succ, Array.replicate_zero, List.push_toArray, List.append_toArray, List.nil_append, List.cons_append]
  refine wpIn_wide.2 ?_
  have HZT := Lib.hid alloc_told
  have QC := Lib.hid (fun R wr => cyclesf_ex R (n : Int) wr)
  go_wp2_with (first | (refine wpList_mboxA rfl _ _ rfl H _ rfl ?_; clear H; intro R3 w1 _ H) | (refine wpList_mnew rfl _ rfl H _ HZC.out ?_; clear H; intro R6 w1 _ H) | (refine wpList_mnew rfl _ rfl H _ HZT.out ?_; clear H; intro Bt w1 _ H) | (refine gate_load _ _ rfl ?_; refine wpList_mloadA rfl 28 _ rfl _ rfl 1 H (cpC _) rfl (by decide +kernel) (by kernel_rfl) ?_) | (go_at_call 18; (with_reducible refine (HS.out _ (HG.out.mem H) (HR.out.below H.toBelow)).mono ?_); rintro e w2 ⟨R, g, cap, cs, rfl, hG, hM⟩; replace H := Mem.join H hM; clear hM; simp only [List.cons_append, List.nil_append] at H) | (go_at_call 20; (with_reducible refine (QC.out _ _).mono ?_); rintro e w3 ⟨Bn, Bp, rfl, hM⟩; replace H := Mem.join H hM; clear hM; simp only [List.cons_append, List.nil_append] at H) | fail)
  have hnd := H.nodup
  simp only [List.map_cons, List.map_nil, List.nodup_cons, List.mem_cons, List.not_mem_nil, or_false, not_or] at hnd
  obtain ⟨⟨n1, n2, n3, n4, n5, n6⟩, ⟨n7, n8, n9, n10, n11⟩, ⟨n12, n13, n14, n15⟩, ⟨n16, n17, n18⟩, ⟨n19, n20⟩, n21, -, -⟩ := hnd
  have l1 : Bn < w3.heap.size := H.lt (x := (Bn, _)) (List.mem_of_getElem? (i := 0) rfl)
  have l2 : Bp < w3.heap.size := H.lt (x := (Bp, _)) (List.mem_of_getElem? (i := 1) rfl)
  have l3 : Bt < w3.heap.size := H.lt (x := (Bt, _)) (List.mem_of_getElem? (i := 2) rfl)
  have l4 : R < w3.heap.size := H.lt (x := (R, _)) (List.mem_of_getElem? (i := 3) rfl)
  have l5 : g < w3.heap.size := H.lt (x := (g, _)) (List.mem_of_getElem? (i := 4) rfl)
  have l6 : R6 < w3.heap.size := H.lt (x := (R6, _)) (List.mem_of_getElem? (i := 5) rfl)
  have l7 : R3 < w3.heap.size := H.lt (x := (R3, _)) (List.mem_of_getElem? (i := 6) rfl)
  have m3 : w.heap.size ≤ Bt := by simpa using H.mine (Bt, _) (List.mem_of_getElem? (i := 2) rfl)
  have m4 : w.heap.size ≤ R := by simpa using H.mine (R, _) (List.mem_of_getElem? (i := 3) rfl)
  have m5 : w.heap.size ≤ g := by simpa using H.mine (g, _) (List.mem_of_getElem? (i := 4) rfl)
  have lo := HG.out.lt
  have hw3 := H.size
  have pin : PlayIn R g Bn Bp w3.heap.size := ⟨l4, l5, l1, l2, by omega, n16, n3, n4, n8, n9, by omega, by omega⟩
  have hP0 : PlayAt c l R g l.length cap Bn Bp n 0 w3 := ⟨H.get (i := 3) rfl, by
    obtain ⟨T, e⟩ := H.get (i := 4) rfl
    exact ⟨cs, T, e, hG⟩, H.get (i := 0) rfl, H.get (i := 1) rfl, HG.out.mem H⟩
  have hT0 : ToldAt w3.heap.size Bt ((List.range 0).map (tellF c l)) w3 := by
    obtain ⟨T, e⟩ := H.get (i := 2) rfl
    exact ⟨_, T, e, World.ownsRow_nil _ _ _ _⟩
  have hF0 : Mem w.heap.size [] w w3 [(R6, cpC cp0), (R3, cpC c)] := H.sub (List.Sublist.cons _ (List.Sublist.cons _ (List.Sublist.cons _ (List.Sublist.cons _ (List.Sublist.cons _ (List.Sublist.refl _))))))
  clear H hG
  refine (wpIn_wide (n := 5)).1 ?_
  have hY : ∀ k, Abide w3.heap.size (fun W => (k < n ∧ ∀ j, 0 < j → j ≤ k → (stF c l j).1.jam = false) ∧ PlayAt c l R g l.length cap Bn Bp n (k + 1) W ∧ ToldAt w3.heap.size Bt ((List.range k).map (tellF c l)) W ∧ Mem w.heap.size [] w W [(R6, cpC cp0), (R3, cpC c)] ∧ w3.heap.size ≤ W.heap.size) :=
    fun k => abide_and (abide_true _) (abide_and (PlayAt.abide pin) (abide_and told_abide (abide_and (mem_abide hw3 (.inr trivial)) abide_size)))
  have HYA := Lib.hid hY
  have HPIN := Lib.hid pin
  obtain ⟨i0, hi, hz0, hz1, hz2⟩ := info_parts info_bus
  refine rangeW rfl (by omega) (gf := 32) (lb := #[.pointer (some ⟨Bn, 0, none⟩), .pointer (some ⟨Bp, 0, none⟩)]) rfl trivial (enters_of Tryz.func32 (by kernel_rfl) rfl)
    (encs := encF c l) (c0 := .skip)
    (cycles_in c l l.length n R g cap Bn Bp w3.heap.size HF.out HO.out HM.out rfl (by have := HL.out; omega) HL.out.2 hn pin
      (fun k W => ToldAt w3.heap.size Bt ((List.range k).map (tellF c l)) W ∧ Mem w.heap.size [] w W [(R6, cpC cp0), (R3, cpC c)] ∧ w3.heap.size ≤ W.heap.size) (fun _ _ => False)
      (fun k A A' hj hm => ⟨told_near hj.1 hm n12 n13 l4 l5, hj.2.1.near hm m4 m5 (fun x hx => by
        simp only [List.mem_cons, List.not_mem_nil, or_false] at hx
        rcases hx with rfl | rfl
        · exact ⟨fun e => n17 e.symm, fun e => n19 e.symm⟩
        · exact ⟨fun e => n18 e.symm, fun e => n20 e.symm⟩), Nat.le_trans hj.2.2 hm.size⟩) 4 (by omega))
    (fun _ => rfl) (fun k => abide_and (PlayAt.abide pin) (abide_and told_abide (abide_and (mem_abide hw3 (.inr trivial)) abide_size))) hY (fun k => abide_and (PlayAt.abide pin) (abide_true False)) ⟨hP0, hT0, hF0, Nat.le_refl _⟩
    (fun k a' W => ∃ Bx, RoundB c l w3.heap.size k Bx W ∧ a' = { tmps := #[.agg (cpC c), sv, .int .i64 (n : Int), .pointer (some ⟨R3, 0, none⟩), undef, undef, .pointer (some ⟨R6, 0, none⟩), .slice none 0 0, .slice none 0 0, .int .i64 0, .pointer (some ⟨R, 0, none⟩), .int .i64 0, .pointer (some ⟨Bt, 0, none⟩), .pointer (some ⟨Bx, 0, none⟩), .tuple #[.pointer (some ⟨R, 0, none⟩), .int .i64 0], .agg (cpC c), sv, .int .i64 (n : Int), .tuple #[.pointer (some ⟨R, 0, none⟩), .int .i64 0], .pointer (some ⟨R, 0, none⟩), .int .i64 0, .int .i64 0, .bool false, undef, undef, undef, undef, undef, undef, undef, undef, undef, .pointer (some ⟨R, 0, none⟩), .int .i64 (n : Int), .func (.func 32) #[] #[.pointer (some ⟨Bn, 0, none⟩), .pointer (some ⟨Bp, 0, none⟩)], .agg #[.int .u16 (tellF c l k).ad, .bool (tellF c l k).wr, .int .u8 (tellF c l k).v, .bool (tellF c l k).vb, .bool (tellF c l k).sc], undef, undef, undef, undef, undef, undef, undef, undef, undef, undef, undef, undef, undef], defers := [] })
    (fun k a' => abide_ex fun Bx => abide_and (abide_and (abide_true _) (abide_box rfl)) (abide_true _))
    ?assign ?body ?done ?stop
  case assign =>
    rintro lr k W K hy hK
    gi_wp2
    exact hK _ _ ((KeepsOthers.alloc _ _).from _) ((HYA.out k).alloc W _ hy) ⟨W.heap.size, ⟨hy.2.2.2.2, World.alloc_heap_new W _⟩, rfl⟩
  case body =>
    rintro lr k a' W hl ⟨⟨hk, -⟩, hP, ⟨v, t, hv, hrow⟩, hF, hsz⟩ ⟨Bx, ⟨hBx, bX⟩, rfl⟩
    rw [tells_len] at hrow
    have HP := Lib.hid hP
    have HFR := Lib.hid hF
    have hc := hv.cell
    have x0 : W.cell? ⟨Bx, 0, none⟩ = some (.int .u16 (tellF c l k).ad) := cell_of_row W Bx 0 _ _ _ bX
    have x1 : W.cell? ⟨Bx, 1, none⟩ = some (.bool (tellF c l k).wr) := cell_of_row W Bx 1 _ _ _ bX
    have x2 : W.cell? ⟨Bx, 2, none⟩ = some (.int .u8 (tellF c l k).v) := cell_of_row W Bx 2 _ _ _ bX
    have x3 : W.cell? ⟨Bx, 3, none⟩ = some (.bool (tellF c l k).vb) := cell_of_row W Bx 3 _ _ _ bX
    have x4 : W.cell? ⟨Bx, 4, none⟩ = some (.bool (tellF c l k).sc) := cell_of_row W Bx 4 _ _ _ bX
    clear hP hF bX
    gi_wp2_with (gi_at_builtin; refine wpListIn_append_own _ rfl _ _ 40 rfl w3.heap.size 36 i0 (.agg #[.int .u16 0, .bool false, .int .u8 0, .bool false, .bool false]) 5 6 Tryz.underlying40 hi hz0 hz1 hz2 rfl (by decide) _ _ _ rfl (hrow.alloc _) ⟨W.heap.size, 0, none⟩ 1 1 [.int .u16 (tellF c l k).ad, .bool (tellF c l k).wr, .int .u8 (tellF c l k).v, .bool (tellF c l k).vb, .bool (tellF c l k).sc] rfl rfl (cell_five_new _ _ _ _ _ _ _) (by simp [Value.oneCell']) (by unfold maxLen; omega) (by omega) (by simp; omega) ?_; intro v' w1 hown' hgrow _; obtain ⟨g', cap', rfl⟩ := ownsRow_succ hown'; obtain ⟨hv1, hv2, hr2, hk2, hb2⟩ := told_appended (n₀ := w.heap.size) m3 l3 hv hrow hsz hown' hgrow; have hkk := kept_appended (B := Bt) (v' := .slice (some ⟨g', 0, none⟩) (k + 1) cap') hrow hsz hgrow; have hc1 := hv1.cell; have hf1 := hv1.frozen)
    refine ⟨hk2.from _, HP.out.but pin n12 n13 (Ne.symm n2) (Ne.symm n7) (by omega) hkk hb2.size, ⟨_, t, hv2, ?_⟩, HFR.out.stay hb2.os hb2.tape hb2.output hb2.size (fun b hb => hb2.block b hb) (fun x hx => ?_), Nat.le_trans hsz hb2.size⟩
    · rw [tells_len, tells_succ, List.flatMap_append]
      exact hr2
    · simp only [List.mem_cons, List.not_mem_nil, or_false] at hx
      rcases hx with rfl | rfl
      · exact hkk R6 l6 (fun e => n14 e.symm)
      · exact hkk R3 l7 (fun e => n15 e.symm)
  case done =>
    rintro Dd k W hDd hS ⟨hP, ⟨v, t, hv, hrow⟩, hF, hsz⟩ hK
    obtain ⟨T1, ep⟩ := hP.play
    obtain ⟨cs', T2, eg, hG'⟩ := hP.row
    obtain ⟨T3, ec⟩ := hF.get (i := 0) rfl
    have H := Mem.begin3 ep hv ec (fun e => n12 e.symm) n17 n14
    obtain ⟨d, hd⟩ : ∃ d, (stF c l k).1 = d := ⟨_, rfl⟩
    obtain ⟨N, hN⟩ : ∃ N, l.length = N := ⟨_, rfl⟩
    rw [hd, hN] at H
    have HK := Lib.hid hK
    have HEG := Lib.hid eg
    have HFR := Lib.hid hF
    have HROW := Lib.hid hrow
    clear hK ep eg ec hP hF hrow hv
    go_wp2_with fail
    (try simp only [Act.put, List.setIfInBounds_toArray, List.set_cons_succ, List.set_cons_zero])
    refine wp_region_x (by kernel_rfl) (by kernel_rfl) [(some 40, fun _ => .pointer (some ⟨R, 0, none⟩)), (some 41, fun _ => .pointer (some ⟨R, 0, none⟩)), (some 42, fun _ => .pointer (some ⟨R, 0, none⟩)), (some 43, fun _ => .agg (cpC d)), (some 44, fun _ => .pointer (some ⟨R, 0, none⟩)), (some 45, fun _ => .pointer (some ⟨R, 0, none⟩)), (some 46, fun _ => .pointer (some ⟨R, 25, none⟩)), (some 47, fun _ => .slice (some ⟨g, 0, none⟩) N cap), (some 48, fun _ => v), (none, fun _ => undef), (some 7, fun _ => .slice (some ⟨g, 0, none⟩) N cap), (some 8, fun _ => v), (some 9, fun _ => .int .i64 0)] (fun D bq wv => Mem W.heap.size [R, Bt, R6] W wv [(R, plC d g N cap), (Bt, #[v]), (R6, cond (D 9) (cpC d) (cpC cp0))]) 49 (by rfl) (by rfl) (by rfl) H.drew ⟨⟨rfl, ?p0⟩, ⟨rfl, ?p1⟩, ⟨rfl, ?p2⟩, ⟨rfl, ?p3⟩, ⟨rfl, ?p4⟩, ⟨rfl, ?p5⟩, ⟨rfl, ?p6⟩, ⟨rfl, ?p7⟩, ⟨rfl, ?p8⟩, ⟨rfl, ?p9⟩, ⟨rfl, ?p10⟩, ⟨rfl, ?p11⟩, ⟨rfl, ?p12⟩, trivial⟩ ?_
    case p0 =>
      intro D bq a' w' hk hc he hl hW
      (try dsimp only at hW)
      have f10 : a'.tmps.getD 10 undef = .pointer (some ⟨R, 0, none⟩) := (hl 10).trans ((vsx_no rfl).trans rfl)
      exact wp_val (.pointer (some ⟨R, 0, none⟩)) (by simp only [execOp, Act.eval, List.map_toArray, List.map_cons, List.map_nil]; rw [f10]; kernel_rfl) ⟨0, rfl, hW⟩
    case p1 =>
      intro D bq a' w' hk hc he hl hW
      (try dsimp only at hW)
      have e0 : a'.tmps.getD 40 undef = .pointer (some ⟨R, 0, none⟩) := (hl 40).trans (vsx_at (f := fun _ => .pointer (some ⟨R, 0, none⟩)) rfl (he ⟨0, .data⟩ (by simp) rfl) rfl)
      exact wp_val (.pointer (some ⟨R, 0, none⟩)) (by simp only [execOp, Act.eval, List.map_toArray, List.map_cons, List.map_nil]; rw [e0]; kernel_rfl) ⟨0, rfl, hW⟩
    case p2 =>
      intro D bq a' w' hk hc he hl hW
      (try dsimp only at hW)
      have e1 : a'.tmps.getD 41 undef = .pointer (some ⟨R, 0, none⟩) := (hl 41).trans (vsx_at (f := fun _ => .pointer (some ⟨R, 0, none⟩)) rfl (he ⟨1, .data⟩ (by simp) rfl) rfl)
      exact wp_val (.pointer (some ⟨R, 0, none⟩)) (by simp only [execOp, Act.eval, List.map_toArray, List.map_cons, List.map_nil]; rw [e1]; kernel_rfl) ⟨0, rfl, hW⟩
    case p3 =>
      intro D bq a' w' hk hc he hl hW
      (try dsimp only at hW)
      have e2 : a'.tmps.getD 42 undef = .pointer (some ⟨R, 0, none⟩) := (hl 42).trans (vsx_at (f := fun _ => .pointer (some ⟨R, 0, none⟩)) rfl (he ⟨2, .data⟩ (by simp) rfl) rfl)
      exact wp_sload _ _ rfl R 0 e2 0 hW (plC d g N cap) (cpC d) rfl (by decide +kernel) (by kernel_rfl) (pl_cpu _ _ _ _) ⟨0, rfl, hW⟩
    case p4 =>
      intro D bq a' w' hk hc he hl hW
      (try dsimp only at hW)
      have f10 : a'.tmps.getD 10 undef = .pointer (some ⟨R, 0, none⟩) := (hl 10).trans ((vsx_no rfl).trans rfl)
      exact wp_val (.pointer (some ⟨R, 0, none⟩)) (by simp only [execOp, Act.eval, List.map_toArray, List.map_cons, List.map_nil]; rw [f10]; kernel_rfl) ⟨0, rfl, hW⟩
    case p5 =>
      intro D bq a' w' hk hc he hl hW
      (try dsimp only at hW)
      have e4 : a'.tmps.getD 44 undef = .pointer (some ⟨R, 0, none⟩) := (hl 44).trans (vsx_at (f := fun _ => .pointer (some ⟨R, 0, none⟩)) rfl (he ⟨4, .data⟩ (by simp) rfl) rfl)
      exact wp_val (.pointer (some ⟨R, 0, none⟩)) (by simp only [execOp, Act.eval, List.map_toArray, List.map_cons, List.map_nil]; rw [e4]; kernel_rfl) ⟨0, rfl, hW⟩
    case p6 =>
      intro D bq a' w' hk hc he hl hW
      (try dsimp only at hW)
      have e5 : a'.tmps.getD 45 undef = .pointer (some ⟨R, 0, none⟩) := (hl 45).trans (vsx_at (f := fun _ => .pointer (some ⟨R, 0, none⟩)) rfl (he ⟨5, .data⟩ (by simp) rfl) rfl)
      exact wp_val (.pointer (some ⟨R, 25, none⟩)) (by simp only [execOp, Act.eval, List.map_toArray, List.map_cons, List.map_nil]; rw [e5]; kernel_rfl) ⟨0, rfl, hW⟩
    case p7 =>
      intro D bq a' w' hk hc he hl hW
      (try dsimp only at hW)
      have e6 : a'.tmps.getD 46 undef = .pointer (some ⟨R, 25, none⟩) := (hl 46).trans (vsx_at (f := fun _ => .pointer (some ⟨R, 25, none⟩)) rfl (he ⟨6, .data⟩ (by simp) rfl) rfl)
      exact wp_sload1 _ _ rfl R 25 e6 0 hW (plC d g N cap) (.slice (some ⟨g, 0, none⟩) N cap) rfl (pl_at _ _ _ _) (by decide +kernel) ⟨0, rfl, hW⟩
    case p8 =>
      intro D bq a' w' hk hc he hl hW
      (try dsimp only at hW)
      have f12 : a'.tmps.getD 12 undef = .pointer (some ⟨Bt, 0, none⟩) := (hl 12).trans ((vsx_no rfl).trans rfl)
      exact wp_sload1 _ _ rfl Bt 0 f12 1 hW #[v] v rfl rfl (by decide +kernel) ⟨0, rfl, hW⟩
    case p9 =>
      intro D bq a' w' hk hc he hl hW
      (try dsimp only at hW)
      have f6 : a'.tmps.getD 6 undef = .pointer (some ⟨R6, 0, none⟩) := (hl 6).trans ((vsx_no rfl).trans rfl)
      have e3 : a'.tmps.getD 43 undef = .agg (cpC d) := (hl 43).trans (vsx_at (f := fun _ => .agg (cpC d)) rfl (he ⟨3, .data⟩ (by simp) rfl) rfl)
      have hM := hW
      simp only [hk, cond_false] at hM
      exact wp_sstoreA _ _ _ rfl rfl R6 f6 2 hM (cpC cp0) (cpC d) rfl e3 (by kernel_rfl) (by kernel_rfl) (by kernel_rfl) fun w1 hM1 => ⟨0, rfl, hM1⟩
    case p10 =>
      intro D bq a' w' hk hc he hl hW
      (try dsimp only at hW)
      have e7 : a'.tmps.getD 47 undef = .slice (some ⟨g, 0, none⟩) N cap := (hl 47).trans (vsx_at (f := fun _ => .slice (some ⟨g, 0, none⟩) N cap) rfl (he ⟨7, .data⟩ (by simp) rfl) rfl)
      exact wp_val (.slice (some ⟨g, 0, none⟩) N cap) (by simp only [execOp, Act.eval, List.map_toArray, List.map_cons, List.map_nil]; rw [e7]; kernel_rfl) ⟨0, rfl, hW⟩
    case p11 =>
      intro D bq a' w' hk hc he hl hW
      (try dsimp only at hW)
      have e8 : a'.tmps.getD 48 undef = v := (hl 48).trans (vsx_at (f := fun _ => v) rfl (he ⟨8, .data⟩ (by simp) rfl) rfl)
      exact wp_val (v) (by simp only [execOp, Act.eval, List.map_toArray, List.map_cons, List.map_nil]; rw [e8]; kernel_rfl) ⟨0, rfl, hW⟩
    case p12 =>
      intro D bq a' w' hk hc he hl hW
      (try dsimp only at hW)
      exact wp_val (.int .i64 0) (by kernel_rfl) ⟨0, rfl, hW⟩
    intro D bq wv hD hW
    (try dsimp only at hW)
    simp only [hD 9 (by decide), cond_true] at hW
    clear H hD
    have H := hW
    clear hW
    simp only [putAll, vsOf, Nat.reduceAdd, List.foldl_cons, List.foldl_nil, Act.put, List.setIfInBounds_toArray, List.set_cons_succ, List.set_cons_zero]
    go_wp2_with fail
    have hlv : Dd < W.heap.size := (Array.getElem?_eq_some_iff.1 HK.out).1
    have hKv : wv.heap[Dd]? = some (.deferred (some [])) := (H.block Dd hlv (by
      intro e
      simp only [List.mem_cons, List.not_mem_nil, or_false] at e
      omega)).trans HK.out
    obtain ⟨T6, e6⟩ := H.get (i := 2) rfl
    have e6' : (wv.putObj Dd (.deferred none)).heap[R6]? = some (.cells (cpC d) T6 (0, 0)) := (World.putObj_heap_other (by omega)).trans e6
    have kp : ∀ b, b < W.heap.size → b ≠ R → b ≠ Bt → b ≠ R6 → b ≠ Dd → (wv.putObj Dd (.deferred none)).heap[b]? = W.heap[b]? := fun b hb h1 h2 h3 h4 => (World.putObj_heap_other h4).trans (H.block b hb (by
      intro e
      simp only [List.mem_cons, List.not_mem_nil, or_false] at e
      rcases e with e | e | e
      · exact h1 e
      · exact h2 e
      · exact h3 e))
    have hs6 : w.heap.size ≤ R6 := by simpa using HFR.out.mine (R6, _) (List.mem_of_getElem? (i := 0) rfl)
    have hM : Mem w.heap.size [] w (wv.putObj Dd (.deferred none)) [(g, cs')] := ((HFR.out.sub (List.nil_sublist _)).more HEG.out m5 (fun x hx => by cases hx)).stay H.os H.tape H.output (by have := H.size; simpa [World.putObj] using this)
      (fun b hb => kp b (by omega) (by omega) (by omega) (by omega) (by omega)) (fun x hx => by
        simp only [List.mem_cons, List.not_mem_nil, or_false] at hx
        subst hx
        exact kp g (by omega) (fun e => n16 e.symm) (fun e => n13 e.symm) n19 (by omega))
    have hO : (wv.putObj Dd (.deferred none)).ownsRow w.heap.size 36 5 v k (((List.range k).map (tellF c l)).flatMap bscl) := by
      have h := HROW.out
      rw [tells_len] at h
      refine ⟨h.1, ?_⟩
      rcases h.2 with h | ⟨q, cp, cur, e, hb, hq, hr⟩
      · exact .inl h
      · refine .inr ⟨q, cp, cur, e, Nat.le_trans hw3 hb, (kp q (Array.getElem?_eq_some_iff.1 hq).1 (by omega) (by omega) (by omega) (fun e2 => ?_)).trans hq, hr⟩
        rw [e2, HK.out] at hq
        cases hq
    have hne : v.ownBlock ≠ some g := fun h => by
      have := (HROW.out.lt g h).1
      omega
    refine ⟨by simp, .inl ⟨_, _, rfl, run_takeDeferred hKv, ?_⟩⟩
    exact ⟨_, res_cttt (v := .slice (some ⟨g, 0, none⟩) N cap) (u := v) (x := .int .i64 0) rfl R6 rfl e6' (by kernel_rfl) (by kernel_rfl) rfl rfl rfl, k, g, cap, cs', v, hS, by rw [hd, hN], hG', hM, hO, hne⟩
  case stop =>
    rintro D k W _ h _
    exact h.2.elim
end Go.Proofs.YtbonamhinnhlnaaGreatDoor
namespace Go.Proofs.YtbonamhinnhlnaaGreatDoor
open Go.RowKit
attribute [local go_sem] Oper.semAt_some
set_option linter.unusedSimpArgs false
set_option linter.unusedVariables false
set_option maxRecDepth 100000

theorem Mem.begin4 {w : World} {R S U V : Nat} {cs ds es fs : Array Value} {T1 T2 T3 T4 : TypeId} (hR : w.heap[R]? = some (.cells cs T1)) (hS : w.heap[S]? = some (.cells ds T2)) (hU : w.heap[U]? = some (.cells es T3)) (hV : w.heap[V]? = some (.cells fs T4)) (h1 : R ≠ S) (h2 : R ≠ U) (h3 : R ≠ V) (h4 : S ≠ U) (h5 : S ≠ V) (h6 : U ≠ V) :
    Mem w.heap.size [R, S, U, V] w w [(R, cs), (S, ds), (U, es), (V, fs)] :=
  ⟨rfl, rfl, rfl, Nat.le_refl _, Nat.le_refl _, fun _ _ _ => rfl, fun x hx => by
    simp only [List.mem_cons, List.not_mem_nil, or_false] at hx
    rcases hx with rfl | rfl | rfl | rfl
    · exact ⟨_, hR⟩
    · exact ⟨_, hS⟩
    · exact ⟨_, hU⟩
    · exact ⟨_, hV⟩, fun x hx => by
    simp only [List.mem_cons, List.not_mem_nil, or_false] at hx
    rcases hx with rfl | rfl | rfl | rfl <;> exact .inr (by simp), by simp [h1, h2, h3, h4, h5, h6]⟩
/-- So many cycles, of n at the most, up to the end of an instruction. -/
def UntilF (n : Nat) (c : Cp) (l : List (Int × Bool)) (k : Nat) : Prop := k ≤ n ∧ (∀ j, 0 < j → j < k → (stF c l j).1.jam = false ∧ (stF c l j).1.t ≠ 0) ∧ (k = n ∨ (0 < k ∧ ((stF c l k).1.jam = true ∨ (stF c l k).1.t = 0)))
theorem alloc_pp (w : World) : (Instr.alloc 59 true (.tuple #[])).run Tryz.prog w = .ok (.pointer (some ⟨w.heap.size, 0, none⟩)) (w.alloc (.cells #[.pointer none] 59)) := by kernel_rfl
theorem alloc_in (w : World) : (Instr.alloc 3 true (.tuple #[])).run Tryz.prog w = .ok (.pointer (some ⟨w.heap.size, 0, none⟩)) (w.alloc (.cells #[.int .i64 0] 3)) := by kernel_rfl
def UntilP (c : Cp) (l : List (Int × Bool)) (n : Nat) (w : World) (e : Ending) (w' : World) : Prop :=
  ∃ k g cap cs, UntilF n c l k ∧ e = .returned (.tuple #[.agg (cpC (stF c l k).1), .slice (some ⟨g, 0, none⟩) l.length cap, .int .i64 (k : Int), .int .i64 0]) ∧ RowG bcl 2 cs cap (stF c l k).2 ∧ Mem w.heap.size [] w w' [(g, cs)]
/-- What a round of Until keeps. -/
def KeepU (R Bq Bt R6 R3 B k : Nat) (c : Cp) (w W : World) : Prop := (∃ t, Boxed W Bt t (.int .i64 (k : Int))) ∧ (∃ t, Boxed W Bq t (.pointer (some ⟨R, 0, none⟩))) ∧ Mem w.heap.size [] w W [(R6, cpC cp0), (R3, cpC c)] ∧ B ≤ W.heap.size
theorem keepU_abide {R Bq Bt R6 R3 B k : Nat} {c : Cp} {w : World} (h : w.heap.size ≤ B) : Abide B (KeepU R Bq Bt R6 R3 B k c w) :=
  abide_and (abide_ex fun _ => abide_box rfl) (abide_and (abide_ex fun _ => abide_box rfl) (abide_and (mem_abide h (.inr trivial)) abide_size))
theorem keepU_near {R g Bq Bt R6 R3 B k : Nat} {c : Cp} {w A A' : World} {M : List (Nat × Array Value)} (h : KeepU R Bq Bt R6 R3 B k c w A) (hm : Mem A.heap.size [R, g] A A' M) (h1 : Bt ≠ R) (h2 : Bt ≠ g) (h3 : Bq ≠ R) (h4 : Bq ≠ g) (m4 : w.heap.size ≤ R) (m5 : w.heap.size ≤ g) (h5 : R6 ≠ R) (h6 : R6 ≠ g) (h7 : R3 ≠ R) (h8 : R3 ≠ g) : KeepU R Bq Bt R6 R3 B k c w A' := by
  obtain ⟨⟨t, hv⟩, ⟨u, hu⟩, hF, hs⟩ := h
  have nb : ∀ {b : Nat}, b ≠ R → b ≠ g → b ∉ [R, g] := fun h1 h2 e => by
    simp only [List.mem_cons, List.not_mem_nil, or_false] at e
    exact e.elim h1 h2
  exact ⟨⟨t, (hm.block Bt hv.lt (nb h1 h2)).trans hv⟩, ⟨u, (hm.block Bq hu.lt (nb h3 h4)).trans hu⟩, hF.near hm m4 m5 (fun x hx => by
    simp only [List.mem_cons, List.not_mem_nil, or_false] at hx
    rcases hx with rfl | rfl
    · exact ⟨h5, h6⟩
    · exact ⟨h7, h8⟩), Nat.le_trans hs hm.size⟩
theorem keepU_set {R Bq Bt R6 R3 B k : Nat} {c : Cp} {w W : World} (h : KeepU R Bq Bt R6 R3 B k c w W) (m3 : w.heap.size ≤ Bt) (h1 : Bq ≠ Bt) (h2 : R6 ≠ Bt) (h3 : R3 ≠ Bt) : KeepU R Bq Bt R6 R3 B (k + 1) c w (W.setCell ⟨Bt, 0, none⟩ (.int .i64 ((k : Int) + 1))) := by
  obtain ⟨⟨t, hv⟩, ⟨u, hu⟩, hF, hs⟩ := h
  have hb := (Below.refl w.heap.size W).setCell (p := ⟨Bt, 0, none⟩) m3 (.int .i64 ((k : Int) + 1))
  have hh : ∀ b, b ≠ Bt → (W.setCell ⟨Bt, 0, none⟩ (.int .i64 ((k : Int) + 1))).heap[b]? = W.heap[b]? := fun b hne => Below.heap_setCell W ⟨Bt, 0, none⟩ _ b (fun e => hne (by simpa using e))
  exact ⟨⟨t, hv.set _⟩, ⟨u, (hh Bq h1).trans hu⟩, hF.stay hb.os hb.tape hb.output hb.size (fun b hlt => hb.block b hlt) (fun x hx => by
    simp only [List.mem_cons, List.not_mem_nil, or_false] at hx
    rcases hx with rfl | rfl
    · exact hh _ h2
    · exact hh _ h3), Nat.le_trans hs hb.size⟩
set_option maxHeartbeats 16000000 in
theorem until_yes (c : Cp) (sv : Value) (l : List (Int × Bool)) (n : Nat) (F : Fit c) (ok : okB c = true) (om : okM l) (hm : memB l.length = true) (hn : n ≤ 100000) (w : World) (G : GlobO w) (hr : Rd w sv l) :
    Calls Tryz.prog 9 #[.agg (cpC c), sv, .int .i64 (n : Int)] w (UntilP c l n w) := by
  have hlen : 256 ≤ l.length ∧ l.length ≤ 65536 := by
    simp only [memB, Bool.and_eq_true, decide_eq_true_eq] at hm
    exact ⟨hm.1.1, hm.1.2⟩
  have HS := Lib.hid (fun wr gr h => start_ct c sv l (n : Int) F ok hm (by omega) (by omega) wr gr h)
  have HF := Lib.hid F
  have HO := Lib.hid ok
  have HM := Lib.hid om
  have HG := Lib.hid G
  have HR := Lib.hid hr
  have HL := Lib.hid hlen
  have HZC := Lib.hid alloc_cpu
  have H := Mem.start w
  clear F ok om hm G hr hlen
  refine (callsIn_wide (n := 5)).1 ?_
  refine callsIn_of_wp_marks Tryz.func9 rfl trivial ?_ rfl
  simp only [Tryz.ntmps9, List.size_toArray, List.length_cons, List.length_nil, Nat.reduceAdd, Nat.reduceSub, Array.replicate_succ, Array.replicate_zero, List.push_toArray, List.append_toArray, List.nil_append, List.cons_append]
  refine wpIn_wide.2 ?_
  have HZT := Lib.hid alloc_in
  have HZP := Lib.hid alloc_pp
  have QC := Lib.hid (fun R wr => cyclesf_ex R (n : Int) wr)
  go_wp2_with (first | (refine wpList_mboxA rfl _ _ rfl H _ rfl ?_; clear H; intro R3 w1 _ H) | (refine wpList_mnew rfl _ rfl H _ HZC.out ?_; clear H; intro R6 w1 _ H) | (refine wpList_mnew rfl _ rfl H _ HZP.out ?_; clear H; intro Bq w1 _ H) | (refine wpList_mnew rfl _ rfl H _ HZT.out ?_; clear H; intro Bt w1 _ H) | (refine gate_load _ _ rfl ?_; refine wpList_mloadA rfl 28 _ rfl _ rfl 1 H (cpC _) rfl (by decide +kernel) (by kernel_rfl) ?_) | (refine gate_load _ _ rfl ?_; refine wpList_mload1 rfl 59 _ rfl _ _ rfl 1 H _ (.pointer _) rfl rfl (by decide +kernel) ?_) | (refine gate_store _ _ _ rfl ?_; refine wpList_mstore rfl 59 _ _ rfl rfl _ _ rfl 0 H _ _ rfl (.pointer _) rfl (by kernel_rfl) (of_decide_eq_true (by kernel_rfl)) (by kernel_rfl) rfl ?_; clear H; intro w1 H; simp only [List.set_cons_zero, List.set_cons_succ] at H) | (refine gate_store _ _ _ rfl ?_; refine wpList_mstore rfl 3 _ _ rfl rfl _ _ rfl 0 H _ _ rfl (.int _ _) rfl (by kernel_rfl) (of_decide_eq_true (by kernel_rfl)) (by kernel_rfl) rfl ?_; clear H; intro w1 H; simp only [List.set_cons_zero, List.set_cons_succ] at H) | (go_at_call 18; (with_reducible refine (HS.out _ (HG.out.mem H) (HR.out.below H.toBelow)).mono ?_); rintro e w2 ⟨R, g, cap, cs, rfl, hG, hM⟩; replace H := Mem.join H hM; clear hM; simp only [List.cons_append, List.nil_append] at H) | (go_at_call 20; (with_reducible refine (QC.out _ _).mono ?_); rintro e w3 ⟨Bn, Bp, rfl, hM⟩; replace H := Mem.join H hM; clear hM; simp only [List.cons_append, List.nil_append] at H) | fail)
  replace H : Mem w.heap.size [] w w3 [(Bn, #[.int .i64 (n : Int)]), (Bp, #[.pointer (some ⟨R, 0, none⟩)]), (Bt, #[.int .i64 0]), (Bq, #[.pointer (some ⟨R, 0, none⟩)]), (R, plC c g l.length cap), (g, cs), (R6, cpC cp0), (R3, cpC c)] := H
  have hnd := H.nodup
  simp only [List.map_cons, List.map_nil, List.nodup_cons, List.mem_cons, List.not_mem_nil, or_false, not_or] at hnd
  obtain ⟨⟨n1, n2, n3, n4, n5, n6, n7⟩, ⟨p1, p2, p3, p4, p5, p6⟩, ⟨t1, t2, t3, t4, t5⟩, ⟨q1, q2, q3, q4⟩, ⟨r1, r2, r3⟩, ⟨g1, g2⟩, s1, -, -⟩ := hnd
  have l1 : Bn < w3.heap.size := H.lt (x := (Bn, _)) (List.mem_of_getElem? (i := 0) rfl)
  have l2 : Bp < w3.heap.size := H.lt (x := (Bp, _)) (List.mem_of_getElem? (i := 1) rfl)
  have l3 : Bt < w3.heap.size := H.lt (x := (Bt, _)) (List.mem_of_getElem? (i := 2) rfl)
  have l8 : Bq < w3.heap.size := H.lt (x := (Bq, _)) (List.mem_of_getElem? (i := 3) rfl)
  have l4 : R < w3.heap.size := H.lt (x := (R, _)) (List.mem_of_getElem? (i := 4) rfl)
  have l5 : g < w3.heap.size := H.lt (x := (g, _)) (List.mem_of_getElem? (i := 5) rfl)
  have l6 : R6 < w3.heap.size := H.lt (x := (R6, _)) (List.mem_of_getElem? (i := 6) rfl)
  have m3 : w.heap.size ≤ Bt := by simpa using H.mine (Bt, _) (List.mem_of_getElem? (i := 2) rfl)
  have m8 : w.heap.size ≤ Bq := by simpa using H.mine (Bq, _) (List.mem_of_getElem? (i := 3) rfl)
  have m4 : w.heap.size ≤ R := by simpa using H.mine (R, _) (List.mem_of_getElem? (i := 4) rfl)
  have m5 : w.heap.size ≤ g := by simpa using H.mine (g, _) (List.mem_of_getElem? (i := 5) rfl)
  have lo := HG.out.lt
  have hw3 := H.size
  have pin : PlayIn R g Bn Bp w3.heap.size := ⟨l4, l5, l1, l2, by omega, r1, n4, n5, p3, p4, by omega, by omega⟩
  have hP0 : PlayAt c l R g l.length cap Bn Bp n 0 w3 := ⟨H.get (i := 4) rfl, by
    obtain ⟨T, e⟩ := H.get (i := 5) rfl
    exact ⟨cs, T, e, hG⟩, H.get (i := 0) rfl, H.get (i := 1) rfl, HG.out.mem H⟩
  have hT0 : KeepU R Bq Bt R6 R3 w3.heap.size 0 c w w3 := ⟨H.get (i := 2) rfl, H.get (i := 3) rfl, H.sub (List.Sublist.cons _ (List.Sublist.cons _ (List.Sublist.cons _ (List.Sublist.cons _ (List.Sublist.cons _ (List.Sublist.cons _ (List.Sublist.refl _))))))), Nat.le_refl _⟩
  clear H hG
  refine (wpIn_wide (n := 5)).1 ?_
  have hY : ∀ k, Abide w3.heap.size (fun W => (k < n ∧ ∀ j, 0 < j → j ≤ k → (stF c l j).1.jam = false) ∧ PlayAt c l R g l.length cap Bn Bp n (k + 1) W ∧ (KeepU R Bq Bt R6 R3 w3.heap.size k c w W ∧ ∀ j, 0 < j → j ≤ k → (stF c l j).1.t ≠ 0)) :=
    fun k => abide_and (abide_true _) (abide_and (PlayAt.abide pin) (abide_and (keepU_abide hw3) (abide_true _)))
  refine rangeW rfl (by omega) (gf := 32) (lb := #[.pointer (some ⟨Bn, 0, none⟩), .pointer (some ⟨Bp, 0, none⟩)]) rfl trivial (enters_of Tryz.func32 (by kernel_rfl) rfl)
    (encs := encF c l) (c0 := .exit 0)
    (cycles_in c l l.length n R g cap Bn Bp w3.heap.size HF.out HO.out HM.out rfl (by have := HL.out; omega) HL.out.2 hn pin
      (fun k W => KeepU R Bq Bt R6 R3 w3.heap.size k c w W ∧ ∀ j, 0 < j → j ≤ k → (stF c l j).1.t ≠ 0) (fun k W => KeepU R Bq Bt R6 R3 w3.heap.size k c w W ∧ UntilF n c l k)
      (fun k A A' hj hm => ⟨keepU_near hj.1 hm t2 t3 q1 q2 m4 m5 (fun e => r2 e.symm) (fun e => g1 e.symm) (fun e => r3 e.symm) (fun e => g2 e.symm), hj.2⟩) 4 (by omega))
    (fun _ => rfl) (fun k => abide_and (PlayAt.abide pin) (abide_and (keepU_abide hw3) (abide_true _))) hY (fun k => abide_and (PlayAt.abide pin) (abide_and (keepU_abide hw3) (abide_true _))) ⟨hP0, hT0, fun j h1 h2 => absurd h1 (by omega)⟩
    (fun k a' W => a' = { tmps := #[.agg (cpC c), sv, .int .i64 (n : Int), .pointer (some ⟨R3, 0, none⟩), undef, undef, .pointer (some ⟨R6, 0, none⟩), .slice none 0 0, .int .i64 0, .int .i64 0, .pointer (some ⟨Bq, 0, none⟩), .int .i64 0, .pointer (some ⟨Bt, 0, none⟩), .tuple #[.pointer (some ⟨R, 0, none⟩), .int .i64 0], .agg (cpC c), sv, .int .i64 (n : Int), .tuple #[.pointer (some ⟨R, 0, none⟩), .int .i64 0], .pointer (some ⟨R, 0, none⟩), .int .i64 0, .int .i64 0, .bool false, undef, undef, undef, undef, undef, undef, undef, undef, undef, .pointer (some ⟨R, 0, none⟩), .int .i64 (n : Int), .func (.func 32) #[] #[.pointer (some ⟨Bn, 0, none⟩), .pointer (some ⟨Bp, 0, none⟩)], .agg #[.int .u16 (tellF c l k).ad, .bool (tellF c l k).wr, .int .u8 (tellF c l k).v, .bool (tellF c l k).vb, .bool (tellF c l k).sc], undef, undef, undef, undef, undef, undef, undef, undef, undef, undef, undef, undef, undef, undef, undef, undef, undef], defers := [] })
    (fun k a' => abide_true _)
    ?assign ?body ?done ?stop
  case assign =>
    rintro lr k W K hy hK
    gi_wp2
    exact hK _ _ (KeepsFrom.refl _ _) hy rfl
  case body =>
    rintro lr k a' W hl ⟨⟨hk, hnj⟩, hP, hU, hnt⟩ rfl
    have HP := Lib.hid hP
    have HU := Lib.hid hU
    have HNJ := Lib.hid hnj
    have HNT := Lib.hid hnt
    obtain ⟨⟨t, hv⟩, ⟨u, hu⟩, -, hsz⟩ := hU
    obtain ⟨T5, e5⟩ := hP.play
    have hh : ∀ b, b ≠ Bt → (W.setCell ⟨Bt, 0, none⟩ (.int .i64 ((k : Int) + 1))).heap[b]? = W.heap[b]? := fun b hne => Below.heap_setCell W ⟨Bt, 0, none⟩ _ b (fun e => hne (by simpa using e))
    have hc := hv.cell
    have hf := hv.frozen
    have c1 : (W.setCell ⟨Bt, 0, none⟩ (.int .i64 ((k : Int) + 1))).cell? ⟨Bq, 0, none⟩ = some (.pointer (some ⟨R, 0, none⟩)) := cell_of_row _ Bq 0 _ _ _ ((hh Bq (fun e => t1 e.symm)).trans hu)
    have c2 : (W.setCell ⟨Bt, 0, none⟩ (.int .i64 ((k : Int) + 1))).cell? ⟨R, 13, none⟩ = some (.int .i64 (stF c l (k + 1)).1.t) := cell_of_row _ R 13 _ _ _ ((hh R (fun e => t2 e.symm)).trans e5)
    have hP2 := Lib.hid (HP.out.but (W' := W.setCell ⟨Bt, 0, none⟩ (.int .i64 ((k : Int) + 1))) pin t2 t3 (fun e => n2 e.symm) (fun e => p1 e.symm) (by omega) (fun b _ hne => hh b hne) ((Below.refl 0 W).setCell (p := ⟨Bt, 0, none⟩) (Nat.zero_le _) _).size)
    have hU2 := Lib.hid (keepU_set HU.out m3 (fun e => t1 e.symm) (fun e => t4 e.symm) (fun e => t5 e.symm))
    have HKF := Lib.hid ((KeepsOthers.setCell W ⟨Bt, 0, none⟩ (.int .i64 ((k : Int) + 1))).from w3.heap.size)
    clear hP hnj hnt hv hu e5 hh
    by_cases ht : (stF c l (k + 1)).1.t = 0
    · rw [ht] at c2
      have HT := Lib.hid ht
      clear ht
      gi_wp2
      exact ⟨HKF.out, rfl, hP2.out, hU2.out, ⟨by omega, fun j h1 h2 => ⟨HNJ.out j h1 (by omega), HNT.out j h1 (by omega)⟩, .inr ⟨by omega, .inr HT.out⟩⟩⟩
    · have HT := Lib.hid ht
      obtain ⟨T, hT⟩ : ∃ T, (stF c l (k + 1)).1.t = T := ⟨_, rfl⟩
      rw [hT] at c2 ht
      have h0 : (T == 0) = false := by simpa using ht
      clear ht hT
      gi_wp2
      exact ⟨HKF.out, hP2.out, hU2.out, fun j h1 h2 => by
        by_cases e : j = k + 1
        · rw [e]; exact HT.out
        · exact HNT.out j h1 (by omega)⟩
  case done =>
    rintro Dd k W hDd hS ⟨hP, ⟨⟨t, hbt⟩, ⟨u, hbq⟩, hF, hsz⟩, hnt⟩ hK
    have hU : UntilF n c l k := ⟨hS.1, fun j h1 h2 => ⟨hS.2.1 j h1 h2, hnt j h1 (by omega)⟩, hS.2.2.elim .inl (fun h => .inr ⟨h.1, .inl h.2⟩)⟩
    obtain ⟨T1, ep⟩ := hP.play
    obtain ⟨cs', T2, eg, hG'⟩ := hP.row
    obtain ⟨T3, ec⟩ := hF.get (i := 0) rfl
    have H := Mem.begin4 ep hbq hbt ec (fun e => q1 e.symm) (fun e => t2 e.symm) r2 (fun e => t1 e.symm) q3 t4
    obtain ⟨d, hd⟩ : ∃ d, (stF c l k).1 = d := ⟨_, rfl⟩
    obtain ⟨N, hN⟩ : ∃ N, l.length = N := ⟨_, rfl⟩
    rw [hd, hN] at H
    have HK := Lib.hid hK
    have HEG := Lib.hid eg
    have HFR := Lib.hid hF
    have HU := Lib.hid hU
    clear hK ep eg ec hP hF hbq hbt hU
    go_wp2_with fail
    (try simp only [Act.put, List.setIfInBounds_toArray, List.set_cons_succ, List.set_cons_zero])
    refine wp_region_x (by kernel_rfl) (by kernel_rfl) [(some 43, fun _ => .pointer (some ⟨R, 0, none⟩)), (some 44, fun _ => .pointer (some ⟨R, 0, none⟩)), (some 45, fun _ => .pointer (some ⟨R, 0, none⟩)), (some 46, fun _ => .agg (cpC d)), (some 47, fun _ => .pointer (some ⟨R, 0, none⟩)), (some 48, fun _ => .pointer (some ⟨R, 0, none⟩)), (some 49, fun _ => .pointer (some ⟨R, 25, none⟩)), (some 50, fun _ => .slice (some ⟨g, 0, none⟩) N cap), (some 51, fun _ => .int .i64 (k : Int)), (none, fun _ => undef), (some 7, fun _ => .slice (some ⟨g, 0, none⟩) N cap), (some 8, fun _ => .int .i64 (k : Int)), (some 9, fun _ => .int .i64 0)] (fun D bq wv => Mem W.heap.size [R, Bq, Bt, R6] W wv [(R, plC d g N cap), (Bq, #[.pointer (some ⟨R, 0, none⟩)]), (Bt, #[.int .i64 (k : Int)]), (R6, cond (D 9) (cpC d) (cpC cp0))]) 52 (by rfl) (by rfl) (by rfl) H.drew ⟨⟨rfl, ?p0⟩, ⟨rfl, ?p1⟩, ⟨rfl, ?p2⟩, ⟨rfl, ?p3⟩, ⟨rfl, ?p4⟩, ⟨rfl, ?p5⟩, ⟨rfl, ?p6⟩, ⟨rfl, ?p7⟩, ⟨rfl, ?p8⟩, ⟨rfl, ?p9⟩, ⟨rfl, ?p10⟩, ⟨rfl, ?p11⟩, ⟨rfl, ?p12⟩, trivial⟩ ?_
    case p0 =>
      intro D bq a' w' hk hc he hl hW
      (try dsimp only at hW)
      have f10 : a'.tmps.getD 10 undef = .pointer (some ⟨Bq, 0, none⟩) := (hl 10).trans ((vsx_no rfl).trans rfl)
      exact wp_sload1 _ _ rfl Bq 0 f10 1 hW #[.pointer (some ⟨R, 0, none⟩)] (.pointer (some ⟨R, 0, none⟩)) rfl rfl (by decide +kernel) ⟨0, rfl, hW⟩
    case p1 =>
      intro D bq a' w' hk hc he hl hW
      (try dsimp only at hW)
      have e0 : a'.tmps.getD 43 undef = .pointer (some ⟨R, 0, none⟩) := (hl 43).trans (vsx_at (f := fun _ => .pointer (some ⟨R, 0, none⟩)) rfl (he ⟨0, .data⟩ (by simp) rfl) rfl)
      exact wp_val (.pointer (some ⟨R, 0, none⟩)) (by simp only [execOp, Act.eval, List.map_toArray, List.map_cons, List.map_nil]; rw [e0]; kernel_rfl) ⟨0, rfl, hW⟩
    case p2 =>
      intro D bq a' w' hk hc he hl hW
      (try dsimp only at hW)
      have e1 : a'.tmps.getD 44 undef = .pointer (some ⟨R, 0, none⟩) := (hl 44).trans (vsx_at (f := fun _ => .pointer (some ⟨R, 0, none⟩)) rfl (he ⟨1, .data⟩ (by simp) rfl) rfl)
      exact wp_val (.pointer (some ⟨R, 0, none⟩)) (by simp only [execOp, Act.eval, List.map_toArray, List.map_cons, List.map_nil]; rw [e1]; kernel_rfl) ⟨0, rfl, hW⟩
    case p3 =>
      intro D bq a' w' hk hc he hl hW
      (try dsimp only at hW)
      have e2 : a'.tmps.getD 45 undef = .pointer (some ⟨R, 0, none⟩) := (hl 45).trans (vsx_at (f := fun _ => .pointer (some ⟨R, 0, none⟩)) rfl (he ⟨2, .data⟩ (by simp) rfl) rfl)
      exact wp_sload _ _ rfl R 0 e2 0 hW (plC d g N cap) (cpC d) rfl (by decide +kernel) (by kernel_rfl) (pl_cpu _ _ _ _) ⟨0, rfl, hW⟩
    case p4 =>
      intro D bq a' w' hk hc he hl hW
      (try dsimp only at hW)
      have f10 : a'.tmps.getD 10 undef = .pointer (some ⟨Bq, 0, none⟩) := (hl 10).trans ((vsx_no rfl).trans rfl)
      exact wp_sload1 _ _ rfl Bq 0 f10 1 hW #[.pointer (some ⟨R, 0, none⟩)] (.pointer (some ⟨R, 0, none⟩)) rfl rfl (by decide +kernel) ⟨0, rfl, hW⟩
    case p5 =>
      intro D bq a' w' hk hc he hl hW
      (try dsimp only at hW)
      have e4 : a'.tmps.getD 47 undef = .pointer (some ⟨R, 0, none⟩) := (hl 47).trans (vsx_at (f := fun _ => .pointer (some ⟨R, 0, none⟩)) rfl (he ⟨4, .data⟩ (by simp) rfl) rfl)
      exact wp_val (.pointer (some ⟨R, 0, none⟩)) (by simp only [execOp, Act.eval, List.map_toArray, List.map_cons, List.map_nil]; rw [e4]; kernel_rfl) ⟨0, rfl, hW⟩
    case p6 =>
      intro D bq a' w' hk hc he hl hW
      (try dsimp only at hW)
      have e5 : a'.tmps.getD 48 undef = .pointer (some ⟨R, 0, none⟩) := (hl 48).trans (vsx_at (f := fun _ => .pointer (some ⟨R, 0, none⟩)) rfl (he ⟨5, .data⟩ (by simp) rfl) rfl)
      exact wp_val (.pointer (some ⟨R, 25, none⟩)) (by simp only [execOp, Act.eval, List.map_toArray, List.map_cons, List.map_nil]; rw [e5]; kernel_rfl) ⟨0, rfl, hW⟩
    case p7 =>
      intro D bq a' w' hk hc he hl hW
      (try dsimp only at hW)
      have e6 : a'.tmps.getD 49 undef = .pointer (some ⟨R, 25, none⟩) := (hl 49).trans (vsx_at (f := fun _ => .pointer (some ⟨R, 25, none⟩)) rfl (he ⟨6, .data⟩ (by simp) rfl) rfl)
      exact wp_sload1 _ _ rfl R 25 e6 0 hW (plC d g N cap) (.slice (some ⟨g, 0, none⟩) N cap) rfl (pl_at _ _ _ _) (by decide +kernel) ⟨0, rfl, hW⟩
    case p8 =>
      intro D bq a' w' hk hc he hl hW
      (try dsimp only at hW)
      have f12 : a'.tmps.getD 12 undef = .pointer (some ⟨Bt, 0, none⟩) := (hl 12).trans ((vsx_no rfl).trans rfl)
      exact wp_sload1 _ _ rfl Bt 0 f12 2 hW #[.int .i64 (k : Int)] (.int .i64 (k : Int)) rfl rfl (by decide +kernel) ⟨0, rfl, hW⟩
    case p9 =>
      intro D bq a' w' hk hc he hl hW
      (try dsimp only at hW)
      have f6 : a'.tmps.getD 6 undef = .pointer (some ⟨R6, 0, none⟩) := (hl 6).trans ((vsx_no rfl).trans rfl)
      have e3 : a'.tmps.getD 46 undef = .agg (cpC d) := (hl 46).trans (vsx_at (f := fun _ => .agg (cpC d)) rfl (he ⟨3, .data⟩ (by simp) rfl) rfl)
      have hM := hW
      simp only [hk, cond_false] at hM
      exact wp_sstoreA _ _ _ rfl rfl R6 f6 3 hM (cpC cp0) (cpC d) rfl e3 (by kernel_rfl) (by kernel_rfl) (by kernel_rfl) fun w1 hM1 => ⟨0, rfl, hM1⟩
    case p10 =>
      intro D bq a' w' hk hc he hl hW
      (try dsimp only at hW)
      have e7 : a'.tmps.getD 50 undef = .slice (some ⟨g, 0, none⟩) N cap := (hl 50).trans (vsx_at (f := fun _ => .slice (some ⟨g, 0, none⟩) N cap) rfl (he ⟨7, .data⟩ (by simp) rfl) rfl)
      exact wp_val (.slice (some ⟨g, 0, none⟩) N cap) (by simp only [execOp, Act.eval, List.map_toArray, List.map_cons, List.map_nil]; rw [e7]; kernel_rfl) ⟨0, rfl, hW⟩
    case p11 =>
      intro D bq a' w' hk hc he hl hW
      (try dsimp only at hW)
      have e8 : a'.tmps.getD 51 undef = .int .i64 (k : Int) := (hl 51).trans (vsx_at (f := fun _ => .int .i64 (k : Int)) rfl (he ⟨8, .data⟩ (by simp) rfl) rfl)
      exact wp_val (.int .i64 (k : Int)) (by simp only [execOp, Act.eval, List.map_toArray, List.map_cons, List.map_nil]; rw [e8]; kernel_rfl) ⟨0, rfl, hW⟩
    case p12 =>
      intro D bq a' w' hk hc he hl hW
      (try dsimp only at hW)
      exact wp_val (.int .i64 0) (by kernel_rfl) ⟨0, rfl, hW⟩
    intro D bq wv hD hW
    (try dsimp only at hW)
    simp only [hD 9 (by decide), cond_true] at hW
    clear H hD
    have H := hW
    clear hW
    simp only [putAll, vsOf, Nat.reduceAdd, List.foldl_cons, List.foldl_nil, Act.put, List.setIfInBounds_toArray, List.set_cons_succ, List.set_cons_zero]
    go_wp2_with fail
    have hlv : Dd < W.heap.size := (Array.getElem?_eq_some_iff.1 HK.out).1
    have hKv : wv.heap[Dd]? = some (.deferred (some [])) := (H.block Dd hlv (by
      intro e
      simp only [List.mem_cons, List.not_mem_nil, or_false] at e
      omega)).trans HK.out
    obtain ⟨T6, e6⟩ := H.get (i := 3) rfl
    have e6' : (wv.putObj Dd (.deferred none)).heap[R6]? = some (.cells (cpC d) T6 (0, 0)) := (World.putObj_heap_other (by omega)).trans e6
    have kp : ∀ b, b < W.heap.size → b ≠ R → b ≠ Bq → b ≠ Bt → b ≠ R6 → b ≠ Dd → (wv.putObj Dd (.deferred none)).heap[b]? = W.heap[b]? := fun b hb h1 h2 h3 h4 h5 => (World.putObj_heap_other h5).trans (H.block b hb (by
      intro e
      simp only [List.mem_cons, List.not_mem_nil, or_false] at e
      rcases e with e | e | e | e
      · exact h1 e
      · exact h2 e
      · exact h3 e
      · exact h4 e))
    have hs6 : w.heap.size ≤ R6 := by simpa using HFR.out.mine (R6, _) (List.mem_of_getElem? (i := 0) rfl)
    have hM : Mem w.heap.size [] w (wv.putObj Dd (.deferred none)) [(g, cs')] := ((HFR.out.sub (List.nil_sublist _)).more HEG.out m5 (fun x hx => by cases hx)).stay H.os H.tape H.output (by have := H.size; simpa [World.putObj] using this)
      (fun b hb => kp b (by omega) (by omega) (by omega) (by omega) (by omega) (by omega)) (fun x hx => by
        simp only [List.mem_cons, List.not_mem_nil, or_false] at hx
        subst hx
        exact kp g (by omega) (fun e => r1 e.symm) (fun e => q2 e.symm) (fun e => t3 e.symm) g1 (by omega))
    refine ⟨by simp, .inl ⟨_, _, rfl, run_takeDeferred hKv, ?_⟩⟩
    exact ⟨_, res_cttt (v := .slice (some ⟨g, 0, none⟩) N cap) (u := .int .i64 (k : Int)) (x := .int .i64 0) rfl R6 rfl e6' (by kernel_rfl) (by kernel_rfl) rfl rfl rfl, k, g, cap, cs', HU.out, by rw [hd, hN], hG', hM⟩
  case stop =>
    rintro Dd k W hDd ⟨hP, ⟨⟨t, hbt⟩, ⟨u, hbq⟩, hF, hsz⟩, hU⟩ hK
    obtain ⟨T1, ep⟩ := hP.play
    obtain ⟨cs', T2, eg, hG'⟩ := hP.row
    obtain ⟨T3, ec⟩ := hF.get (i := 0) rfl
    have H := Mem.begin4 ep hbq hbt ec (fun e => q1 e.symm) (fun e => t2 e.symm) r2 (fun e => t1 e.symm) q3 t4
    obtain ⟨d, hd⟩ : ∃ d, (stF c l k).1 = d := ⟨_, rfl⟩
    obtain ⟨N, hN⟩ : ∃ N, l.length = N := ⟨_, rfl⟩
    rw [hd, hN] at H
    have HK := Lib.hid hK
    have HEG := Lib.hid eg
    have HFR := Lib.hid hF
    have HU := Lib.hid hU
    clear hK ep eg ec hP hF hbq hbt hU
    refine wpIn_wide.2 ?_
    go_wp2_with fail
    (try simp only [Act.put, List.setIfInBounds_toArray, List.set_cons_succ, List.set_cons_zero])
    refine wp_region_x (by kernel_rfl) (by kernel_rfl) [(some 43, fun _ => .pointer (some ⟨R, 0, none⟩)), (some 44, fun _ => .pointer (some ⟨R, 0, none⟩)), (some 45, fun _ => .pointer (some ⟨R, 0, none⟩)), (some 46, fun _ => .agg (cpC d)), (some 47, fun _ => .pointer (some ⟨R, 0, none⟩)), (some 48, fun _ => .pointer (some ⟨R, 0, none⟩)), (some 49, fun _ => .pointer (some ⟨R, 25, none⟩)), (some 50, fun _ => .slice (some ⟨g, 0, none⟩) N cap), (some 51, fun _ => .int .i64 (k : Int)), (none, fun _ => undef), (some 7, fun _ => .slice (some ⟨g, 0, none⟩) N cap), (some 8, fun _ => .int .i64 (k : Int)), (some 9, fun _ => .int .i64 0)] (fun D bq wv => Mem W.heap.size [R, Bq, Bt, R6] W wv [(R, plC d g N cap), (Bq, #[.pointer (some ⟨R, 0, none⟩)]), (Bt, #[.int .i64 (k : Int)]), (R6, cond (D 9) (cpC d) (cpC cp0))]) 52 (by rfl) (by rfl) (by rfl) H.drew ⟨⟨rfl, ?p0⟩, ⟨rfl, ?p1⟩, ⟨rfl, ?p2⟩, ⟨rfl, ?p3⟩, ⟨rfl, ?p4⟩, ⟨rfl, ?p5⟩, ⟨rfl, ?p6⟩, ⟨rfl, ?p7⟩, ⟨rfl, ?p8⟩, ⟨rfl, ?p9⟩, ⟨rfl, ?p10⟩, ⟨rfl, ?p11⟩, ⟨rfl, ?p12⟩, trivial⟩ ?_
    case p0 =>
      intro D bq a' w' hk hc he hl hW
      (try dsimp only at hW)
      have f10 : a'.tmps.getD 10 undef = .pointer (some ⟨Bq, 0, none⟩) := (hl 10).trans ((vsx_no rfl).trans rfl)
      exact wp_sload1 _ _ rfl Bq 0 f10 1 hW #[.pointer (some ⟨R, 0, none⟩)] (.pointer (some ⟨R, 0, none⟩)) rfl rfl (by decide +kernel) ⟨0, rfl, hW⟩
    case p1 =>
      intro D bq a' w' hk hc he hl hW
      (try dsimp only at hW)
      have e0 : a'.tmps.getD 43 undef = .pointer (some ⟨R, 0, none⟩) := (hl 43).trans (vsx_at (f := fun _ => .pointer (some ⟨R, 0, none⟩)) rfl (he ⟨0, .data⟩ (by simp) rfl) rfl)
      exact wp_val (.pointer (some ⟨R, 0, none⟩)) (by simp only [execOp, Act.eval, List.map_toArray, List.map_cons, List.map_nil]; rw [e0]; kernel_rfl) ⟨0, rfl, hW⟩
    case p2 =>
      intro D bq a' w' hk hc he hl hW
      (try dsimp only at hW)
      have e1 : a'.tmps.getD 44 undef = .pointer (some ⟨R, 0, none⟩) := (hl 44).trans (vsx_at (f := fun _ => .pointer (some ⟨R, 0, none⟩)) rfl (he ⟨1, .data⟩ (by simp) rfl) rfl)
      exact wp_val (.pointer (some ⟨R, 0, none⟩)) (by simp only [execOp, Act.eval, List.map_toArray, List.map_cons, List.map_nil]; rw [e1]; kernel_rfl) ⟨0, rfl, hW⟩
    case p3 =>
      intro D bq a' w' hk hc he hl hW
      (try dsimp only at hW)
      have e2 : a'.tmps.getD 45 undef = .pointer (some ⟨R, 0, none⟩) := (hl 45).trans (vsx_at (f := fun _ => .pointer (some ⟨R, 0, none⟩)) rfl (he ⟨2, .data⟩ (by simp) rfl) rfl)
      exact wp_sload _ _ rfl R 0 e2 0 hW (plC d g N cap) (cpC d) rfl (by decide +kernel) (by kernel_rfl) (pl_cpu _ _ _ _) ⟨0, rfl, hW⟩
    case p4 =>
      intro D bq a' w' hk hc he hl hW
      (try dsimp only at hW)
      have f10 : a'.tmps.getD 10 undef = .pointer (some ⟨Bq, 0, none⟩) := (hl 10).trans ((vsx_no rfl).trans rfl)
      exact wp_sload1 _ _ rfl Bq 0 f10 1 hW #[.pointer (some ⟨R, 0, none⟩)] (.pointer (some ⟨R, 0, none⟩)) rfl rfl (by decide +kernel) ⟨0, rfl, hW⟩
    case p5 =>
      intro D bq a' w' hk hc he hl hW
      (try dsimp only at hW)
      have e4 : a'.tmps.getD 47 undef = .pointer (some ⟨R, 0, none⟩) := (hl 47).trans (vsx_at (f := fun _ => .pointer (some ⟨R, 0, none⟩)) rfl (he ⟨4, .data⟩ (by simp) rfl) rfl)
      exact wp_val (.pointer (some ⟨R, 0, none⟩)) (by simp only [execOp, Act.eval, List.map_toArray, List.map_cons, List.map_nil]; rw [e4]; kernel_rfl) ⟨0, rfl, hW⟩
    case p6 =>
      intro D bq a' w' hk hc he hl hW
      (try dsimp only at hW)
      have e5 : a'.tmps.getD 48 undef = .pointer (some ⟨R, 0, none⟩) := (hl 48).trans (vsx_at (f := fun _ => .pointer (some ⟨R, 0, none⟩)) rfl (he ⟨5, .data⟩ (by simp) rfl) rfl)
      exact wp_val (.pointer (some ⟨R, 25, none⟩)) (by simp only [execOp, Act.eval, List.map_toArray, List.map_cons, List.map_nil]; rw [e5]; kernel_rfl) ⟨0, rfl, hW⟩
    case p7 =>
      intro D bq a' w' hk hc he hl hW
      (try dsimp only at hW)
      have e6 : a'.tmps.getD 49 undef = .pointer (some ⟨R, 25, none⟩) := (hl 49).trans (vsx_at (f := fun _ => .pointer (some ⟨R, 25, none⟩)) rfl (he ⟨6, .data⟩ (by simp) rfl) rfl)
      exact wp_sload1 _ _ rfl R 25 e6 0 hW (plC d g N cap) (.slice (some ⟨g, 0, none⟩) N cap) rfl (pl_at _ _ _ _) (by decide +kernel) ⟨0, rfl, hW⟩
    case p8 =>
      intro D bq a' w' hk hc he hl hW
      (try dsimp only at hW)
      have f12 : a'.tmps.getD 12 undef = .pointer (some ⟨Bt, 0, none⟩) := (hl 12).trans ((vsx_no rfl).trans rfl)
      exact wp_sload1 _ _ rfl Bt 0 f12 2 hW #[.int .i64 (k : Int)] (.int .i64 (k : Int)) rfl rfl (by decide +kernel) ⟨0, rfl, hW⟩
    case p9 =>
      intro D bq a' w' hk hc he hl hW
      (try dsimp only at hW)
      have f6 : a'.tmps.getD 6 undef = .pointer (some ⟨R6, 0, none⟩) := (hl 6).trans ((vsx_no rfl).trans rfl)
      have e3 : a'.tmps.getD 46 undef = .agg (cpC d) := (hl 46).trans (vsx_at (f := fun _ => .agg (cpC d)) rfl (he ⟨3, .data⟩ (by simp) rfl) rfl)
      have hM := hW
      simp only [hk, cond_false] at hM
      exact wp_sstoreA _ _ _ rfl rfl R6 f6 3 hM (cpC cp0) (cpC d) rfl e3 (by kernel_rfl) (by kernel_rfl) (by kernel_rfl) fun w1 hM1 => ⟨0, rfl, hM1⟩
    case p10 =>
      intro D bq a' w' hk hc he hl hW
      (try dsimp only at hW)
      have e7 : a'.tmps.getD 50 undef = .slice (some ⟨g, 0, none⟩) N cap := (hl 50).trans (vsx_at (f := fun _ => .slice (some ⟨g, 0, none⟩) N cap) rfl (he ⟨7, .data⟩ (by simp) rfl) rfl)
      exact wp_val (.slice (some ⟨g, 0, none⟩) N cap) (by simp only [execOp, Act.eval, List.map_toArray, List.map_cons, List.map_nil]; rw [e7]; kernel_rfl) ⟨0, rfl, hW⟩
    case p11 =>
      intro D bq a' w' hk hc he hl hW
      (try dsimp only at hW)
      have e8 : a'.tmps.getD 51 undef = .int .i64 (k : Int) := (hl 51).trans (vsx_at (f := fun _ => .int .i64 (k : Int)) rfl (he ⟨8, .data⟩ (by simp) rfl) rfl)
      exact wp_val (.int .i64 (k : Int)) (by simp only [execOp, Act.eval, List.map_toArray, List.map_cons, List.map_nil]; rw [e8]; kernel_rfl) ⟨0, rfl, hW⟩
    case p12 =>
      intro D bq a' w' hk hc he hl hW
      (try dsimp only at hW)
      exact wp_val (.int .i64 0) (by kernel_rfl) ⟨0, rfl, hW⟩
    intro D bq wv hD hW
    (try dsimp only at hW)
    simp only [hD 9 (by decide), cond_true] at hW
    clear H hD
    have H := hW
    clear hW
    simp only [putAll, vsOf, Nat.reduceAdd, List.foldl_cons, List.foldl_nil, Act.put, List.setIfInBounds_toArray, List.set_cons_succ, List.set_cons_zero]
    go_wp2_with fail
    have hlv : Dd < W.heap.size := (Array.getElem?_eq_some_iff.1 HK.out).1
    have hKv : wv.heap[Dd]? = some (.deferred (some [])) := (H.block Dd hlv (by
      intro e
      simp only [List.mem_cons, List.not_mem_nil, or_false] at e
      omega)).trans HK.out
    obtain ⟨T6, e6⟩ := H.get (i := 3) rfl
    have e6' : (wv.putObj Dd (.deferred none)).heap[R6]? = some (.cells (cpC d) T6 (0, 0)) := (World.putObj_heap_other (by omega)).trans e6
    have kp : ∀ b, b < W.heap.size → b ≠ R → b ≠ Bq → b ≠ Bt → b ≠ R6 → b ≠ Dd → (wv.putObj Dd (.deferred none)).heap[b]? = W.heap[b]? := fun b hb h1 h2 h3 h4 h5 => (World.putObj_heap_other h5).trans (H.block b hb (by
      intro e
      simp only [List.mem_cons, List.not_mem_nil, or_false] at e
      rcases e with e | e | e | e
      · exact h1 e
      · exact h2 e
      · exact h3 e
      · exact h4 e))
    have hs6 : w.heap.size ≤ R6 := by simpa using HFR.out.mine (R6, _) (List.mem_of_getElem? (i := 0) rfl)
    have hM : Mem w.heap.size [] w (wv.putObj Dd (.deferred none)) [(g, cs')] := ((HFR.out.sub (List.nil_sublist _)).more HEG.out m5 (fun x hx => by cases hx)).stay H.os H.tape H.output (by have := H.size; simpa [World.putObj] using this)
      (fun b hb => kp b (by omega) (by omega) (by omega) (by omega) (by omega) (by omega)) (fun x hx => by
        simp only [List.mem_cons, List.not_mem_nil, or_false] at hx
        subst hx
        exact kp g (by omega) (fun e => r1 e.symm) (fun e => q2 e.symm) (fun e => t3 e.symm) g1 (by omega))
    refine ⟨by simp, .inl ⟨_, _, rfl, run_takeDeferred hKv, ?_⟩⟩
    exact ⟨_, res_cttt (v := .slice (some ⟨g, 0, none⟩) N cap) (u := .int .i64 (k : Int)) (x := .int .i64 0) rfl R6 rfl e6' (by kernel_rfl) (by kernel_rfl) rfl rfl rfl, k, g, cap, cs', HU.out, by rw [hd, hN], hG', hM⟩
end Go.Proofs.YtbonamhinnhlnaaGreatDoor
