/-
  A row of results in a block known whole, and what is appended to it. Over this seat's translation; of at most a thousand results.
-/
import Derived.Test.YtckfjiacnjjopaaAmx
import Derived.Test.YtckfjiacnjjopaaAcq
import Derived.Test.YtckfjiacnjjopaaApp
namespace Go.Proofs.Ytckfjiacnjjopaa
open Go.RowKit
set_option linter.unusedSimpArgs false
set_option linter.unusedVariables false
set_option maxRecDepth 20000

/-- A result's four cells; a list's. -/
def resL (r : Res) : List Value := [.int .u8 r.1, .bool r.2.1, .int .u8 r.2.2.1, .int .u8 r.2.2.2]
def flatRes : List Res → List Value
  | [] => []
  | r :: l => resL r ++ flatRes l
theorem flatRes_len (l : List Res) : (flatRes l).length = l.length * 4 := by
  induction l with
  | nil => rfl
  | cons r l ih => simp only [flatRes, List.length_append, ih, List.length_cons, resL, List.length_nil]; omega
theorem flatRes_append (l m : List Res) : flatRes (l ++ m) = flatRes l ++ flatRes m := by
  induction l with
  | nil => rfl
  | cons r l ih => simp [flatRes, ih]
theorem flatRes_one (l : List Res) : ∀ u ∈ flatRes l, u.oneCell' = true := by
  induction l with
  | nil => intro u hu; cases hu
  | cons r l ih =>
    intro u hu
    simp only [flatRes, List.mem_append, resL, List.mem_cons, List.not_mem_nil, or_false] at hu
    rcases hu with (rfl | rfl | rfl | rfl) | hu
    · rfl
    · rfl
    · rfl
    · rfl
    · exact ih u hu
theorem flatRes_get (l : List Res) : ∀ k, k < l.length → ∀ j, j < 4 → (flatRes l)[k * 4 + j]? = (resL (l.getD k dR))[j]? := by
  induction l with
  | nil => intro k hk; simp at hk
  | cons r l ih =>
    intro k hk j hj
    cases k with
    | zero =>
      rw [show 0 * 4 + j = j by omega, flatRes, List.getElem?_append_left (by simp [resL]; omega)]
      rfl
    | succ k =>
      have e : (k + 1) * 4 + j = (resL r).length + (k * 4 + j) := by simp [resL]; omega
      rw [e, flatRes, List.getElem?_append_right (by omega), show (resL r).length + (k * 4 + j) - (resL r).length = k * 4 + j by omega, ih k (by simpa using hk) j hj]
      rfl
/-- A row's cells: the first ones are the results'. -/
structure RowC (cs : Array Value) (cap : Nat) (L : List Res) : Prop where
  size : cs.size = cap * 4
  le : L.length ≤ cap
  max : cap ≤ maxLen
  at_ : ∀ (j : Nat) (u : Value), (flatRes L)[j]? = some u → cs[j]? = some u
theorem info_result : (Try.prog.info? 46).map (fun i => (i.zero, i.size, i.bytes)) = some (some (.agg #[.int .u8 0, .bool false, .int .u8 0, .int .u8 0]), 4, 4) := by kernel_rfl
theorem run_room_any {P : Program} (w : World) (t ty e : TypeId) (i : TypeInfo) (ht : P.underlying t = some (.slice e)) (hi : P.info? e = some i)
    (g sLen sCap : Nat) (cur : Array Value) (T : TypeId) (hg : w.heap[g]? = some (.cells cur T (0, 0)))
    (a : Addr) (m c : Nat) (news : List Value) (hl : news.length = m * i.size) (hnews : ∀ j u, news[j]? = some u → w.cell? (a.add j) = some u) (h1 : ∀ u ∈ news, u.oneCell' = true)
    (hroom : sLen + m ≤ sCap) (hfit : sLen * i.size + news.length ≤ cur.size) :
    (Builtin.append_ #[t, t] ty #[.slice (some ⟨g, 0, none⟩) sLen sCap, .slice (some a) m c]).run P w =
      .ok (.slice (some ⟨g, 0, none⟩) (sLen + m) sCap) (w.setRow g (cur.toList.take (sLen * i.size) ++ news ++ cur.toList.drop (sLen * i.size + news.length)).toArray) := by
  have hf := run_firstCells_some (P := P) w i.size m a m c news hl hnews
  have hst := run_storeCells_at P g (sLen * i.size) T news 0 cur w hg (by simpa using hfit) h1
  simp only [Nat.add_zero] at hst
  simp [Builtin.append_, run_underlying ht, sizeOf, typeInfo, hi, Builtin.lenOf, hroom, hf, Addr.add_lit, hst]
section
variable {n : Nat} {X : List Nat} {w0 w : World} {l : List (Nat × Array Value)} {Rr Ro : Nat} {cs : Array Value}
theorem row_cells {M : List Res} (H : Mem n X w0 w ((Rr, (flatRes M).toArray) :: l)) : ∀ j u, (flatRes M)[j]? = some u → w.cell? ((⟨Rr, 0, none⟩ : Addr).add j) = some u := by
  intro j u hu
  rw [addr_add, Nat.zero_add]
  exact H.cell (i := 0) rfl (by simpa using hu)
theorem mem_app0 (ty : TypeId) (M : List Res) (m : Nat) (hm : M.length = m) (h0 : 0 < m) (hs : m ≤ 1000) (H : Mem n X w0 w ((Rr, (flatRes M).toArray) :: l)) :
    ∃ Rn cs' cap' w', (Builtin.append_ #[42, 42] ty #[.slice none 0 0, .slice (some ⟨Rr, 0, none⟩) m m]).run Try.prog w = .ok (.slice (some ⟨Rn, 0, none⟩) m cap') w' ∧ Mem n X w0 w' ((Rn, cs') :: l) ∧ RowC cs' cap' M := by
  obtain ⟨i0, hi, hz0, hz1, hz2⟩ := info_parts info_result
  have hl : (flatRes M).length = m * i0.size := by rw [flatRes_len, hm, hz1]
  have h := run_append_nil (P := Try.prog) w 42 ty 46 i0 _ Try.underlying42 hi hz0 ⟨Rr, 0, none⟩ m m (flatRes M) hl (row_cells H) h0 (by omega) (by rw [hz2]; omega)
  refine ⟨_, _, _, _, h, ((H.add ((Below.refl _ w).drew.alloc (Nat.le_refl _) _) (Nat.le_refl _) (heap_alloc_new w.drew _)).sub (List.Sublist.cons_cons _ (List.Sublist.cons _ (List.Sublist.refl _)))), ?_, ?_, ?_, ?_⟩
  · have hge := grownCap_ge w m 0 46
    simp only [Array.size_append, List.size_toArray, size_zeroCells, flatRes_len, hm]
    show m * 4 + (_ - m) * 4 = _
    omega
  · rw [hm]; exact grownCap_ge w m 0 _
  · exact grownCap_le_maxLen w m 0 _ (by unfold maxLen; omega)
  · intro j u hu
    have hj : j < (flatRes M).length := (List.getElem?_eq_some_iff.1 hu).1
    rw [Array.getElem?_append_left (by simpa using hj)]
    simpa using hu
theorem mem_app (ty : TypeId) (k cap : Nat) (L M : List Res) (m : Nat) (hk : L.length = k) (hm : M.length = m) (h0 : 0 < m) (hs : k + m ≤ 1000) (hC : RowC cs cap L) (H : Mem n X w0 w ((Rr, (flatRes M).toArray) :: (Ro, cs) :: l)) :
    ∃ Rn cs' cap' w', (Builtin.append_ #[42, 42] ty #[.slice (some ⟨Ro, 0, none⟩) k cap, .slice (some ⟨Rr, 0, none⟩) m m]).run Try.prog w = .ok (.slice (some ⟨Rn, 0, none⟩) (k + m) cap') w' ∧ Mem n X w0 w' ((Rn, cs') :: l) ∧ RowC cs' cap' (L ++ M) := by
  obtain ⟨i0, hi, hz0, hz1, hz2⟩ := info_parts info_result
  have hl : (flatRes M).length = m * i0.size := by rw [flatRes_len, hm, hz1]
  have hlL : (flatRes L).length = k * 4 := by rw [flatRes_len, hk]
  have hlM : (flatRes M).length = m * 4 := by rw [flatRes_len, hm]
  by_cases hr : k + m ≤ cap
  · obtain ⟨T, hT⟩ := H.get (i := 1) rfl
    have hsz := hC.size
    have h := run_room_any (P := Try.prog) w 42 ty 46 i0 Try.underlying42 hi Ro k cap cs T hT ⟨Rr, 0, none⟩ m m (flatRes M) hl (row_cells H) (flatRes_one M) hr (by rw [hz1, hlM, hsz]; omega)
    refine ⟨_, _, _, _, h, (H.setRow (i := 1) rfl _).sub (List.Sublist.cons _ (List.Sublist.refl _)), ?_, ?_, hC.max, ?_⟩
    · have hcl : cs.toList.length = cap * 4 := by simpa using hsz
      simp only [List.size_toArray, List.length_append, List.length_take, List.length_drop, hlM, hz1, hcl]
      omega
    · rw [List.length_append, hk, hm]; exact hr
    · intro j u hu
      have hcl : cs.toList.length = cap * 4 := by simpa using hsz
      rw [flatRes_append] at hu
      rw [hz1, List.getElem?_toArray, List.append_assoc]
      have htk : (cs.toList.take (k * 4)).length = k * 4 := by rw [List.length_take]; omega
      by_cases hj : j < k * 4
      · rw [List.getElem?_append_left (by omega)] at hu ⊢
        rw [List.getElem?_take, if_pos hj]
        have := hC.at_ j u hu
        simpa using this
      · rw [List.getElem?_append_right (by omega)] at hu ⊢
        have hj2 : j - (flatRes L).length < (flatRes M).length := (List.getElem?_eq_some_iff.1 hu).1
        rw [htk]
        rw [hlL] at hu hj2
        rw [List.getElem?_append_left hj2]
        exact hu
  · have holds : ∀ j u, (flatRes L)[j]? = some u → w.cell? ((⟨Ro, 0, none⟩ : Addr).add j) = some u := fun j u hu => by
      rw [addr_add, Nat.zero_add]
      exact H.cell (i := 1) rfl (hC.at_ j u hu)
    have h := run_append_grow (P := Try.prog) w 42 ty 46 i0 _ Try.underlying42 hi hz0 ⟨Ro, 0, none⟩ k cap (flatRes L) (by rw [hlL, hz1]) holds ⟨Rr, 0, none⟩ m m (flatRes M) hl (row_cells H) (by omega) (by omega) (growslice_fits (by omega) (by rw [hz2]; omega))
    have hge := grownCap_ge w (k + m) cap 46
    refine ⟨_, _, _, _, h, ((H.add ((Below.refl _ w).drew.alloc (Nat.le_refl _) _) (Nat.le_refl _) (heap_alloc_new w.drew _)).sub (List.Sublist.cons_cons _ (List.Sublist.cons _ (List.Sublist.cons _ (List.Sublist.refl _))))), ?_, ?_, ?_, ?_⟩
    · simp only [Array.size_append, List.size_toArray, size_zeroCells, hlL, hlM]
      show k * 4 + m * 4 + (_ - (k + m)) * 4 = _
      omega
    · rw [List.length_append, hk, hm]; exact hge
    · exact grownCap_le_maxLen w (k + m) cap _ (by unfold maxLen; omega)
    · intro j u hu
      rw [flatRes_append] at hu
      have hj : j < (flatRes L ++ flatRes M).length := (List.getElem?_eq_some_iff.1 hu).1
      rw [Array.getElem?_append_left (by simpa using hj)]
      simpa using hu
end
section
variable {ops : Array Oper} {rest : List Oper} {o : Oper} {a : Act} {w : World} {Q : Exit → Act → World → Prop} {n : Nat} {X : List Nat} {w0 : World} {l : List (Nat × Array Value)} {Rr Ro : Nat} {cs : Array Value}
/-- One result is appended: to none, and to some. -/
theorem wpList_mapp0 (hgd : Region.wanted o (yielded ops a.tmps) = true) (s x : Operand) (ho : o.op = .call { callee := .builtin .append, args := #[s, x], argTypes := #[42, 42] }) (v P S : Int) (b : Bool) (H : Mem n X w0 w ((Rr, #[.int .u8 v, .bool b, .int .u8 P, .int .u8 S]) :: l))
    (hs : a.eval s = .slice none 0 0) (hx : a.eval x = .slice (some ⟨Rr, 0, none⟩) 1 1)
    (h : ∀ Rn cs' cap' w1, Mem n X w0 w1 ((Rn, cs') :: l) → RowC cs' cap' [(v, b, P, S)] → wpList Try.prog ops Q rest (a.put o.dst (.slice (some ⟨Rn, 0, none⟩) 1 cap')) w1) : wpList Try.prog ops Q (o :: rest) a w :=
  wpList_want' hgd fun _ hK => by
    obtain ⟨Rn, cs', cap', w', hr, h2, h3⟩ := mem_app0 o.type [(v, b, P, S)] 1 rfl (by decide) (by decide) H
    unfold Oper.wp execOp
    simp only [ho, resolve, invoke, builtin, Sem.run_bind, Sem.run_pure, Result.andThen_ok, List.map_toArray, List.map_cons, List.map_nil, hs, hx, hr]
    exact hK _ _ (h _ _ _ _ h2 h3)
theorem wpList_mapp (hgd : Region.wanted o (yielded ops a.tmps) = true) (s x : Operand) (ho : o.op = .call { callee := .builtin .append, args := #[s, x], argTypes := #[42, 42] }) (v P S : Int) (b : Bool) (k cap : Nat) (L : List Res) (hC : RowC cs cap L) (H : Mem n X w0 w ((Rr, #[.int .u8 v, .bool b, .int .u8 P, .int .u8 S]) :: (Ro, cs) :: l))
    (hs : a.eval s = .slice (some ⟨Ro, 0, none⟩) k cap) (hx : a.eval x = .slice (some ⟨Rr, 0, none⟩) 1 1) (hk : L.length = k) (hlt : k + 1 ≤ 1000) (k' : Nat) (hk' : k + 1 = k')
    (h : ∀ Rn cs' cap' w1, Mem n X w0 w1 ((Rn, cs') :: l) → RowC cs' cap' (L ++ [(v, b, P, S)]) → wpList Try.prog ops Q rest (a.put o.dst (.slice (some ⟨Rn, 0, none⟩) k' cap')) w1) : wpList Try.prog ops Q (o :: rest) a w :=
  wpList_want' hgd fun _ hK => by
    subst hk'
    obtain ⟨Rn, cs', cap', w', hr, h2, h3⟩ := mem_app o.type k cap L [(v, b, P, S)] 1 hk rfl (by decide) hlt hC H
    unfold Oper.wp execOp
    simp only [ho, resolve, invoke, builtin, Sem.run_bind, Sem.run_pure, Result.andThen_ok, List.map_toArray, List.map_cons, List.map_nil, hs, hx, hr]
    exact hK _ _ (h _ _ _ _ h2 h3)
end
theorem build_rs1 (v : Int) (x : Bool) (p s : Int) (w : World) : (Instr.buildSlice 42 1 #[(0, .agg #[.int .u8 v, .bool x, .int .u8 p, .int .u8 s])]).run Try.prog w = .ok (.slice (some ⟨w.heap.size, 0, none⟩) 1 1) (w.alloc (.cells #[.int .u8 v, .bool x, .int .u8 p, .int .u8 s] 46)) := by kernel_rfl
theorem build_rs3 (v : Int) (x : Bool) (p s : Int) (v2 : Int) (x2 : Bool) (p2 s2 : Int) (v3 : Int) (x3 : Bool) (p3 s3 : Int) (w : World) : (Instr.buildSlice 42 3 #[(0, .agg #[.int .u8 v, .bool x, .int .u8 p, .int .u8 s]), (1, .agg #[.int .u8 v2, .bool x2, .int .u8 p2, .int .u8 s2]), (2, .agg #[.int .u8 v3, .bool x3, .int .u8 p3, .int .u8 s3])]).run Try.prog w = .ok (.slice (some ⟨w.heap.size, 0, none⟩) 3 3) (w.alloc (.cells #[.int .u8 v, .bool x, .int .u8 p, .int .u8 s, .int .u8 v2, .bool x2, .int .u8 p2, .int .u8 s2, .int .u8 v3, .bool x3, .int .u8 p3, .int .u8 s3] 46)) := by kernel_rfl
end Go.Proofs.Ytckfjiacnjjopaa
