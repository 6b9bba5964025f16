/-
  The builtin copy from a text into a block of one's own, as far as it goes; octets as cells. No condition on the program.
-/
import Derived.Test.YtaljenjnedijgaaHcb
import Derived.Laws.CopyRow
import Derived.Laws.CopyOwn
import Derived.Laws.BytesArg
namespace Go.Proofs.Ytaljenjnedijgaa
open Go.RowKit

def octCells (l : List UInt8) : List Value := l.map fun b => Value.int .u8 (b.toNat : Int)
theorem octCells_length (l : List UInt8) : (octCells l).length = l.length := by simp [octCells]
theorem octCells_one (l : List UInt8) : ∀ v ∈ octCells l, v.oneCell' = true := by
  intro v hv
  simp only [octCells, List.mem_map] at hv
  obtain ⟨b, _, rfl⟩ := hv
  rfl
theorem run_copy_str {P : Program} (w : World) (dT sT ty elem : TypeId) (g n : Nat) (s : ByteArray) (cur : Array Value) (t : TypeId)
    (hu : P.underlying dT = some (.slice elem)) (hs : (P.info? elem).map (·.size) = some 1) (hg : w.heap[g]? = some (.cells cur t (0, 0))) (hn : cur.size = n) :
    (Builtin.copy_ #[dT, sT] ty #[.slice (some ⟨g, 0, none⟩) n n, .string s]).run P w =
      .ok (goInt ((Nat.min s.size n : Nat) : Int)) (w.setRow g (octCells (s.data.toList.take (Nat.min s.size n)) ++ cur.toList.drop (Nat.min s.size n)).toArray) := by
  have hsz : s.data.toList.length = s.size := by simp
  have hk : Nat.min s.size n ≤ n := Nat.min_le_right _ _
  have hk' : Nat.min s.size n ≤ s.size := Nat.min_le_left _ _
  obtain ⟨k, hkk⟩ : ∃ k, Nat.min s.size n = k := ⟨_, rfl⟩
  rw [hkk] at hk hk' ⊢
  have hlen : (octCells (s.data.toList.take k)).length = k := by rw [octCells_length, List.length_take, hsz]; omega
  have hst := run_storeCells_at P g 0 t (octCells (s.data.toList.take k)) 0 cur w hg (by rw [hlen]; omega) (octCells_one _)
  rw [hlen] at hst
  simp only [Nat.add_zero, Nat.zero_add, List.take_zero, List.nil_append] at hst
  have htk : List.take k (List.map (fun b : UInt8 => Value.int IntKind.u8 (b.toNat : Int)) s.data.toList) = octCells (s.data.toList.take k) := by
    unfold octCells
    rw [List.map_take]
  cases hq : P.info? elem with
  | none => simp [hq] at hs
  | some i =>
    simp [Builtin.copy_, run_underlying hu, Builtin.lenOf, Builtin.firstCells, sizeOf, typeInfo, hq, hkk]
    rw [htk, hst]
    simp [Result.andThen]
theorem wp_copy_known {P : Program} (w : World) {o : Oper} {a : Act} {K : Act → World → Prop} {Q : Exit → Act → World → Prop} (d s : Operand) (t t' : TypeId)
    (ho : o.op = .call { callee := .builtin .copy, args := #[d, s], argTypes := #[t, t'] }) (v u : Value) (hd : a.eval d = v) (hs : a.eval s = u) {v' : Value} {w' : World}
    (hr : (Builtin.copy_ #[t, t'] o.type #[v, u]).run P w = .ok v' w') (h : K (a.put o.dst v') w') : o.wp P a w K Q := by
  unfold Oper.wp execOp
  simp only [ho, resolve, invoke, builtin, Sem.run_bind, Sem.run_pure, Result.andThen_ok, List.map_toArray, List.map_cons, List.map_nil, hd, hs, hr]
  exact h
theorem wpList_copy_known {P : Program} (w : World) {ops : Array Oper} {rest : List Oper} {o : Oper} {a : Act} {Q : Exit → Act → World → Prop} (hgd : o.guard = none) (d s : Operand) (t t' : TypeId)
    (ho : o.op = .call { callee := .builtin .copy, args := #[d, s], argTypes := #[t, t'] }) (v u : Value) (hd : a.eval d = v) (hs : a.eval s = u) {v' : Value} {w' : World}
    (hr : (Builtin.copy_ #[t, t'] o.type #[v, u]).run P w = .ok v' w') (h : wpList P ops Q rest (a.put o.dst v') w') : wpList P ops Q (o :: rest) a w :=
  wpList_plain hgd fun _ hK => wp_copy_known w d s t t' ho v u hd hs hr (hK _ _ h)

/-- Block R holds just these sixteen octets. -/
structure HD (w : World) (R : Nat) (x : Nat → Int) : Prop where
  obj : w.heap[R]? = some (.cells #[.int .u8 (x 0), .int .u8 (x 1), .int .u8 (x 2), .int .u8 (x 3), .int .u8 (x 4), .int .u8 (x 5), .int .u8 (x 6), .int .u8 (x 7), .int .u8 (x 8), .int .u8 (x 9), .int .u8 (x 10), .int .u8 (x 11), .int .u8 (x 12), .int .u8 (x 13), .int .u8 (x 14), .int .u8 (x 15)] 45)
section
variable {w w' : World} {R : Nat} {x : Nat → Int}
theorem HD.lt (h : HD w R x) : R < w.heap.size := (Array.getElem?_eq_some_iff.1 h.obj).1
theorem HD.at (h : HD w R x) : ∀ i, i < 16 → w.cell? ⟨R, i, none⟩ = some (.int .u8 (x i)) := by
  intro i hi
  rw [Lib.cell_of_heap h.obj]
  match i, hi with
  | 0, _ | 1, _ | 2, _ | 3, _ | 4, _ | 5, _ | 6, _ | 7, _ | 8, _ | 9, _ | 10, _ | 11, _ | 12, _ | 13, _ | 14, _ | 15, _ => rfl
  | n + 16, h => exact absurd h (by omega)
theorem HD.free (h : HD w R x) (i : Nat) : w.frozen? ⟨R, i, none⟩ = false := by simp [World.frozen?, show w.heap[R]? = _ from h.obj]
theorem HD.next (h : HD w R x) (hb : Below w.heap.size w w') : HD w' R x := ⟨(hb.block R h.lt).trans h.obj⟩
end
theorem HD.zero (w : World) : HD (w.alloc (.cells #[.int .u8 0, .int .u8 0, .int .u8 0, .int .u8 0, .int .u8 0, .int .u8 0, .int .u8 0, .int .u8 0, .int .u8 0, .int .u8 0, .int .u8 0, .int .u8 0, .int .u8 0, .int .u8 0, .int .u8 0, .int .u8 0] 45)) w.heap.size (fun _ => 0) := ⟨World.alloc_heap_new w _⟩
theorem HD.alloc {w : World} {R : Nat} {x : Nat → Int} (h : HD w R x) (o : Obj) : HD (w.alloc o) R x := ⟨(Lib.alloc_old w o _ h.lt).trans h.obj⟩
theorem HD.keep {w w' : World} {R : Nat} {x : Nat → Int} (h : HD w R x) (hk : w'.heap[R]? = w.heap[R]?) : HD w' R x := ⟨hk.trans h.obj⟩
set_option maxHeartbeats 1000000 in
theorem below_set16 {n : Nat} {w w' : World} {R : Nat} (h : Below n w w') (hr : n ≤ R) (x : Nat → Int) : Below n w ((((((((((((((((w'.setCell ⟨R, 0, none⟩ (.int .u8 (x 0))).setCell ⟨R, 1, none⟩ (.int .u8 (x 1))).setCell ⟨R, 2, none⟩ (.int .u8 (x 2))).setCell ⟨R, 3, none⟩ (.int .u8 (x 3))).setCell ⟨R, 4, none⟩ (.int .u8 (x 4))).setCell ⟨R, 5, none⟩ (.int .u8 (x 5))).setCell ⟨R, 6, none⟩ (.int .u8 (x 6))).setCell ⟨R, 7, none⟩ (.int .u8 (x 7))).setCell ⟨R, 8, none⟩ (.int .u8 (x 8))).setCell ⟨R, 9, none⟩ (.int .u8 (x 9))).setCell ⟨R, 10, none⟩ (.int .u8 (x 10))).setCell ⟨R, 11, none⟩ (.int .u8 (x 11))).setCell ⟨R, 12, none⟩ (.int .u8 (x 12))).setCell ⟨R, 13, none⟩ (.int .u8 (x 13))).setCell ⟨R, 14, none⟩ (.int .u8 (x 14))).setCell ⟨R, 15, none⟩ (.int .u8 (x 15))) := by
  have st : ∀ {v : World}, Below n w v → ∀ (i : Nat) (y : Value), Below n w (v.setCell ⟨R, i, none⟩ y) := fun h i y => h.setCell (p := ⟨R, i, none⟩) hr y
  exact st (st (st (st (st (st (st (st (st (st (st (st (st (st (st (st h 0 _) 1 _) 2 _) 3 _) 4 _) 5 _) 6 _) 7 _) 8 _) 9 _) 10 _) 11 _) 12 _) 13 _) 14 _) 15 _
theorem octs16 (s : ByteArray) (h : 16 ≤ s.size) : octCells (s.data.toList.take 16) = [.int .u8 (oct s 0), .int .u8 (oct s 1), .int .u8 (oct s 2), .int .u8 (oct s 3), .int .u8 (oct s 4), .int .u8 (oct s 5), .int .u8 (oct s 6), .int .u8 (oct s 7), .int .u8 (oct s 8), .int .u8 (oct s 9), .int .u8 (oct s 10), .int .u8 (oct s 11), .int .u8 (oct s 12), .int .u8 (oct s 13), .int .u8 (oct s 14), .int .u8 (oct s 15)] := by
  have hl : s.data.toList.length = s.size := by simp
  have key : ∀ l : List UInt8, 16 ≤ l.length → octCells (l.take 16) = (List.range 16).map fun i => Value.int .u8 ((l.getD i 0).toNat : Int) := fun l hl => by
    apply List.ext_getElem
    · simp [octCells]; omega
    · intro i h1 h2
      simp [octCells] at h1 h2 ⊢
      rw [List.getElem?_eq_getElem (by omega)]
      rfl
  rw [key _ (by omega)]
  rfl
end Go.Proofs.Ytaljenjnedijgaa
