/-
  What Parse holds between two lines: the policy that it makes, the areas with what it has read, the lines; and that each of its steps keeps the rest. Over this seat's translation; no condition.
-/
import Derived.Test.YtfceifmhlmiiiaaGreatDoorPsa
import Derived.Test.YtfceifmhlmiiiaaGreatDoorRea
import Derived.Test.YtfceifmhlmiiiaaGreatDoorTid
import Derived.Test.YtfceifmhlmiiiaaGreatDoorPck
import Derived.Lib.OwnKind
namespace Go.Proofs.YtfceifmhlmiiiaaGreatDoor
open Go.RowKit Go.Shelf

def ramB : ByteArray := ⟨#[114, 97, 109, 32]⟩
def saveB : ByteArray := ⟨#[115, 97, 118, 101, 32]⟩
def zeroPol : Array Value := #[.bool false, .bool false, .slice none 0 0, .slice none 0 0]
structure PS (w : World) (L : List ByteArray) (R T M S : Nat) (wr : World) (p q : Bool) (v1 v2 : Value) (l1 l2 : List (Int × Int)) : Prop where
  hR : wr.heap[R]? = some (.cells #[.bool false, .bool false, .slice none 0 0, .slice none 0 0] 25 (0, 0))
  hT : wr.heap[T]? = some (.cells #[.bool p, .bool q, .slice none 0 0, .slice none 0 0] 25 (0, 0))
  hM : wr.heap[M]? = some (.cells #[.string ⟨#[114, 97, 109, 32]⟩, .int .i64 2048, v1, .string ⟨#[115, 97, 118, 101, 32]⟩, .int .i64 8192, v2] 36 (0, 0))
  hS : wr.heap[S]? = some (.cells (L.map Value.string).toArray 9 (0, 0))
  o1 : OwnR wr w.heap.size v1 l1
  o2 : OwnR wr w.heap.size v2 l2
  dis : ∀ g, v1.ownBlock = some g → v2.ownBlock ≠ some g
  bel : Below w.heap.size w wr
  lR : w.heap.size ≤ R
  lT : w.heap.size ≤ T
  lM : w.heap.size ≤ M
  rt : R ≠ T
theorem kind_ne {w : World} {b base : Nat} {v : Value} {n : Nat} {xs : List Value} {c : Array Value} {t : TypeId} (ho : w.ownsRow base 42 2 v n xs) (h : w.heap[b]? = some (.cells c t (0, 0))) (ht : t ≠ 42) : some b ≠ v.ownBlock := fun e => by
  obtain ⟨c', fz, h'⟩ := Lib.ownsRow_kind ho b e.symm
  rw [h] at h'
  injection h' with h1
  injection h1 with _ h2 _
  exact ht h2
variable {w : World} {L : List ByteArray} {R T M S : Nat} {wr w2 : World} {p q : Bool} {v1 v2 : Value} {l1 l2 : List (Int × Int)}
theorem own_below {B : Nat} {v : Value} {l : List (Int × Int)} (h : OwnR wr B v l) (hb : Below wr.heap.size wr w2) : OwnR w2 B v l := by
  refine ⟨h.1.kept (row := none) ⟨hb.os, hb.tape, hb.output, hb.size, fun k hk _ => hb.block k hk⟩ ?_, h.2⟩
  cases h' : v.ownBlock <;> simp
theorem PS.below (h : PS w L R T M S wr p q v1 v2 l1 l2) (hb : Below wr.heap.size wr w2) : PS w L R T M S w2 p q v1 v2 l1 l2 where
  hR := (hb.block _ (Array.getElem?_eq_some_iff.1 h.hR).1).trans h.hR
  hT := (hb.block _ (Array.getElem?_eq_some_iff.1 h.hT).1).trans h.hT
  hM := (hb.block _ (Array.getElem?_eq_some_iff.1 h.hM).1).trans h.hM
  hS := (hb.block _ (Array.getElem?_eq_some_iff.1 h.hS).1).trans h.hS
  o1 := own_below h.o1 hb
  o2 := own_below h.o2 hb
  dis := h.dis
  bel := h.bel.next hb
  lR := h.lR
  lT := h.lT
  lM := h.lM
  rt := h.rt
theorem heap_setCell_ne (w : World) (b k o : Nat) (v : Value) (h : k ≠ b) : (w.setCell ⟨b, o, none⟩ v).heap[k]? = w.heap[k]? := Below.heap_setCell _ _ _ _ h
theorem own_setCell {B b o : Nat} {v x : Value} {l : List (Int × Int)} (h : OwnR wr B v l) (hb : some b ≠ v.ownBlock) : OwnR (wr.setCell ⟨b, o, none⟩ x) B v l := by
  refine ⟨h.1.kept (row := some b) ⟨rfl, rfl, rfl, by simp [World.setCell], fun k _ hk => heap_setCell_ne _ _ _ _ _ (fun e => hk (by simp [e]))⟩ (.inr (Ne.symm hb)), h.2⟩
theorem PS.port1 (h : PS w L R T M S wr p q v1 v2 l1 l2) (hTM : T ≠ M) (hTS : T ≠ S) : PS w L R T M S (wr.setCell ⟨T, 0, none⟩ (.bool true)) true q v1 v2 l1 l2 where
  hR := (heap_setCell_ne _ _ _ _ _ h.rt).trans h.hR
  hT := by simp [World.setCell, Array.getElem?_modify, h.hT]
  hM := (heap_setCell_ne _ _ _ _ _ (Ne.symm hTM)).trans h.hM
  hS := (heap_setCell_ne _ _ _ _ _ (Ne.symm hTS)).trans h.hS
  o1 := own_setCell h.o1 (kind_ne h.o1.1 h.hT (by decide))
  o2 := own_setCell h.o2 (kind_ne h.o2.1 h.hT (by decide))
  dis := h.dis
  bel := h.bel.setCell (p := ⟨T, 0, none⟩) h.lT _
  lR := h.lR
  lT := h.lT
  lM := h.lM
  rt := h.rt
theorem PS.port2 (h : PS w L R T M S wr p q v1 v2 l1 l2) (hTM : T ≠ M) (hTS : T ≠ S) : PS w L R T M S (wr.setCell ⟨T, 1, none⟩ (.bool true)) p true v1 v2 l1 l2 where
  hR := (heap_setCell_ne _ _ _ _ _ h.rt).trans h.hR
  hT := by simp [World.setCell, Array.getElem?_modify, h.hT]
  hM := (heap_setCell_ne _ _ _ _ _ (Ne.symm hTM)).trans h.hM
  hS := (heap_setCell_ne _ _ _ _ _ (Ne.symm hTS)).trans h.hS
  o1 := own_setCell h.o1 (kind_ne h.o1.1 h.hT (by decide))
  o2 := own_setCell h.o2 (kind_ne h.o2.1 h.hT (by decide))
  dis := h.dis
  bel := h.bel.setCell (p := ⟨T, 1, none⟩) h.lT _
  lR := h.lR
  lT := h.lT
  lM := h.lM
  rt := h.rt
theorem PS.ne_TM (h : PS w L R T M S wr p q v1 v2 l1 l2) : T ≠ M := fun e => by
  have := h.hT; rw [e, h.hM] at this; injection this with h1; injection h1 with _ h2 _; revert h2; decide
theorem PS.ne_TS (h : PS w L R T M S wr p q v1 v2 l1 l2) : T ≠ S := fun e => by
  have := h.hT; rw [e, h.hS] at this; injection this with h1; injection h1 with _ h2 _; revert h2; decide
theorem PS.ne_RM (h : PS w L R T M S wr p q v1 v2 l1 l2) : R ≠ M := fun e => by
  have := h.hR; rw [e, h.hM] at this; injection this with h1; injection h1 with _ h2 _; revert h2; decide
theorem PS.ne_SM (h : PS w L R T M S wr p q v1 v2 l1 l2) : S ≠ M := fun e => by
  have := h.hS; rw [e, h.hM] at this; injection this with h1; injection h1 with _ h2 _; revert h2; decide
theorem own_lt {B g : Nat} {v : Value} {l : List (Int × Int)} (h : OwnR wr B v l) (hg : v.ownBlock = some g) : B ≤ g ∧ g < wr.heap.size := by
  rcases h.1.2 with ⟨rfl, _⟩ | ⟨g', cap, cur, rfl, hb, hgg, _⟩
  · simp [Value.ownBlock] at hg
  · obtain rfl : g' = g := by simpa [Value.ownBlock] using hg
    exact ⟨hb, (Array.getElem?_eq_some_iff.1 hgg).1⟩
theorem own_snoc {B : Nat} {v : Value} {l : List (Int × Int)} {r : Int × Int} (h : w2.ownsRow B 42 2 v (l.length + 1) (flatR l ++ [.int .i64 r.1, .int .i64 r.2])) : OwnR w2 B v (l ++ [r]) := by
  refine ⟨by rw [flatR_append, List.length_append]; exact h, ?_⟩
  obtain ⟨g', cap', rfl⟩ := ownsRow_succ h
  simp
theorem PS.app1 (h : PS w L R T M S wr p q v1 v2 l1 l2) {v' : Value} {r : Int × Int} (ho : w2.ownsRow w.heap.size 42 2 v' (l1.length + 1) (flatR l1 ++ [.int .i64 r.1, .int .i64 r.2])) (hg : wr.grownBy w2 v1.ownBlock) (hw : v'.ownBlock = v1.ownBlock ∨ v'.ownBlock = some wr.heap.size) :
    PS w L R T M S (w2.setCell ⟨M, 2, none⟩ v') p q v' v2 (l1 ++ [r]) l2 := by
  have hk {b : Nat} {c : Array Value} {t : TypeId} (hb : wr.heap[b]? = some (.cells c t (0, 0))) (ht : t ≠ 42) : w2.heap[b]? = some (.cells c t (0, 0)) :=
    (hg.block b (Array.getElem?_eq_some_iff.1 hb).1 (kind_ne h.o1.1 hb ht)).trans hb
  have hM := hk h.hM (by decide)
  have ho2 : OwnR w2 w.heap.size v2 l2 := ⟨h.o2.1.kept hg (by
    cases e2 : v2.ownBlock with
    | none => exact .inl rfl
    | some g2 => exact .inr fun e => h.dis g2 e.symm e2), h.o2.2⟩
  refine ⟨(heap_setCell_ne _ _ _ _ _ h.ne_RM).trans (hk h.hR (by decide)), (heap_setCell_ne _ _ _ _ _ h.ne_TM).trans (hk h.hT (by decide)), by simp [World.setCell, Array.getElem?_modify, hM], (heap_setCell_ne _ _ _ _ _ h.ne_SM).trans (hk h.hS (by decide)), own_setCell (own_snoc ho) (kind_ne ho hM (by decide)), own_setCell ho2 (kind_ne ho2.1 hM (by decide)), fun g e1 e2 => ?_, ?_, h.lR, h.lT, h.lM, h.rt⟩
  · rcases hw with hw | hw
    · exact h.dis g (hw ▸ e1) e2
    · have := (own_lt h.o2 e2).2
      rw [hw] at e1
      injection e1 with e1
      omega
  · exact (h.bel.grown hg h.bel.size (fun k hk => (own_lt h.o1 hk).1)).setCell (p := ⟨M, 2, none⟩) h.lM _
theorem PS.app2 (h : PS w L R T M S wr p q v1 v2 l1 l2) {v' : Value} {r : Int × Int} (ho : w2.ownsRow w.heap.size 42 2 v' (l2.length + 1) (flatR l2 ++ [.int .i64 r.1, .int .i64 r.2])) (hg : wr.grownBy w2 v2.ownBlock) (hw : v'.ownBlock = v2.ownBlock ∨ v'.ownBlock = some wr.heap.size) :
    PS w L R T M S (w2.setCell ⟨M, 5, none⟩ v') p q v1 v' l1 (l2 ++ [r]) := by
  have hk {b : Nat} {c : Array Value} {t : TypeId} (hb : wr.heap[b]? = some (.cells c t (0, 0))) (ht : t ≠ 42) : w2.heap[b]? = some (.cells c t (0, 0)) :=
    (hg.block b (Array.getElem?_eq_some_iff.1 hb).1 (kind_ne h.o2.1 hb ht)).trans hb
  have hM := hk h.hM (by decide)
  have ho1 : OwnR w2 w.heap.size v1 l1 := ⟨h.o1.1.kept hg (by
    cases e2 : v1.ownBlock with
    | none => exact .inl rfl
    | some g2 => exact .inr fun e => h.dis g2 e2 e.symm), h.o1.2⟩
  refine ⟨(heap_setCell_ne _ _ _ _ _ h.ne_RM).trans (hk h.hR (by decide)), (heap_setCell_ne _ _ _ _ _ h.ne_TM).trans (hk h.hT (by decide)), by simp [World.setCell, Array.getElem?_modify, hM], (heap_setCell_ne _ _ _ _ _ h.ne_SM).trans (hk h.hS (by decide)), own_setCell ho1 (kind_ne ho1.1 hM (by decide)), own_setCell (own_snoc ho) (kind_ne ho hM (by decide)), fun g e1 e2 => ?_, ?_, h.lR, h.lT, h.lM, h.rt⟩
  · rcases hw with hw | hw
    · exact h.dis g e1 (hw ▸ e2)
    · have := (own_lt h.o1 e1).2
      rw [hw] at e2
      injection e2 with e2
      omega
  · exact (h.bel.grown hg h.bel.size (fun k hk => (own_lt h.o2 hk).1)).setCell (p := ⟨M, 5, none⟩) h.lM _
end Go.Proofs.YtfceifmhlmiiiaaGreatDoor
