/-
  The iterator that joins ranges that rise, and package cells' Tidy: what comes back are the ranges that may be, with just the same places. Over this seat's translation; of at most 100000 ranges.
-/
import Derived.Test.YtdafilfnmdfacaaSrt
import Derived.Sort.QuietTacIn
import Derived.BigRegionIn
namespace Go.Proofs.Ytdafilfnmdfacaa
open Go.RowKit Go.Shelf
attribute [local go_sem] Oper.semAt_some

theorem abides_below {B : Nat} {β : Type} {J : β → World → Prop} (h : AbidesFrom B J) {s : β} {W W' : World} (hb : Below W.heap.size W W') (hs : J s W) : J s W' :=
  h s W W' none hs ⟨hb.os, hb.tape, hb.output, hb.size, fun k hk _ => hb.block k hk⟩ (fun r e => by cases e)
theorem BoxR.lt {W : World} {B : Nat} {x : Int × Int} (h : BoxR W B x) : B < W.heap.size := (Array.getElem?_eq_some_iff.1 h).1
theorem BoxR.free {W : World} {B : Nat} {x : Int × Int} (h : BoxR W B x) (i : Nat) : W.frozen? ⟨B, i, none⟩ = false := by simp [World.frozen?, show W.heap[B]? = _ from h]
theorem BoxR.set1 {W : World} {B : Nat} {x : Int × Int} (y : Int) (h : BoxR W B x) : BoxR (W.setCell ⟨B, 1, none⟩ (.int .i64 y)) B (x.1, y) := by
  obtain ⟨hlt, hk⟩ := Array.getElem?_eq_some_iff.1 h
  show (W.heap.modify B _)[B]? = _
  rw [Array.getElem?_eq_getElem (by rw [Array.size_modify]; exact hlt), Array.getElem_modify_self, hk]
  rfl
theorem BoxR.drewN {W : World} {B : Nat} {x : Int × Int} (h : BoxR W B x) (n : Nat) : BoxR (W.drewN n) B x := h

theorem Rg.slice {w : World} {v : Value} {l : List (Int × Int)} (h : Rg w v l) : ∃ a cap, v = .slice a l.length cap := by
  obtain ⟨a, cap, hv, _⟩ := h
  exact ⟨a, cap, hv⟩

end Go.Proofs.Ytdafilfnmdfacaa
