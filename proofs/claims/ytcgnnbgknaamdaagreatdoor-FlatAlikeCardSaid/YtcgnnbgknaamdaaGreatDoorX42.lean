/-
  Several texts in one: what is read and written by the functions on the way to the statements. Conditions stand in each theorem.
-/
import Derived.Test.YtcgnnbgknaamdaaGreatDoorX41
namespace Go.Proofs.YtcgnnbgknaamdaaGreatDoor
open Go.RowKit
theorem falike_walk (c : Cp) (sv : Value) (l : List (Int × Bool)) (qn qk qv : Int) (i n r : Bool) (W : World) (G : GlobO W) (O : Oct c) (hr : Rd W sv l) (om : okM l) (q0 : 0 ≤ qv) (q1 : qv < 256) :
    Calls Tryz.prog 4 #[.agg (cpC c), sv, .agg #[.int .i64 qn, .int .i64 qk, .int .u8 qv, .bool i, .bool n, .bool r]] W fun e w' => e = .returned (.bool true) ∧ Below W.heap.size W w' := by
  cases h : (okB c && memB (l.take 1024).length) with
  | false => exact falike_no c sv l qn qk qv i n r W G O hr om h
  | true =>
    rw [Bool.and_eq_true] at h
    obtain ⟨_, _, _, h7, h8⟩ := (okB_iff _).1 h.1
    exact falike_yes c sv l qn qk qv i n r W G ⟨O.a0, O.a1, O.x0, O.x1, O.y0, O.y1, O.s0, O.s1, O.p0, O.p1, O.q0, O.q1, h7, h8, O.pc0, O.pc1, O.op0, O.op1, O.ad0, O.ad1, O.d0, O.d1⟩ hr om q0 q1 h.1 h.2
end Go.Proofs.YtcgnnbgknaamdaaGreatDoor
