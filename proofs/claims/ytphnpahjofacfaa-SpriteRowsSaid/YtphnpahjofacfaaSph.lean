/-
  Package bits' Reverse8, package sprite's Unit. Over this seat's translation; no condition. (Written by gen_sp.py.)
-/
import Derived.Test.YtphnpahjofacfaaSpg
namespace Go.Proofs.Ytphnpahjofacfaa
open Go.RowKit Go.Sort
set_option linter.unusedSimpArgs false
set_option linter.unusedVariables false
set_option maxRecDepth 20000

set_option maxHeartbeats 2000000 in
theorem rev8_ct (v : BitVec 8) (w : World) : Calls Try.prog 30 #[.int .u8 (w8 v)] w fun e w' => e = .returned (.int .u8 (w8 v.reverse)) ∧ Below w.heap.size w w' := by
  have hv := w8_lt v
  go_enter Try.func30, Try.ntmps30
  go_wp2
  go_ret
  refine ⟨?_, Below.refl _ _⟩
  show Ending.returned (.int .u8 _) = _
  congr 2
  clear w
  revert v
  decide +kernel
theorem alloc_unit (w : World) : (Instr.alloc 36 true (.tuple #[])).run Try.prog w = .ok (.pointer (some ⟨w.heap.size, 0, none⟩)) (w.alloc (.cells (unC un0) 36)) := by kernel_rfl
theorem build_unit0 (w : World) : (Instr.build 36 #[]).run Try.prog w = .ok (.agg (unC un0)) w := by kernel_rfl
def Un.set (u : Un) (off : Nat) (x : BitVec 8) : Option Un := match off with
  | 1 => some { u with lo := x }
  | 2 => some { u with hi := x }
  | _ => none
theorem un_I {u u' : Un} {off : Nat} {n : Int} {x : BitVec 8} (hn : n = w8 x) (h : u.set off x = some u') : (splice (unC u).toList off (Value.cells (.int .u8 n)).toList).toArray = unC u' := by
  subst hn
  unfold Un.set at h
  split at h <;> first | (cases h; done) | (injection h with h; subst h; rfl)
/-- The cells of a row of six bytes that was appended to, of any room. -/
def cs6 (l : List (Int × Bool)) (cap : Nat) : Array Value := (l.flatMap bcs).toArray ++ Builtin.zeroCells (Value.agg #[.int .u8 0, .bool false]).cells (cap - 6)
theorem cs6_at (l : List (Int × Bool)) (cap : Nat) (j : Nat) (u : Value) (h : (l.flatMap bcs)[j]? = some u) : (cs6 l cap)[j]? = some u := by
  have hj : j < (l.flatMap bcs).length := (List.getElem?_eq_some_iff.1 h).1
  unfold cs6
  rw [Array.getElem?_append_left (by simpa using hj)]
  simpa using h
theorem Sb.olds {w : World} {b o : Nat} {y t k x : Int} {ys ts ks xs : Bool} (h : Sb w b o y t k x ys ts ks xs) (j : Nat) (v : Value) (hj : ([(y, ys), (t, ts), (k, ks), (x, xs)].flatMap bcs)[j]? = some v) : w.cell? ((⟨b, o, none⟩ : Addr).add j) = some v := by
  rw [addr_add]
  match j with
  | 0 => simp [bcs] at hj; subst hj; exact h.y0
  | 1 => simp [bcs] at hj; subst hj; exact h.y1
  | 2 => simp [bcs] at hj; subst hj; exact h.t0
  | 3 => simp [bcs] at hj; subst hj; exact h.t1
  | 4 => simp [bcs] at hj; subst hj; exact h.k0
  | 5 => simp [bcs] at hj; subst hj; exact h.k1
  | 6 => simp [bcs] at hj; subst hj; exact h.x0
  | 7 => simp [bcs] at hj; subst hj; exact h.x1
  | n + 8 => simp [bcs] at hj
theorem app_unit {w : World} {b o R : Nat} {y t k x lo hi : Int} {ys ts ks xs ls hs : Bool} {T : TypeId} (ty : TypeId) (h : Sb w b o y t k x ys ts ks xs) (hR : w.heap[R]? = some (.cells #[.int .u8 lo, .bool ls, .int .u8 hi, .bool hs] T)) :
    ∃ cap, 6 ≤ cap ∧ cap ≤ maxLen ∧ (Builtin.append_ #[22, 22] ty #[.slice (some ⟨b, o, none⟩) 4 4, .slice (some ⟨R, 0, none⟩) 2 2]).run Try.prog w =
      .ok (.slice (some ⟨w.heap.size, 0, none⟩) 6 cap) (w.drew.alloc (.cells (cs6 [(y, ys), (t, ts), (k, ks), (x, xs), (lo, ls), (hi, hs)] cap) 24)) := by
  obtain ⟨i0, z, hi0, hz0, hz1, hzc, hz2⟩ := kBS.inf
  have hz : z = .agg #[.int .u8 0, .bool false] := by
    obtain ⟨j, hj, he⟩ := Option.map_eq_some_iff.1 info_bs
    rw [hi0] at hj
    obtain rfl := Option.some.inj hj
    simp only [Prod.mk.injEq] at he
    rw [hz0] at he
    exact Option.some.inj he.1
  subst hz
  have hr := run_append_grow (P := Try.prog) w 22 ty 24 i0 _ kBS.sl hi0 hz0 ⟨b, o, none⟩ 4 4 ([(y, ys), (t, ts), (k, ks), (x, xs)].flatMap bcs) (by rw [hz1]; rfl) h.olds ⟨R, 0, none⟩ 2 2 ([(lo, ls), (hi, hs)].flatMap bcs) (by rw [hz1]; rfl)
    (fun j v hj => by rw [addr_add, Nat.zero_add, cell_of_row w R j _ T _ hR]; simpa [bcs] using hj) (by decide) (by decide) (growslice_fits (by decide) (by omega))
  refine ⟨grownCap w 6 4 24, grownCap_ge w 6 4 _, grownCap_le_maxLen w 6 4 _ (by unfold maxLen; decide), ?_⟩
  refine hr.trans ?_
  unfold cs6
  simp [bcs]
attribute [local irreducible] wpList
set_option maxHeartbeats 2000000 in
theorem sunit_no1 (a : Option Addr) (n cap : Nat) (i lo hi : Int) (ls hs : Bool) (hn : n ≠ 256) (w : World) : Calls Try.prog 11 #[.slice a n cap, .int .i64 i, .agg #[.int .u8 lo, .bool ls], .agg #[.int .u8 hi, .bool hs]] w fun e w' => e = .returned (.tuple #[.agg (unC un0), .int .i64 1]) ∧ Below w.heap.size w w' := by
  have Q1 := isall_ct a n cap
  rw [decide_eq_false hn] at Q1
  have HZ := Lib.hid alloc_unit
  have HB0 := Lib.hid build_unit0
  have H := Mem.start w
  have M1 : True := trivial
  have M2 : True := trivial
  have M3 : True := trivial
  go_enter Try.func11, Try.ntmps11
  go_wp2_with (first | (clear M1; refine wpList_mboxA rfl _ _ rfl H _ rfl ?_; clear H; intro Rl w1 _ H) | (clear M2; refine wpList_mboxA rfl _ _ rfl H _ rfl ?_; clear H; intro Rh w1 _ H) | (clear M3; refine wpList_mnew rfl _ rfl H _ HZ.out ?_; clear H; intro Rr w1 _ H) | (go_at_call 22; (with_reducible refine (Q1 _).mono ?_); rintro e w2 ⟨rfl, hB⟩; replace H := H.next hB; clear hB) | (refine wpList_tbd rfl _ _ rfl #[] rfl _ HB0.out ?_) | (refine gate_store _ _ _ rfl ?_; refine wpList_mstoreA rfl 36 _ _ rfl rfl _ rfl 0 H (unC _) _ rfl rfl (by kernel_rfl) (by kernel_rfl) (by kernel_rfl) ?_; clear H; intro w1 H; simp only [List.set_cons_zero, List.set_cons_succ] at H) | fail)
  refine ret_mem2 rfl _ rfl 0 H _ rfl (by kernel_rfl) (by kernel_rfl) rfl (.int .i64 1) rfl ?_
  exact ⟨rfl, H.toBelow⟩
set_option maxHeartbeats 2000000 in
theorem sunit_no2 (a : Option Addr) (cap : Nat) (i lo hi : Int) (ls hs : Bool) (hn : oneS i = false) (w : World) : Calls Try.prog 11 #[.slice a 256 cap, .int .i64 i, .agg #[.int .u8 lo, .bool ls], .agg #[.int .u8 hi, .bool hs]] w fun e w' => e = .returned (.tuple #[.agg (unC un0), .int .i64 1]) ∧ Below w.heap.size w w' := by
  have Q1 := isall_ct a 256 cap
  have Q2 := isone_ct i
  rw [decide_eq_true rfl] at Q1
  rw [hn] at Q2
  have HZ := Lib.hid alloc_unit
  have HB0 := Lib.hid build_unit0
  have H := Mem.start w
  have M1 : True := trivial
  have M2 : True := trivial
  have M3 : True := trivial
  go_enter Try.func11, Try.ntmps11
  go_wp2_with (first | (clear M1; refine wpList_mboxA rfl _ _ rfl H _ rfl ?_; clear H; intro Rl w1 _ H) | (clear M2; refine wpList_mboxA rfl _ _ rfl H _ rfl ?_; clear H; intro Rh w1 _ H) | (clear M3; refine wpList_mnew rfl _ rfl H _ HZ.out ?_; clear H; intro Rr w1 _ H) | (go_at_call 22; (with_reducible refine (Q1 _).mono ?_); rintro e w2 ⟨rfl, hB⟩; replace H := H.next hB; clear hB) | (go_at_call 26; (with_reducible refine (Q2 _).mono ?_); rintro e w2 ⟨rfl, hB⟩; replace H := H.next hB; clear hB) | (refine wpList_tbd rfl _ _ rfl #[] rfl _ HB0.out ?_) | (refine gate_store _ _ _ rfl ?_; refine wpList_mstoreA rfl 36 _ _ rfl rfl _ rfl 0 H (unC _) _ rfl rfl (by kernel_rfl) (by kernel_rfl) (by kernel_rfl) ?_; clear H; intro w1 H; simp only [List.set_cons_zero, List.set_cons_succ] at H) | fail)
  refine ret_mem2 rfl _ rfl 0 H _ rfl (by kernel_rfl) (by kernel_rfl) rfl (.int .i64 1) rfl ?_
  exact ⟨rfl, H.toBelow⟩
theorem sunit_in (b off cap i : Nat) (y t : Int) (k x lo hi : BitVec 8) (ys ts ks xs ls hs : Bool) (w : World) (hS : Sb w b (off + i * 8) y t (w8 k) (w8 x) ys ts ks xs) (hi64 : i < 64) (hc : 256 ≤ cap) (hm : cap ≤ maxLen) :
    Calls Try.prog 11 #[.slice (some ⟨b, off, none⟩) 256 cap, .int .i64 (i : Int), .agg #[.int .u8 (w8 lo), .bool ls], .agg #[.int .u8 (w8 hi), .bool hs]] w fun e w' => e = .returned (.tuple #[.agg (unC (unitS x k (ys || (ts || (ks || (xs || (ls || hs))))) (decide (i = 0)) lo hi)), .int .i64 0]) ∧ Below w.heap.size w w' := by
  have Q1 := isall_ct (some ⟨b, off, none⟩) 256 cap
  have Q3 := isone_ct (i : Int)
  rw [decide_eq_true rfl] at Q1
  rw [show oneS (i : Int) = true by simp [oneS]; omega] at Q3
  have QB := Lib.hid (fun wr => bytesof_ct b off cap i hi64 hc hm wr)
  have QR := Lib.hid (fun v wr => rev8_ct v wr)
  obtain ⟨o, ho⟩ : ∃ o, off + i * 8 = o := ⟨_, rfl⟩
  rw [ho] at QB hS
  have HS := Lib.hid hS
  have hE : #[.int .u8 (w8 x), .int .u8 (w8 lo), .int .u8 (w8 hi), .int .u8 (bits .and .u8 (w8 k) 3), .bool (bits .and .u8 (w8 k) 32 != 0), .bool (decide ((i : Int) = 0)), .bool (ys || (ts || (ks || (xs || (ls || hs)))))] = unC ⟨x, lo, hi, k &&& 3#8, k.getLsbD 5, decide (i = 0), (ys || (ts || (ks || (xs || (ls || hs)))))⟩ := by
    have e3 : bits .and .u8 (w8 k) 3 = w8 (k &&& 3#8) := by rw [show (3 : Int) = w8 3#8 by decide, v8_and]
    have e5 : (bits .and .u8 (w8 k) 32 != 0) = k.getLsbD 5 := by
      have h : ∀ v : BitVec 8, (bits .and .u8 (w8 v) 32 != 0) = v.getLsbD 5 := by decide +kernel
      exact h k
    have e0 : decide ((i : Int) = 0) = decide (i = 0) := decide_eq_decide.2 (by omega)
    rw [e3, e5, e0]
    rfl
  have e6 : (bits .and .u8 (w8 k) 64 != 0) = k.getLsbD 6 := by
    have h : ∀ v : BitVec 8, (bits .and .u8 (w8 v) 64 != 0) = v.getLsbD 6 := by decide +kernel
    exact h k
  have HE := Lib.hid hE
  clear hE hS hm
  unfold unitS turnB
  have HZ := Lib.hid alloc_unit
  have HB0 := Lib.hid build_unit0
  have H := Mem.start w
  have M1 : True := trivial
  have M2 : True := trivial
  have M3 : True := trivial
  cases h6 : k.getLsbD 6
  · rw [h6] at e6
    go_enter Try.func11, Try.ntmps11
    go_wp2_with (first | (clear M1; refine wpList_mboxA rfl _ _ rfl H _ rfl ?_; clear H; intro Rl w1 _ H) | (clear M2; refine wpList_mboxA rfl _ _ rfl H _ rfl ?_; clear H; intro Rh w1 _ H) | (clear M3; refine wpList_mnew rfl _ rfl H _ HZ.out ?_; clear H; intro Rr w1 _ H) | (go_at_call 22; (with_reducible refine (Q1 _).mono ?_); rintro e w2 ⟨rfl, hB⟩; replace H := H.next hB; clear hB) | (go_at_call 26; (with_reducible refine (Q3 _).mono ?_); rintro e w2 ⟨rfl, hB⟩; replace H := H.next hB; clear hB) | (go_at_call 27; (with_reducible refine (QB.out _).mono ?_); rintro e w2 ⟨rfl, hB⟩; replace H := H.next hB; clear hB; have z4 := (HS.out.below H.toBelow).k0) | fail)
    clear z4
    (try simp only [Act.put, List.setIfInBounds_toArray, List.set_cons_succ, List.set_cons_zero])
    refine wp_region_y ((0, 0)) (by kernel_rfl) (by kernel_rfl) [(some 29, fun _ => .slice (some ⟨b, o, none⟩) 4 4), (some 30, fun _ => .pointer (some ⟨b, o + 6, none⟩)), (some 31, fun _ => .pointer (some ⟨b, o + 6, none⟩)), (some 32, fun _ => .int .u8 (w8 x)), (some 33, fun _ => .pointer (some ⟨Rl, 0, none⟩)), (some 34, fun _ => .int .u8 (w8 lo)), (some 35, fun _ => .pointer (some ⟨Rh, 0, none⟩)), (some 36, fun _ => .int .u8 (w8 hi)), (some 37, fun _ => .int .u8 (w8 k)), (some 38, fun _ => .int .u8 (bits .and .u8 (w8 k) 3)), (some 39, fun _ => .int .u8 (w8 k)), (some 40, fun _ => .int .u8 (bits .and .u8 (w8 k) 32)), (some 41, fun _ => .bool (bits .and .u8 (w8 k) 32 != 0)), (some 42, fun _ => .int .i64 (i : Int)), (some 43, fun _ => .bool (decide ((i : Int) = 0))), (some 44, fun _ => .slice (some ⟨b, o, none⟩) 4 4), (some 45, fun _ => .agg #[.int .u8 (w8 lo), .bool ls]), (some 46, fun _ => .agg #[.int .u8 (w8 hi), .bool hs]), (some 47, fun (g : Nat × Nat) => .slice (some ⟨(g).1, 0, none⟩) 2 2), (some 48, fun (g : Nat × Nat) => .slice (some ⟨(g).1, 0, none⟩) 6 (g).2), (some 49, fun _ => .bool (ys || (ts || (ks || (xs || (ls || hs)))))), (some 50, fun _ => .agg #[.int .u8 (w8 x), .int .u8 (w8 lo), .int .u8 (w8 hi), .int .u8 (bits .and .u8 (w8 k) 3), .bool (bits .and .u8 (w8 k) 32 != 0), .bool (decide ((i : Int) = 0)), .bool (ys || (ts || (ks || (xs || (ls || hs)))))]), (some 12, fun (g : Nat × Nat) => .pointer (some ⟨(g).1, 0, none⟩)), (none, fun _ => undef)] (fun D bq w' => Mem w.heap.size [] w w' (cond (D 22) (((bq 22).1, (cond (D 23) (#[.int .u8 (w8 x), .int .u8 (w8 lo), .int .u8 (w8 hi), .int .u8 (bits .and .u8 (w8 k) 3), .bool (bits .and .u8 (w8 k) 32 != 0), .bool (decide ((i : Int) = 0)), .bool (ys || (ts || (ks || (xs || (ls || hs)))))]) ((unC un0)))) :: ((cond (D 19) (((bq 19).1, cs6 [(y, ys), (t, ts), (w8 k, ks), (w8 x, xs), (w8 lo, ls), (w8 hi, hs)] (bq 19).2) :: ((cond (D 18) (((bq 18).1, #[.int .u8 (w8 lo), .bool ls, .int .u8 (w8 hi), .bool hs]) :: [(Rr, unC un0), (Rh, #[.int .u8 (w8 hi), .bool hs]), (Rl, #[.int .u8 (w8 lo), .bool ls])]) ([(Rr, unC un0), (Rh, #[.int .u8 (w8 hi), .bool hs]), (Rl, #[.int .u8 (w8 lo), .bool ls])])))) ((cond (D 18) (((bq 18).1, #[.int .u8 (w8 lo), .bool ls, .int .u8 (w8 hi), .bool hs]) :: [(Rr, unC un0), (Rh, #[.int .u8 (w8 hi), .bool hs]), (Rl, #[.int .u8 (w8 lo), .bool ls])]) ([(Rr, unC un0), (Rh, #[.int .u8 (w8 hi), .bool hs]), (Rl, #[.int .u8 (w8 lo), .bool ls])])))))) ((cond (D 19) (((bq 19).1, cs6 [(y, ys), (t, ts), (w8 k, ks), (w8 x, xs), (w8 lo, ls), (w8 hi, hs)] (bq 19).2) :: ((cond (D 18) (((bq 18).1, #[.int .u8 (w8 lo), .bool ls, .int .u8 (w8 hi), .bool hs]) :: [(Rr, unC un0), (Rh, #[.int .u8 (w8 hi), .bool hs]), (Rl, #[.int .u8 (w8 lo), .bool ls])]) ([(Rr, unC un0), (Rh, #[.int .u8 (w8 hi), .bool hs]), (Rl, #[.int .u8 (w8 lo), .bool ls])])))) ((cond (D 18) (((bq 18).1, #[.int .u8 (w8 lo), .bool ls, .int .u8 (w8 hi), .bool hs]) :: [(Rr, unC un0), (Rh, #[.int .u8 (w8 hi), .bool hs]), (Rl, #[.int .u8 (w8 lo), .bool ls])]) ([(Rr, unC un0), (Rh, #[.int .u8 (w8 hi), .bool hs]), (Rl, #[.int .u8 (w8 lo), .bool ls])])))))) ∧ (D 19 = true → 6 ≤ (bq 19).2 ∧ (bq 19).2 ≤ maxLen)) 63 (by rfl) (by rfl) (by rfl) ⟨H.drew, fun h => by cases h⟩ ⟨⟨rfl, ?p0⟩, ⟨rfl, ?p1⟩, ⟨rfl, ?p2⟩, ⟨rfl, ?p3⟩, ⟨rfl, ?p4⟩, ⟨rfl, ?p5⟩, ⟨rfl, ?p6⟩, ⟨rfl, ?p7⟩, ⟨rfl, ?p8⟩, ⟨rfl, ?p9⟩, ⟨rfl, ?p10⟩, ⟨rfl, ?p11⟩, ⟨rfl, ?p12⟩, ⟨rfl, ?p13⟩, ⟨rfl, ?p14⟩, ⟨rfl, ?p15⟩, ⟨rfl, ?p16⟩, ⟨rfl, ?p17⟩, ⟨rfl, ?p18⟩, ⟨rfl, ?p19⟩, ⟨rfl, ?p20⟩, ⟨rfl, ?p21⟩, ⟨rfl, ?p22⟩, ⟨rfl, ?p23⟩, trivial⟩ ?_
    case p0 =>
      intro D bq a' w' hk hc he hl hW
      (try dsimp only at hW)
      have f10 : a'.tmps.getD 10 undef = .slice (some ⟨b, o, none⟩) 4 4 := (hl 10).trans ((vsy_no rfl).trans rfl)
      exact wp_val (.slice (some ⟨b, o, none⟩) 4 4) (by simp only [execOp, Act.eval, List.map_toArray, List.map_cons, List.map_nil]; rw [f10]; kernel_rfl) ⟨(0, 0), rfl, hW⟩
    case p1 =>
      intro D bq a' w' hk hc he hl hW
      (try dsimp only at hW)
      have e0 : a'.tmps.getD 29 undef = .slice (some ⟨b, o, none⟩) 4 4 := (hl 29).trans (vsy_at (f := fun _ => .slice (some ⟨b, o, none⟩) 4 4) rfl (he ⟨0, .data⟩ (by simp) rfl) rfl)
      exact wp_val (.pointer (some ⟨b, o + 6, none⟩)) (by simp only [execOp, Act.eval, List.map_toArray, List.map_cons, List.map_nil]; rw [e0]; kernel_rfl) ⟨(0, 0), rfl, hW⟩
    case p2 =>
      intro D bq a' w' hk hc he hl hW
      (try dsimp only at hW)
      have e1 : a'.tmps.getD 30 undef = .pointer (some ⟨b, o + 6, none⟩) := (hl 30).trans (vsy_at (f := fun _ => .pointer (some ⟨b, o + 6, none⟩)) rfl (he ⟨1, .data⟩ (by simp) rfl) rfl)
      exact wp_val (.pointer (some ⟨b, o + 6, none⟩)) (by simp only [execOp, Act.eval, List.map_toArray, List.map_cons, List.map_nil]; rw [e1]; kernel_rfl) ⟨(0, 0), rfl, hW⟩
    case p3 =>
      intro D bq a' w' hk hc he hl hW
      (try dsimp only at hW)
      have e2 : a'.tmps.getD 31 undef = .pointer (some ⟨b, o + 6, none⟩) := (hl 31).trans (vsy_at (f := fun _ => .pointer (some ⟨b, o + 6, none⟩)) rfl (he ⟨2, .data⟩ (by simp) rfl) rfl)
      exact wp_xload1S _ _ rfl b (o + 6) e2 hW.1 _ HS.out.x0 HS.out.lt (by simp) (by decide +kernel) ⟨(0, 0), rfl, hW⟩
    case p4 =>
      intro D bq a' w' hk hc he hl hW
      (try dsimp only at hW)
      have f6 : a'.tmps.getD 6 undef = .pointer (some ⟨Rl, 0, none⟩) := (hl 6).trans ((vsy_no rfl).trans rfl)
      exact wp_val (.pointer (some ⟨Rl, 0, none⟩)) (by simp only [execOp, Act.eval, List.map_toArray, List.map_cons, List.map_nil]; rw [f6]; kernel_rfl) ⟨(0, 0), rfl, hW⟩
    case p5 =>
      intro D bq a' w' hk hc he hl hW
      (try dsimp only at hW)
      have e4 : a'.tmps.getD 33 undef = .pointer (some ⟨Rl, 0, none⟩) := (hl 33).trans (vsy_at (f := fun _ => .pointer (some ⟨Rl, 0, none⟩)) rfl (he ⟨4, .data⟩ (by simp) rfl) rfl)
      exact wp_sload1 _ _ rfl _ _ e4 2 (Mem.condB (Mem.condB (Mem.condB hW.1))) _ (.int .u8 (w8 lo)) rfl rfl (by decide +kernel) ⟨(0, 0), rfl, hW⟩
    case p6 =>
      intro D bq a' w' hk hc he hl hW
      (try dsimp only at hW)
      have f7 : a'.tmps.getD 7 undef = .pointer (some ⟨Rh, 0, none⟩) := (hl 7).trans ((vsy_no rfl).trans rfl)
      exact wp_val (.pointer (some ⟨Rh, 0, none⟩)) (by simp only [execOp, Act.eval, List.map_toArray, List.map_cons, List.map_nil]; rw [f7]; kernel_rfl) ⟨(0, 0), rfl, hW⟩
    case p7 =>
      intro D bq a' w' hk hc he hl hW
      (try dsimp only at hW)
      have e6 : a'.tmps.getD 35 undef = .pointer (some ⟨Rh, 0, none⟩) := (hl 35).trans (vsy_at (f := fun _ => .pointer (some ⟨Rh, 0, none⟩)) rfl (he ⟨6, .data⟩ (by simp) rfl) rfl)
      exact wp_sload1 _ _ rfl _ _ e6 1 (Mem.condB (Mem.condB (Mem.condB hW.1))) _ (.int .u8 (w8 hi)) rfl rfl (by decide +kernel) ⟨(0, 0), rfl, hW⟩
    case p8 =>
      intro D bq a' w' hk hc he hl hW
      (try dsimp only at hW)
      have f11 : a'.tmps.getD 11 undef = .int .u8 (w8 k) := (hl 11).trans ((vsy_no rfl).trans rfl)
      exact wp_val (.int .u8 (w8 k)) (by simp only [execOp, Act.eval, List.map_toArray, List.map_cons, List.map_nil]; rw [f11]; kernel_rfl) ⟨(0, 0), rfl, hW⟩
    case p9 =>
      intro D bq a' w' hk hc he hl hW
      (try dsimp only at hW)
      have e8 : a'.tmps.getD 37 undef = .int .u8 (w8 k) := (hl 37).trans (vsy_at (f := fun _ => .int .u8 (w8 k)) rfl (he ⟨8, .data⟩ (by simp) rfl) rfl)
      exact wp_val (.int .u8 (bits .and .u8 (w8 k) 3)) (by simp only [execOp, Act.eval, List.map_toArray, List.map_cons, List.map_nil]; rw [e8]; kernel_rfl) ⟨(0, 0), rfl, hW⟩
    case p10 =>
      intro D bq a' w' hk hc he hl hW
      (try dsimp only at hW)
      have f11 : a'.tmps.getD 11 undef = .int .u8 (w8 k) := (hl 11).trans ((vsy_no rfl).trans rfl)
      exact wp_val (.int .u8 (w8 k)) (by simp only [execOp, Act.eval, List.map_toArray, List.map_cons, List.map_nil]; rw [f11]; kernel_rfl) ⟨(0, 0), rfl, hW⟩
    case p11 =>
      intro D bq a' w' hk hc he hl hW
      (try dsimp only at hW)
      have e10 : a'.tmps.getD 39 undef = .int .u8 (w8 k) := (hl 39).trans (vsy_at (f := fun _ => .int .u8 (w8 k)) rfl (he ⟨10, .data⟩ (by simp) rfl) rfl)
      exact wp_val (.int .u8 (bits .and .u8 (w8 k) 32)) (by simp only [execOp, Act.eval, List.map_toArray, List.map_cons, List.map_nil]; rw [e10]; kernel_rfl) ⟨(0, 0), rfl, hW⟩
    case p12 =>
      intro D bq a' w' hk hc he hl hW
      (try dsimp only at hW)
      have e11 : a'.tmps.getD 40 undef = .int .u8 (bits .and .u8 (w8 k) 32) := (hl 40).trans (vsy_at (f := fun _ => .int .u8 (bits .and .u8 (w8 k) 32)) rfl (he ⟨11, .data⟩ (by simp) rfl) rfl)
      exact wp_val (.bool (bits .and .u8 (w8 k) 32 != 0)) (by simp only [execOp, Act.eval, List.map_toArray, List.map_cons, List.map_nil]; rw [e11]; kernel_rfl) ⟨(0, 0), rfl, hW⟩
    case p13 =>
      intro D bq a' w' hk hc he hl hW
      (try dsimp only at hW)
      have f1 : a'.tmps.getD 1 undef = .int .i64 (i : Int) := (hl 1).trans ((vsy_no rfl).trans rfl)
      exact wp_val (.int .i64 (i : Int)) (by simp only [execOp, Act.eval, List.map_toArray, List.map_cons, List.map_nil]; rw [f1]; kernel_rfl) ⟨(0, 0), rfl, hW⟩
    case p14 =>
      intro D bq a' w' hk hc he hl hW
      (try dsimp only at hW)
      have e13 : a'.tmps.getD 42 undef = .int .i64 (i : Int) := (hl 42).trans (vsy_at (f := fun _ => .int .i64 (i : Int)) rfl (he ⟨13, .data⟩ (by simp) rfl) rfl)
      exact wp_val (.bool (decide ((i : Int) = 0))) (by simp only [execOp, Act.eval, List.map_toArray, List.map_cons, List.map_nil]; rw [e13]; kernel_rfl) ⟨(0, 0), rfl, hW⟩
    case p15 =>
      intro D bq a' w' hk hc he hl hW
      (try dsimp only at hW)
      have f10 : a'.tmps.getD 10 undef = .slice (some ⟨b, o, none⟩) 4 4 := (hl 10).trans ((vsy_no rfl).trans rfl)
      exact wp_val (.slice (some ⟨b, o, none⟩) 4 4) (by simp only [execOp, Act.eval, List.map_toArray, List.map_cons, List.map_nil]; rw [f10]; kernel_rfl) ⟨(0, 0), rfl, hW⟩
    case p16 =>
      intro D bq a' w' hk hc he hl hW
      (try dsimp only at hW)
      have f6 : a'.tmps.getD 6 undef = .pointer (some ⟨Rl, 0, none⟩) := (hl 6).trans ((vsy_no rfl).trans rfl)
      exact wp_sloadA _ _ rfl _ f6 2 (Mem.condB (Mem.condB (Mem.condB hW.1))) #[.int .u8 (w8 lo), .bool ls] rfl (by kernel_rfl) (by kernel_rfl) ⟨(0, 0), rfl, hW⟩
    case p17 =>
      intro D bq a' w' hk hc he hl hW
      (try dsimp only at hW)
      have f7 : a'.tmps.getD 7 undef = .pointer (some ⟨Rh, 0, none⟩) := (hl 7).trans ((vsy_no rfl).trans rfl)
      exact wp_sloadA _ _ rfl _ f7 1 (Mem.condB (Mem.condB (Mem.condB hW.1))) #[.int .u8 (w8 hi), .bool hs] rfl (by kernel_rfl) (by kernel_rfl) ⟨(0, 0), rfl, hW⟩
    case p18 =>
      intro D bq a' w' hk hc he hl hW
      (try dsimp only at hW)
      have e16 : a'.tmps.getD 45 undef = .agg #[.int .u8 (w8 lo), .bool ls] := (hl 45).trans (vsy_at (f := fun _ => .agg #[.int .u8 (w8 lo), .bool ls]) rfl (he ⟨16, .data⟩ (by simp) rfl) rfl)
      have e17 : a'.tmps.getD 46 undef = .agg #[.int .u8 (w8 hi), .bool hs] := (hl 46).trans (vsy_at (f := fun _ => .agg #[.int .u8 (w8 hi), .bool hs]) rfl (he ⟨17, .data⟩ (by simp) rfl) rfl)
      have n19 : D 19 = false := hc.no .data hk rfl (by simp) rfl
      have hM := hW.1
      simp only [hk, n19, cond_false] at hM
      refine wp_row _ _ _ rfl _ (by simp only [List.map_toArray, List.map_cons, List.map_nil, Act.eval, e16, e17]) _ _ (build_bs2 (w8 lo) ls (w8 hi) hs) ⟨(w'.heap.size, 0), rfl, ?_, fun h => Bool.noConfusion (n19.symm.trans (show D 19 = true from h))⟩
      show Mem w.heap.size [] w _ ((cond (D 22) (((bq 22).1, (cond (D 23) (#[.int .u8 (w8 x), .int .u8 (w8 lo), .int .u8 (w8 hi), .int .u8 (bits .and .u8 (w8 k) 3), .bool (bits .and .u8 (w8 k) 32 != 0), .bool (decide ((i : Int) = 0)), .bool (ys || (ts || (ks || (xs || (ls || hs)))))]) ((unC un0)))) :: ((cond (D 19) (((bq 19).1, cs6 [(y, ys), (t, ts), (w8 k, ks), (w8 x, xs), (w8 lo, ls), (w8 hi, hs)] (bq 19).2) :: ((w'.heap.size, #[.int .u8 (w8 lo), .bool ls, .int .u8 (w8 hi), .bool hs]) :: [(Rr, unC un0), (Rh, #[.int .u8 (w8 hi), .bool hs]), (Rl, #[.int .u8 (w8 lo), .bool ls])])) ((w'.heap.size, #[.int .u8 (w8 lo), .bool ls, .int .u8 (w8 hi), .bool hs]) :: [(Rr, unC un0), (Rh, #[.int .u8 (w8 hi), .bool hs]), (Rl, #[.int .u8 (w8 lo), .bool ls])])))) ((cond (D 19) (((bq 19).1, cs6 [(y, ys), (t, ts), (w8 k, ks), (w8 x, xs), (w8 lo, ls), (w8 hi, hs)] (bq 19).2) :: ((w'.heap.size, #[.int .u8 (w8 lo), .bool ls, .int .u8 (w8 hi), .bool hs]) :: [(Rr, unC un0), (Rh, #[.int .u8 (w8 hi), .bool hs]), (Rl, #[.int .u8 (w8 lo), .bool ls])])) ((w'.heap.size, #[.int .u8 (w8 lo), .bool ls, .int .u8 (w8 hi), .bool hs]) :: [(Rr, unC un0), (Rh, #[.int .u8 (w8 hi), .bool hs]), (Rl, #[.int .u8 (w8 lo), .bool ls])])))))
      rw [n19]
      cases h22 : D 22
      · simp only [h22, cond_false] at hM ⊢
        exact Mem.new hM _ _
      · simp only [h22, cond_true, cond_false] at hM ⊢
        exact (Mem.new hM _ _).perm (List.Perm.swap _ _ _)
    case p19 =>
      intro D bq a' w' hk hc he hl hW
      (try dsimp only at hW)
      have e15 : a'.tmps.getD 44 undef = .slice (some ⟨b, o, none⟩) 4 4 := (hl 44).trans (vsy_at (f := fun _ => .slice (some ⟨b, o, none⟩) 4 4) rfl (he ⟨15, .data⟩ (by simp) rfl) rfl)
      have e18 : a'.tmps.getD 47 undef = .slice (some ⟨(bq 18).1, 0, none⟩) 2 2 := (hl 47).trans (vsy_at (f := fun (g : Nat × Nat) => .slice (some ⟨(g).1, 0, none⟩) 2 2) rfl (he ⟨18, .data⟩ (by simp) rfl) rfl)
      have d18 := he ⟨18, .data⟩ (by simp) rfl
      have hM := hW.1
      simp only [hk, d18, cond_false, cond_true] at hM
      obtain ⟨T18, hT18⟩ := (Mem.condB hM).get (i := 0) rfl
      obtain ⟨cap, c0, c1, hrun⟩ := app_unit 22 (HS.out.below (Mem.toBelow hM)) hT18
      refine wp_apx _ _ _ _ rfl _ _ e15 e18 _ _ hrun ⟨(w'.heap.size, cap), rfl, ?_, fun _ => ⟨c0, c1⟩⟩
      show Mem w.heap.size [] w _ ((cond (D 22) (((bq 22).1, (cond (D 23) (#[.int .u8 (w8 x), .int .u8 (w8 lo), .int .u8 (w8 hi), .int .u8 (bits .and .u8 (w8 k) 3), .bool (bits .and .u8 (w8 k) 32 != 0), .bool (decide ((i : Int) = 0)), .bool (ys || (ts || (ks || (xs || (ls || hs)))))]) ((unC un0)))) :: ((w'.heap.size, cs6 [(y, ys), (t, ts), (w8 k, ks), (w8 x, xs), (w8 lo, ls), (w8 hi, hs)] cap) :: ((cond (D 18) (((bq 18).1, #[.int .u8 (w8 lo), .bool ls, .int .u8 (w8 hi), .bool hs]) :: [(Rr, unC un0), (Rh, #[.int .u8 (w8 hi), .bool hs]), (Rl, #[.int .u8 (w8 lo), .bool ls])]) ([(Rr, unC un0), (Rh, #[.int .u8 (w8 hi), .bool hs]), (Rl, #[.int .u8 (w8 lo), .bool ls])]))))) ((w'.heap.size, cs6 [(y, ys), (t, ts), (w8 k, ks), (w8 x, xs), (w8 lo, ls), (w8 hi, hs)] cap) :: ((cond (D 18) (((bq 18).1, #[.int .u8 (w8 lo), .bool ls, .int .u8 (w8 hi), .bool hs]) :: [(Rr, unC un0), (Rh, #[.int .u8 (w8 hi), .bool hs]), (Rl, #[.int .u8 (w8 lo), .bool ls])]) ([(Rr, unC un0), (Rh, #[.int .u8 (w8 hi), .bool hs]), (Rl, #[.int .u8 (w8 lo), .bool ls])]))))))
      rw [d18]
      cases h22 : D 22
      · simp only [h22, cond_false, cond_true] at hM ⊢
        exact hM.add ((Below.refl _ w').drew.alloc (Nat.le_refl _) _) (Nat.le_refl _) (heap_alloc_new w'.drew _)
      · simp only [h22, cond_true] at hM ⊢
        exact (hM.add ((Below.refl _ w').drew.alloc (Nat.le_refl _) _) (Nat.le_refl _) (heap_alloc_new w'.drew _)).perm (List.Perm.swap _ _ _)
    case p20 =>
      intro D bq a' w' hk hc he hl hW
      (try dsimp only at hW)
      have e19 : a'.tmps.getD 48 undef = .slice (some ⟨(bq 19).1, 0, none⟩) 6 (bq 19).2 := (hl 48).trans (vsy_at (f := fun (g : Nat × Nat) => .slice (some ⟨(g).1, 0, none⟩) 6 (g).2) rfl (he ⟨19, .data⟩ (by simp) rfl) rfl)
      have d19 := he ⟨19, .data⟩ (by simp) rfl
      have hc6 := hW.2 d19
      refine wp_callp (vals := #[.slice (some ⟨(bq 19).1, 0, none⟩) 6 (bq 19).2]) rfl rfl (by simp only [List.map_toArray, List.map_cons, List.map_nil, Act.eval, e19]) (by kernel_rfl) (any_row [(y, ys), (t, ts), (w8 k, ks), (w8 x, xs), (w8 lo, ls), (w8 hi, hs)] (ys || (ts || (ks || (xs || (ls || hs))))) (Mem.ofT d19 (Mem.condB hW.1)) 0 rfl rfl (by simp [anyS]) hc6.1 hc6.2 (cs6_at _ _)) ?_
      rintro e w2 ⟨rfl, hB⟩
      exact ⟨_, rfl, (0, 0), rfl, Mem.next hW.1 hB, hW.2⟩
    case p21 =>
      intro D bq a' w' hk hc he hl hW
      (try dsimp only at hW)
      have e3 : a'.tmps.getD 32 undef = .int .u8 (w8 x) := (hl 32).trans (vsy_at (f := fun _ => .int .u8 (w8 x)) rfl (he ⟨3, .data⟩ (by simp) rfl) rfl)
      have e5 : a'.tmps.getD 34 undef = .int .u8 (w8 lo) := (hl 34).trans (vsy_at (f := fun _ => .int .u8 (w8 lo)) rfl (he ⟨5, .data⟩ (by simp) rfl) rfl)
      have e7 : a'.tmps.getD 36 undef = .int .u8 (w8 hi) := (hl 36).trans (vsy_at (f := fun _ => .int .u8 (w8 hi)) rfl (he ⟨7, .data⟩ (by simp) rfl) rfl)
      have e9 : a'.tmps.getD 38 undef = .int .u8 (bits .and .u8 (w8 k) 3) := (hl 38).trans (vsy_at (f := fun _ => .int .u8 (bits .and .u8 (w8 k) 3)) rfl (he ⟨9, .data⟩ (by simp) rfl) rfl)
      have e12 : a'.tmps.getD 41 undef = .bool (bits .and .u8 (w8 k) 32 != 0) := (hl 41).trans (vsy_at (f := fun _ => .bool (bits .and .u8 (w8 k) 32 != 0)) rfl (he ⟨12, .data⟩ (by simp) rfl) rfl)
      have e14 : a'.tmps.getD 43 undef = .bool (decide ((i : Int) = 0)) := (hl 43).trans (vsy_at (f := fun _ => .bool (decide ((i : Int) = 0))) rfl (he ⟨14, .data⟩ (by simp) rfl) rfl)
      have e20 : a'.tmps.getD 49 undef = .bool (ys || (ts || (ks || (xs || (ls || hs))))) := (hl 49).trans (vsy_at (f := fun _ => .bool (ys || (ts || (ks || (xs || (ls || hs)))))) rfl (he ⟨20, .data⟩ (by simp) rfl) rfl)
      exact wp_val (.agg #[.int .u8 (w8 x), .int .u8 (w8 lo), .int .u8 (w8 hi), .int .u8 (bits .and .u8 (w8 k) 3), .bool (bits .and .u8 (w8 k) 32 != 0), .bool (decide ((i : Int) = 0)), .bool (ys || (ts || (ks || (xs || (ls || hs)))))]) (by simp only [execOp, Act.eval, List.map_toArray, List.map_cons, List.map_nil]; rw [e3, e5, e7, e9, e12, e14, e20]; kernel_rfl) ⟨(0, 0), rfl, hW⟩
    case p22 =>
      intro D bq a' w' hk hc he hl hW
      (try dsimp only at hW)
      have n23 : D 23 = false := hc.no .data hk rfl (by simp) rfl
      have hM := Mem.ofF hk hW.1
      refine wp_alx _ rfl _ HZ.out ⟨(w'.heap.size, 0), rfl, ?_, hW.2⟩
      show Mem w.heap.size [] w _ ((w'.heap.size, (cond (D 23) (#[.int .u8 (w8 x), .int .u8 (w8 lo), .int .u8 (w8 hi), .int .u8 (bits .and .u8 (w8 k) 3), .bool (bits .and .u8 (w8 k) 32 != 0), .bool (decide ((i : Int) = 0)), .bool (ys || (ts || (ks || (xs || (ls || hs)))))]) ((unC un0)))) :: ((cond (D 19) (((bq 19).1, cs6 [(y, ys), (t, ts), (w8 k, ks), (w8 x, xs), (w8 lo, ls), (w8 hi, hs)] (bq 19).2) :: ((cond (D 18) (((bq 18).1, #[.int .u8 (w8 lo), .bool ls, .int .u8 (w8 hi), .bool hs]) :: [(Rr, unC un0), (Rh, #[.int .u8 (w8 hi), .bool hs]), (Rl, #[.int .u8 (w8 lo), .bool ls])]) ([(Rr, unC un0), (Rh, #[.int .u8 (w8 hi), .bool hs]), (Rl, #[.int .u8 (w8 lo), .bool ls])])))) ((cond (D 18) (((bq 18).1, #[.int .u8 (w8 lo), .bool ls, .int .u8 (w8 hi), .bool hs]) :: [(Rr, unC un0), (Rh, #[.int .u8 (w8 hi), .bool hs]), (Rl, #[.int .u8 (w8 lo), .bool ls])]) ([(Rr, unC un0), (Rh, #[.int .u8 (w8 hi), .bool hs]), (Rl, #[.int .u8 (w8 lo), .bool ls])]))))))
      rw [n23]
      exact Mem.new hM _ _
    case p23 =>
      intro D bq a' w' hk hc he hl hW
      (try dsimp only at hW)
      have e22 : a'.tmps.getD 12 undef = .pointer (some ⟨(bq 22).1, 0, none⟩) := (hl 12).trans (vsy_at (f := fun (g : Nat × Nat) => .pointer (some ⟨(g).1, 0, none⟩)) rfl (he ⟨22, .data⟩ (by simp) rfl) rfl)
      have e21 : a'.tmps.getD 50 undef = .agg #[.int .u8 (w8 x), .int .u8 (w8 lo), .int .u8 (w8 hi), .int .u8 (bits .and .u8 (w8 k) 3), .bool (bits .and .u8 (w8 k) 32 != 0), .bool (decide ((i : Int) = 0)), .bool (ys || (ts || (ks || (xs || (ls || hs)))))] := (hl 50).trans (vsy_at (f := fun _ => .agg #[.int .u8 (w8 x), .int .u8 (w8 lo), .int .u8 (w8 hi), .int .u8 (bits .and .u8 (w8 k) 3), .bool (bits .and .u8 (w8 k) 32 != 0), .bool (decide ((i : Int) = 0)), .bool (ys || (ts || (ks || (xs || (ls || hs)))))]) rfl (he ⟨21, .data⟩ (by simp) rfl) rfl)
      have d22 := he ⟨22, .data⟩ (by simp) rfl
      have hM := Mem.ofT d22 hW.1
      simp only [hk, cond_false] at hM
      exact wp_sstoreA _ _ _ rfl rfl (bq 22).1 e22 0 hM _ #[.int .u8 (w8 x), .int .u8 (w8 lo), .int .u8 (w8 hi), .int .u8 (bits .and .u8 (w8 k) 3), .bool (bits .and .u8 (w8 k) 32 != 0), .bool (decide ((i : Int) = 0)), .bool (ys || (ts || (ks || (xs || (ls || hs)))))] rfl e21 (by kernel_rfl) (by rfl) (by kernel_rfl) fun w1 hM1 => ⟨(0, 0), rfl, Mem.condT d22 hM1, hW.2⟩
    intro D bq w' hD hW
    (try dsimp only at hW)
    simp only [hD 18 (by decide), hD 19 (by decide), hD 22 (by decide), hD 23 (by decide), cond_true] at hW
    clear H hD
    have H := hW
    clear hW
    simp only [putAll, vsYf, Nat.reduceAdd, List.foldl_cons, List.foldl_nil, Act.put, List.setIfInBounds_toArray, List.set_cons_succ, List.set_cons_zero]
    replace H := H.1.sub (List.Sublist.cons_cons _ (List.Sublist.cons _ (List.Sublist.cons _ (List.Sublist.refl _))))
    generalize (bq 22).1 = Ru at *
    generalize (bq 19).1 = Ra at *
    generalize (bq 19).2 = ca at *
    generalize (bq 18).1 = Rb at *
    rw [HE.out] at H
    go_wp2_with (first | (refine gate_load _ _ rfl ?_; refine wpList_mloadA rfl 36 _ rfl _ rfl 0 H (unC _) rfl (by decide +kernel) (by kernel_rfl) ?_) | (refine gate_store _ _ _ rfl ?_; refine wpList_mstoreA rfl 36 _ _ rfl rfl _ rfl 1 H (unC _) _ rfl rfl (by kernel_rfl) (by kernel_rfl) (by kernel_rfl) ?_; clear H; intro w1 H; simp only [List.set_cons_zero, List.set_cons_succ] at H) | fail)
    refine ret_mem2 rfl _ rfl 1 H _ rfl (by kernel_rfl) (by kernel_rfl) rfl (.int .i64 0) rfl ?_
    exact ⟨rfl, H.toBelow⟩
  · rw [h6] at e6
    go_enter Try.func11, Try.ntmps11
    go_wp2_with (first | (clear M1; refine wpList_mboxA rfl _ _ rfl H _ rfl ?_; clear H; intro Rl w1 _ H) | (clear M2; refine wpList_mboxA rfl _ _ rfl H _ rfl ?_; clear H; intro Rh w1 _ H) | (clear M3; refine wpList_mnew rfl _ rfl H _ HZ.out ?_; clear H; intro Rr w1 _ H) | (go_at_call 22; (with_reducible refine (Q1 _).mono ?_); rintro e w2 ⟨rfl, hB⟩; replace H := H.next hB; clear hB) | (go_at_call 26; (with_reducible refine (Q3 _).mono ?_); rintro e w2 ⟨rfl, hB⟩; replace H := H.next hB; clear hB) | (go_at_call 27; (with_reducible refine (QB.out _).mono ?_); rintro e w2 ⟨rfl, hB⟩; replace H := H.next hB; clear hB; have z4 := (HS.out.below H.toBelow).k0) | fail)
    clear z4
    (try simp only [Act.put, List.setIfInBounds_toArray, List.set_cons_succ, List.set_cons_zero])
    refine wp_region_y ((0, 0)) (by kernel_rfl) (by kernel_rfl) [(some 29, fun _ => .slice (some ⟨b, o, none⟩) 4 4), (some 30, fun _ => .pointer (some ⟨b, o + 6, none⟩)), (some 31, fun _ => .pointer (some ⟨b, o + 6, none⟩)), (some 32, fun _ => .int .u8 (w8 x)), (some 33, fun _ => .pointer (some ⟨Rl, 0, none⟩)), (some 34, fun _ => .int .u8 (w8 lo)), (some 35, fun _ => .pointer (some ⟨Rh, 0, none⟩)), (some 36, fun _ => .int .u8 (w8 hi)), (some 37, fun _ => .int .u8 (w8 k)), (some 38, fun _ => .int .u8 (bits .and .u8 (w8 k) 3)), (some 39, fun _ => .int .u8 (w8 k)), (some 40, fun _ => .int .u8 (bits .and .u8 (w8 k) 32)), (some 41, fun _ => .bool (bits .and .u8 (w8 k) 32 != 0)), (some 42, fun _ => .int .i64 (i : Int)), (some 43, fun _ => .bool (decide ((i : Int) = 0))), (some 44, fun _ => .slice (some ⟨b, o, none⟩) 4 4), (some 45, fun _ => .agg #[.int .u8 (w8 lo), .bool ls]), (some 46, fun _ => .agg #[.int .u8 (w8 hi), .bool hs]), (some 47, fun (g : Nat × Nat) => .slice (some ⟨(g).1, 0, none⟩) 2 2), (some 48, fun (g : Nat × Nat) => .slice (some ⟨(g).1, 0, none⟩) 6 (g).2), (some 49, fun _ => .bool (ys || (ts || (ks || (xs || (ls || hs)))))), (some 50, fun _ => .agg #[.int .u8 (w8 x), .int .u8 (w8 lo), .int .u8 (w8 hi), .int .u8 (bits .and .u8 (w8 k) 3), .bool (bits .and .u8 (w8 k) 32 != 0), .bool (decide ((i : Int) = 0)), .bool (ys || (ts || (ks || (xs || (ls || hs)))))]), (some 12, fun (g : Nat × Nat) => .pointer (some ⟨(g).1, 0, none⟩)), (none, fun _ => undef)] (fun D bq w' => Mem w.heap.size [] w w' (cond (D 22) (((bq 22).1, (cond (D 23) (#[.int .u8 (w8 x), .int .u8 (w8 lo), .int .u8 (w8 hi), .int .u8 (bits .and .u8 (w8 k) 3), .bool (bits .and .u8 (w8 k) 32 != 0), .bool (decide ((i : Int) = 0)), .bool (ys || (ts || (ks || (xs || (ls || hs)))))]) ((unC un0)))) :: ((cond (D 19) (((bq 19).1, cs6 [(y, ys), (t, ts), (w8 k, ks), (w8 x, xs), (w8 lo, ls), (w8 hi, hs)] (bq 19).2) :: ((cond (D 18) (((bq 18).1, #[.int .u8 (w8 lo), .bool ls, .int .u8 (w8 hi), .bool hs]) :: [(Rr, unC un0), (Rh, #[.int .u8 (w8 hi), .bool hs]), (Rl, #[.int .u8 (w8 lo), .bool ls])]) ([(Rr, unC un0), (Rh, #[.int .u8 (w8 hi), .bool hs]), (Rl, #[.int .u8 (w8 lo), .bool ls])])))) ((cond (D 18) (((bq 18).1, #[.int .u8 (w8 lo), .bool ls, .int .u8 (w8 hi), .bool hs]) :: [(Rr, unC un0), (Rh, #[.int .u8 (w8 hi), .bool hs]), (Rl, #[.int .u8 (w8 lo), .bool ls])]) ([(Rr, unC un0), (Rh, #[.int .u8 (w8 hi), .bool hs]), (Rl, #[.int .u8 (w8 lo), .bool ls])])))))) ((cond (D 19) (((bq 19).1, cs6 [(y, ys), (t, ts), (w8 k, ks), (w8 x, xs), (w8 lo, ls), (w8 hi, hs)] (bq 19).2) :: ((cond (D 18) (((bq 18).1, #[.int .u8 (w8 lo), .bool ls, .int .u8 (w8 hi), .bool hs]) :: [(Rr, unC un0), (Rh, #[.int .u8 (w8 hi), .bool hs]), (Rl, #[.int .u8 (w8 lo), .bool ls])]) ([(Rr, unC un0), (Rh, #[.int .u8 (w8 hi), .bool hs]), (Rl, #[.int .u8 (w8 lo), .bool ls])])))) ((cond (D 18) (((bq 18).1, #[.int .u8 (w8 lo), .bool ls, .int .u8 (w8 hi), .bool hs]) :: [(Rr, unC un0), (Rh, #[.int .u8 (w8 hi), .bool hs]), (Rl, #[.int .u8 (w8 lo), .bool ls])]) ([(Rr, unC un0), (Rh, #[.int .u8 (w8 hi), .bool hs]), (Rl, #[.int .u8 (w8 lo), .bool ls])])))))) ∧ (D 19 = true → 6 ≤ (bq 19).2 ∧ (bq 19).2 ≤ maxLen)) 63 (by rfl) (by rfl) (by rfl) ⟨H.drew, fun h => by cases h⟩ ⟨⟨rfl, ?p0⟩, ⟨rfl, ?p1⟩, ⟨rfl, ?p2⟩, ⟨rfl, ?p3⟩, ⟨rfl, ?p4⟩, ⟨rfl, ?p5⟩, ⟨rfl, ?p6⟩, ⟨rfl, ?p7⟩, ⟨rfl, ?p8⟩, ⟨rfl, ?p9⟩, ⟨rfl, ?p10⟩, ⟨rfl, ?p11⟩, ⟨rfl, ?p12⟩, ⟨rfl, ?p13⟩, ⟨rfl, ?p14⟩, ⟨rfl, ?p15⟩, ⟨rfl, ?p16⟩, ⟨rfl, ?p17⟩, ⟨rfl, ?p18⟩, ⟨rfl, ?p19⟩, ⟨rfl, ?p20⟩, ⟨rfl, ?p21⟩, ⟨rfl, ?p22⟩, ⟨rfl, ?p23⟩, trivial⟩ ?_
    case p0 =>
      intro D bq a' w' hk hc he hl hW
      (try dsimp only at hW)
      have f10 : a'.tmps.getD 10 undef = .slice (some ⟨b, o, none⟩) 4 4 := (hl 10).trans ((vsy_no rfl).trans rfl)
      exact wp_val (.slice (some ⟨b, o, none⟩) 4 4) (by simp only [execOp, Act.eval, List.map_toArray, List.map_cons, List.map_nil]; rw [f10]; kernel_rfl) ⟨(0, 0), rfl, hW⟩
    case p1 =>
      intro D bq a' w' hk hc he hl hW
      (try dsimp only at hW)
      have e0 : a'.tmps.getD 29 undef = .slice (some ⟨b, o, none⟩) 4 4 := (hl 29).trans (vsy_at (f := fun _ => .slice (some ⟨b, o, none⟩) 4 4) rfl (he ⟨0, .data⟩ (by simp) rfl) rfl)
      exact wp_val (.pointer (some ⟨b, o + 6, none⟩)) (by simp only [execOp, Act.eval, List.map_toArray, List.map_cons, List.map_nil]; rw [e0]; kernel_rfl) ⟨(0, 0), rfl, hW⟩
    case p2 =>
      intro D bq a' w' hk hc he hl hW
      (try dsimp only at hW)
      have e1 : a'.tmps.getD 30 undef = .pointer (some ⟨b, o + 6, none⟩) := (hl 30).trans (vsy_at (f := fun _ => .pointer (some ⟨b, o + 6, none⟩)) rfl (he ⟨1, .data⟩ (by simp) rfl) rfl)
      exact wp_val (.pointer (some ⟨b, o + 6, none⟩)) (by simp only [execOp, Act.eval, List.map_toArray, List.map_cons, List.map_nil]; rw [e1]; kernel_rfl) ⟨(0, 0), rfl, hW⟩
    case p3 =>
      intro D bq a' w' hk hc he hl hW
      (try dsimp only at hW)
      have e2 : a'.tmps.getD 31 undef = .pointer (some ⟨b, o + 6, none⟩) := (hl 31).trans (vsy_at (f := fun _ => .pointer (some ⟨b, o + 6, none⟩)) rfl (he ⟨2, .data⟩ (by simp) rfl) rfl)
      exact wp_xload1S _ _ rfl b (o + 6) e2 hW.1 _ HS.out.x0 HS.out.lt (by simp) (by decide +kernel) ⟨(0, 0), rfl, hW⟩
    case p4 =>
      intro D bq a' w' hk hc he hl hW
      (try dsimp only at hW)
      have f6 : a'.tmps.getD 6 undef = .pointer (some ⟨Rl, 0, none⟩) := (hl 6).trans ((vsy_no rfl).trans rfl)
      exact wp_val (.pointer (some ⟨Rl, 0, none⟩)) (by simp only [execOp, Act.eval, List.map_toArray, List.map_cons, List.map_nil]; rw [f6]; kernel_rfl) ⟨(0, 0), rfl, hW⟩
    case p5 =>
      intro D bq a' w' hk hc he hl hW
      (try dsimp only at hW)
      have e4 : a'.tmps.getD 33 undef = .pointer (some ⟨Rl, 0, none⟩) := (hl 33).trans (vsy_at (f := fun _ => .pointer (some ⟨Rl, 0, none⟩)) rfl (he ⟨4, .data⟩ (by simp) rfl) rfl)
      exact wp_sload1 _ _ rfl _ _ e4 2 (Mem.condB (Mem.condB (Mem.condB hW.1))) _ (.int .u8 (w8 lo)) rfl rfl (by decide +kernel) ⟨(0, 0), rfl, hW⟩
    case p6 =>
      intro D bq a' w' hk hc he hl hW
      (try dsimp only at hW)
      have f7 : a'.tmps.getD 7 undef = .pointer (some ⟨Rh, 0, none⟩) := (hl 7).trans ((vsy_no rfl).trans rfl)
      exact wp_val (.pointer (some ⟨Rh, 0, none⟩)) (by simp only [execOp, Act.eval, List.map_toArray, List.map_cons, List.map_nil]; rw [f7]; kernel_rfl) ⟨(0, 0), rfl, hW⟩
    case p7 =>
      intro D bq a' w' hk hc he hl hW
      (try dsimp only at hW)
      have e6 : a'.tmps.getD 35 undef = .pointer (some ⟨Rh, 0, none⟩) := (hl 35).trans (vsy_at (f := fun _ => .pointer (some ⟨Rh, 0, none⟩)) rfl (he ⟨6, .data⟩ (by simp) rfl) rfl)
      exact wp_sload1 _ _ rfl _ _ e6 1 (Mem.condB (Mem.condB (Mem.condB hW.1))) _ (.int .u8 (w8 hi)) rfl rfl (by decide +kernel) ⟨(0, 0), rfl, hW⟩
    case p8 =>
      intro D bq a' w' hk hc he hl hW
      (try dsimp only at hW)
      have f11 : a'.tmps.getD 11 undef = .int .u8 (w8 k) := (hl 11).trans ((vsy_no rfl).trans rfl)
      exact wp_val (.int .u8 (w8 k)) (by simp only [execOp, Act.eval, List.map_toArray, List.map_cons, List.map_nil]; rw [f11]; kernel_rfl) ⟨(0, 0), rfl, hW⟩
    case p9 =>
      intro D bq a' w' hk hc he hl hW
      (try dsimp only at hW)
      have e8 : a'.tmps.getD 37 undef = .int .u8 (w8 k) := (hl 37).trans (vsy_at (f := fun _ => .int .u8 (w8 k)) rfl (he ⟨8, .data⟩ (by simp) rfl) rfl)
      exact wp_val (.int .u8 (bits .and .u8 (w8 k) 3)) (by simp only [execOp, Act.eval, List.map_toArray, List.map_cons, List.map_nil]; rw [e8]; kernel_rfl) ⟨(0, 0), rfl, hW⟩
    case p10 =>
      intro D bq a' w' hk hc he hl hW
      (try dsimp only at hW)
      have f11 : a'.tmps.getD 11 undef = .int .u8 (w8 k) := (hl 11).trans ((vsy_no rfl).trans rfl)
      exact wp_val (.int .u8 (w8 k)) (by simp only [execOp, Act.eval, List.map_toArray, List.map_cons, List.map_nil]; rw [f11]; kernel_rfl) ⟨(0, 0), rfl, hW⟩
    case p11 =>
      intro D bq a' w' hk hc he hl hW
      (try dsimp only at hW)
      have e10 : a'.tmps.getD 39 undef = .int .u8 (w8 k) := (hl 39).trans (vsy_at (f := fun _ => .int .u8 (w8 k)) rfl (he ⟨10, .data⟩ (by simp) rfl) rfl)
      exact wp_val (.int .u8 (bits .and .u8 (w8 k) 32)) (by simp only [execOp, Act.eval, List.map_toArray, List.map_cons, List.map_nil]; rw [e10]; kernel_rfl) ⟨(0, 0), rfl, hW⟩
    case p12 =>
      intro D bq a' w' hk hc he hl hW
      (try dsimp only at hW)
      have e11 : a'.tmps.getD 40 undef = .int .u8 (bits .and .u8 (w8 k) 32) := (hl 40).trans (vsy_at (f := fun _ => .int .u8 (bits .and .u8 (w8 k) 32)) rfl (he ⟨11, .data⟩ (by simp) rfl) rfl)
      exact wp_val (.bool (bits .and .u8 (w8 k) 32 != 0)) (by simp only [execOp, Act.eval, List.map_toArray, List.map_cons, List.map_nil]; rw [e11]; kernel_rfl) ⟨(0, 0), rfl, hW⟩
    case p13 =>
      intro D bq a' w' hk hc he hl hW
      (try dsimp only at hW)
      have f1 : a'.tmps.getD 1 undef = .int .i64 (i : Int) := (hl 1).trans ((vsy_no rfl).trans rfl)
      exact wp_val (.int .i64 (i : Int)) (by simp only [execOp, Act.eval, List.map_toArray, List.map_cons, List.map_nil]; rw [f1]; kernel_rfl) ⟨(0, 0), rfl, hW⟩
    case p14 =>
      intro D bq a' w' hk hc he hl hW
      (try dsimp only at hW)
      have e13 : a'.tmps.getD 42 undef = .int .i64 (i : Int) := (hl 42).trans (vsy_at (f := fun _ => .int .i64 (i : Int)) rfl (he ⟨13, .data⟩ (by simp) rfl) rfl)
      exact wp_val (.bool (decide ((i : Int) = 0))) (by simp only [execOp, Act.eval, List.map_toArray, List.map_cons, List.map_nil]; rw [e13]; kernel_rfl) ⟨(0, 0), rfl, hW⟩
    case p15 =>
      intro D bq a' w' hk hc he hl hW
      (try dsimp only at hW)
      have f10 : a'.tmps.getD 10 undef = .slice (some ⟨b, o, none⟩) 4 4 := (hl 10).trans ((vsy_no rfl).trans rfl)
      exact wp_val (.slice (some ⟨b, o, none⟩) 4 4) (by simp only [execOp, Act.eval, List.map_toArray, List.map_cons, List.map_nil]; rw [f10]; kernel_rfl) ⟨(0, 0), rfl, hW⟩
    case p16 =>
      intro D bq a' w' hk hc he hl hW
      (try dsimp only at hW)
      have f6 : a'.tmps.getD 6 undef = .pointer (some ⟨Rl, 0, none⟩) := (hl 6).trans ((vsy_no rfl).trans rfl)
      exact wp_sloadA _ _ rfl _ f6 2 (Mem.condB (Mem.condB (Mem.condB hW.1))) #[.int .u8 (w8 lo), .bool ls] rfl (by kernel_rfl) (by kernel_rfl) ⟨(0, 0), rfl, hW⟩
    case p17 =>
      intro D bq a' w' hk hc he hl hW
      (try dsimp only at hW)
      have f7 : a'.tmps.getD 7 undef = .pointer (some ⟨Rh, 0, none⟩) := (hl 7).trans ((vsy_no rfl).trans rfl)
      exact wp_sloadA _ _ rfl _ f7 1 (Mem.condB (Mem.condB (Mem.condB hW.1))) #[.int .u8 (w8 hi), .bool hs] rfl (by kernel_rfl) (by kernel_rfl) ⟨(0, 0), rfl, hW⟩
    case p18 =>
      intro D bq a' w' hk hc he hl hW
      (try dsimp only at hW)
      have e16 : a'.tmps.getD 45 undef = .agg #[.int .u8 (w8 lo), .bool ls] := (hl 45).trans (vsy_at (f := fun _ => .agg #[.int .u8 (w8 lo), .bool ls]) rfl (he ⟨16, .data⟩ (by simp) rfl) rfl)
      have e17 : a'.tmps.getD 46 undef = .agg #[.int .u8 (w8 hi), .bool hs] := (hl 46).trans (vsy_at (f := fun _ => .agg #[.int .u8 (w8 hi), .bool hs]) rfl (he ⟨17, .data⟩ (by simp) rfl) rfl)
      have n19 : D 19 = false := hc.no .data hk rfl (by simp) rfl
      have hM := hW.1
      simp only [hk, n19, cond_false] at hM
      refine wp_row _ _ _ rfl _ (by simp only [List.map_toArray, List.map_cons, List.map_nil, Act.eval, e16, e17]) _ _ (build_bs2 (w8 lo) ls (w8 hi) hs) ⟨(w'.heap.size, 0), rfl, ?_, fun h => Bool.noConfusion (n19.symm.trans (show D 19 = true from h))⟩
      show Mem w.heap.size [] w _ ((cond (D 22) (((bq 22).1, (cond (D 23) (#[.int .u8 (w8 x), .int .u8 (w8 lo), .int .u8 (w8 hi), .int .u8 (bits .and .u8 (w8 k) 3), .bool (bits .and .u8 (w8 k) 32 != 0), .bool (decide ((i : Int) = 0)), .bool (ys || (ts || (ks || (xs || (ls || hs)))))]) ((unC un0)))) :: ((cond (D 19) (((bq 19).1, cs6 [(y, ys), (t, ts), (w8 k, ks), (w8 x, xs), (w8 lo, ls), (w8 hi, hs)] (bq 19).2) :: ((w'.heap.size, #[.int .u8 (w8 lo), .bool ls, .int .u8 (w8 hi), .bool hs]) :: [(Rr, unC un0), (Rh, #[.int .u8 (w8 hi), .bool hs]), (Rl, #[.int .u8 (w8 lo), .bool ls])])) ((w'.heap.size, #[.int .u8 (w8 lo), .bool ls, .int .u8 (w8 hi), .bool hs]) :: [(Rr, unC un0), (Rh, #[.int .u8 (w8 hi), .bool hs]), (Rl, #[.int .u8 (w8 lo), .bool ls])])))) ((cond (D 19) (((bq 19).1, cs6 [(y, ys), (t, ts), (w8 k, ks), (w8 x, xs), (w8 lo, ls), (w8 hi, hs)] (bq 19).2) :: ((w'.heap.size, #[.int .u8 (w8 lo), .bool ls, .int .u8 (w8 hi), .bool hs]) :: [(Rr, unC un0), (Rh, #[.int .u8 (w8 hi), .bool hs]), (Rl, #[.int .u8 (w8 lo), .bool ls])])) ((w'.heap.size, #[.int .u8 (w8 lo), .bool ls, .int .u8 (w8 hi), .bool hs]) :: [(Rr, unC un0), (Rh, #[.int .u8 (w8 hi), .bool hs]), (Rl, #[.int .u8 (w8 lo), .bool ls])])))))
      rw [n19]
      cases h22 : D 22
      · simp only [h22, cond_false] at hM ⊢
        exact Mem.new hM _ _
      · simp only [h22, cond_true, cond_false] at hM ⊢
        exact (Mem.new hM _ _).perm (List.Perm.swap _ _ _)
    case p19 =>
      intro D bq a' w' hk hc he hl hW
      (try dsimp only at hW)
      have e15 : a'.tmps.getD 44 undef = .slice (some ⟨b, o, none⟩) 4 4 := (hl 44).trans (vsy_at (f := fun _ => .slice (some ⟨b, o, none⟩) 4 4) rfl (he ⟨15, .data⟩ (by simp) rfl) rfl)
      have e18 : a'.tmps.getD 47 undef = .slice (some ⟨(bq 18).1, 0, none⟩) 2 2 := (hl 47).trans (vsy_at (f := fun (g : Nat × Nat) => .slice (some ⟨(g).1, 0, none⟩) 2 2) rfl (he ⟨18, .data⟩ (by simp) rfl) rfl)
      have d18 := he ⟨18, .data⟩ (by simp) rfl
      have hM := hW.1
      simp only [hk, d18, cond_false, cond_true] at hM
      obtain ⟨T18, hT18⟩ := (Mem.condB hM).get (i := 0) rfl
      obtain ⟨cap, c0, c1, hrun⟩ := app_unit 22 (HS.out.below (Mem.toBelow hM)) hT18
      refine wp_apx _ _ _ _ rfl _ _ e15 e18 _ _ hrun ⟨(w'.heap.size, cap), rfl, ?_, fun _ => ⟨c0, c1⟩⟩
      show Mem w.heap.size [] w _ ((cond (D 22) (((bq 22).1, (cond (D 23) (#[.int .u8 (w8 x), .int .u8 (w8 lo), .int .u8 (w8 hi), .int .u8 (bits .and .u8 (w8 k) 3), .bool (bits .and .u8 (w8 k) 32 != 0), .bool (decide ((i : Int) = 0)), .bool (ys || (ts || (ks || (xs || (ls || hs)))))]) ((unC un0)))) :: ((w'.heap.size, cs6 [(y, ys), (t, ts), (w8 k, ks), (w8 x, xs), (w8 lo, ls), (w8 hi, hs)] cap) :: ((cond (D 18) (((bq 18).1, #[.int .u8 (w8 lo), .bool ls, .int .u8 (w8 hi), .bool hs]) :: [(Rr, unC un0), (Rh, #[.int .u8 (w8 hi), .bool hs]), (Rl, #[.int .u8 (w8 lo), .bool ls])]) ([(Rr, unC un0), (Rh, #[.int .u8 (w8 hi), .bool hs]), (Rl, #[.int .u8 (w8 lo), .bool ls])]))))) ((w'.heap.size, cs6 [(y, ys), (t, ts), (w8 k, ks), (w8 x, xs), (w8 lo, ls), (w8 hi, hs)] cap) :: ((cond (D 18) (((bq 18).1, #[.int .u8 (w8 lo), .bool ls, .int .u8 (w8 hi), .bool hs]) :: [(Rr, unC un0), (Rh, #[.int .u8 (w8 hi), .bool hs]), (Rl, #[.int .u8 (w8 lo), .bool ls])]) ([(Rr, unC un0), (Rh, #[.int .u8 (w8 hi), .bool hs]), (Rl, #[.int .u8 (w8 lo), .bool ls])]))))))
      rw [d18]
      cases h22 : D 22
      · simp only [h22, cond_false, cond_true] at hM ⊢
        exact hM.add ((Below.refl _ w').drew.alloc (Nat.le_refl _) _) (Nat.le_refl _) (heap_alloc_new w'.drew _)
      · simp only [h22, cond_true] at hM ⊢
        exact (hM.add ((Below.refl _ w').drew.alloc (Nat.le_refl _) _) (Nat.le_refl _) (heap_alloc_new w'.drew _)).perm (List.Perm.swap _ _ _)
    case p20 =>
      intro D bq a' w' hk hc he hl hW
      (try dsimp only at hW)
      have e19 : a'.tmps.getD 48 undef = .slice (some ⟨(bq 19).1, 0, none⟩) 6 (bq 19).2 := (hl 48).trans (vsy_at (f := fun (g : Nat × Nat) => .slice (some ⟨(g).1, 0, none⟩) 6 (g).2) rfl (he ⟨19, .data⟩ (by simp) rfl) rfl)
      have d19 := he ⟨19, .data⟩ (by simp) rfl
      have hc6 := hW.2 d19
      refine wp_callp (vals := #[.slice (some ⟨(bq 19).1, 0, none⟩) 6 (bq 19).2]) rfl rfl (by simp only [List.map_toArray, List.map_cons, List.map_nil, Act.eval, e19]) (by kernel_rfl) (any_row [(y, ys), (t, ts), (w8 k, ks), (w8 x, xs), (w8 lo, ls), (w8 hi, hs)] (ys || (ts || (ks || (xs || (ls || hs))))) (Mem.ofT d19 (Mem.condB hW.1)) 0 rfl rfl (by simp [anyS]) hc6.1 hc6.2 (cs6_at _ _)) ?_
      rintro e w2 ⟨rfl, hB⟩
      exact ⟨_, rfl, (0, 0), rfl, Mem.next hW.1 hB, hW.2⟩
    case p21 =>
      intro D bq a' w' hk hc he hl hW
      (try dsimp only at hW)
      have e3 : a'.tmps.getD 32 undef = .int .u8 (w8 x) := (hl 32).trans (vsy_at (f := fun _ => .int .u8 (w8 x)) rfl (he ⟨3, .data⟩ (by simp) rfl) rfl)
      have e5 : a'.tmps.getD 34 undef = .int .u8 (w8 lo) := (hl 34).trans (vsy_at (f := fun _ => .int .u8 (w8 lo)) rfl (he ⟨5, .data⟩ (by simp) rfl) rfl)
      have e7 : a'.tmps.getD 36 undef = .int .u8 (w8 hi) := (hl 36).trans (vsy_at (f := fun _ => .int .u8 (w8 hi)) rfl (he ⟨7, .data⟩ (by simp) rfl) rfl)
      have e9 : a'.tmps.getD 38 undef = .int .u8 (bits .and .u8 (w8 k) 3) := (hl 38).trans (vsy_at (f := fun _ => .int .u8 (bits .and .u8 (w8 k) 3)) rfl (he ⟨9, .data⟩ (by simp) rfl) rfl)
      have e12 : a'.tmps.getD 41 undef = .bool (bits .and .u8 (w8 k) 32 != 0) := (hl 41).trans (vsy_at (f := fun _ => .bool (bits .and .u8 (w8 k) 32 != 0)) rfl (he ⟨12, .data⟩ (by simp) rfl) rfl)
      have e14 : a'.tmps.getD 43 undef = .bool (decide ((i : Int) = 0)) := (hl 43).trans (vsy_at (f := fun _ => .bool (decide ((i : Int) = 0))) rfl (he ⟨14, .data⟩ (by simp) rfl) rfl)
      have e20 : a'.tmps.getD 49 undef = .bool (ys || (ts || (ks || (xs || (ls || hs))))) := (hl 49).trans (vsy_at (f := fun _ => .bool (ys || (ts || (ks || (xs || (ls || hs)))))) rfl (he ⟨20, .data⟩ (by simp) rfl) rfl)
      exact wp_val (.agg #[.int .u8 (w8 x), .int .u8 (w8 lo), .int .u8 (w8 hi), .int .u8 (bits .and .u8 (w8 k) 3), .bool (bits .and .u8 (w8 k) 32 != 0), .bool (decide ((i : Int) = 0)), .bool (ys || (ts || (ks || (xs || (ls || hs)))))]) (by simp only [execOp, Act.eval, List.map_toArray, List.map_cons, List.map_nil]; rw [e3, e5, e7, e9, e12, e14, e20]; kernel_rfl) ⟨(0, 0), rfl, hW⟩
    case p22 =>
      intro D bq a' w' hk hc he hl hW
      (try dsimp only at hW)
      have n23 : D 23 = false := hc.no .data hk rfl (by simp) rfl
      have hM := Mem.ofF hk hW.1
      refine wp_alx _ rfl _ HZ.out ⟨(w'.heap.size, 0), rfl, ?_, hW.2⟩
      show Mem w.heap.size [] w _ ((w'.heap.size, (cond (D 23) (#[.int .u8 (w8 x), .int .u8 (w8 lo), .int .u8 (w8 hi), .int .u8 (bits .and .u8 (w8 k) 3), .bool (bits .and .u8 (w8 k) 32 != 0), .bool (decide ((i : Int) = 0)), .bool (ys || (ts || (ks || (xs || (ls || hs)))))]) ((unC un0)))) :: ((cond (D 19) (((bq 19).1, cs6 [(y, ys), (t, ts), (w8 k, ks), (w8 x, xs), (w8 lo, ls), (w8 hi, hs)] (bq 19).2) :: ((cond (D 18) (((bq 18).1, #[.int .u8 (w8 lo), .bool ls, .int .u8 (w8 hi), .bool hs]) :: [(Rr, unC un0), (Rh, #[.int .u8 (w8 hi), .bool hs]), (Rl, #[.int .u8 (w8 lo), .bool ls])]) ([(Rr, unC un0), (Rh, #[.int .u8 (w8 hi), .bool hs]), (Rl, #[.int .u8 (w8 lo), .bool ls])])))) ((cond (D 18) (((bq 18).1, #[.int .u8 (w8 lo), .bool ls, .int .u8 (w8 hi), .bool hs]) :: [(Rr, unC un0), (Rh, #[.int .u8 (w8 hi), .bool hs]), (Rl, #[.int .u8 (w8 lo), .bool ls])]) ([(Rr, unC un0), (Rh, #[.int .u8 (w8 hi), .bool hs]), (Rl, #[.int .u8 (w8 lo), .bool ls])]))))))
      rw [n23]
      exact Mem.new hM _ _
    case p23 =>
      intro D bq a' w' hk hc he hl hW
      (try dsimp only at hW)
      have e22 : a'.tmps.getD 12 undef = .pointer (some ⟨(bq 22).1, 0, none⟩) := (hl 12).trans (vsy_at (f := fun (g : Nat × Nat) => .pointer (some ⟨(g).1, 0, none⟩)) rfl (he ⟨22, .data⟩ (by simp) rfl) rfl)
      have e21 : a'.tmps.getD 50 undef = .agg #[.int .u8 (w8 x), .int .u8 (w8 lo), .int .u8 (w8 hi), .int .u8 (bits .and .u8 (w8 k) 3), .bool (bits .and .u8 (w8 k) 32 != 0), .bool (decide ((i : Int) = 0)), .bool (ys || (ts || (ks || (xs || (ls || hs)))))] := (hl 50).trans (vsy_at (f := fun _ => .agg #[.int .u8 (w8 x), .int .u8 (w8 lo), .int .u8 (w8 hi), .int .u8 (bits .and .u8 (w8 k) 3), .bool (bits .and .u8 (w8 k) 32 != 0), .bool (decide ((i : Int) = 0)), .bool (ys || (ts || (ks || (xs || (ls || hs)))))]) rfl (he ⟨21, .data⟩ (by simp) rfl) rfl)
      have d22 := he ⟨22, .data⟩ (by simp) rfl
      have hM := Mem.ofT d22 hW.1
      simp only [hk, cond_false] at hM
      exact wp_sstoreA _ _ _ rfl rfl (bq 22).1 e22 0 hM _ #[.int .u8 (w8 x), .int .u8 (w8 lo), .int .u8 (w8 hi), .int .u8 (bits .and .u8 (w8 k) 3), .bool (bits .and .u8 (w8 k) 32 != 0), .bool (decide ((i : Int) = 0)), .bool (ys || (ts || (ks || (xs || (ls || hs)))))] rfl e21 (by kernel_rfl) (by rfl) (by kernel_rfl) fun w1 hM1 => ⟨(0, 0), rfl, Mem.condT d22 hM1, hW.2⟩
    intro D bq w' hD hW
    (try dsimp only at hW)
    simp only [hD 18 (by decide), hD 19 (by decide), hD 22 (by decide), hD 23 (by decide), cond_true] at hW
    clear H hD
    have H := hW
    clear hW
    simp only [putAll, vsYf, Nat.reduceAdd, List.foldl_cons, List.foldl_nil, Act.put, List.setIfInBounds_toArray, List.set_cons_succ, List.set_cons_zero]
    replace H := H.1.sub (List.Sublist.cons_cons _ (List.Sublist.cons _ (List.Sublist.cons _ (List.Sublist.refl _))))
    generalize (bq 22).1 = Ru at *
    generalize (bq 19).1 = Ra at *
    generalize (bq 19).2 = ca at *
    generalize (bq 18).1 = Rb at *
    rw [HE.out] at H
    go_wp2_with fail
    (try simp only [Act.put, List.setIfInBounds_toArray, List.set_cons_succ, List.set_cons_zero])
    (refine wp_region_tails_below 7 (by kernel_rfl) (by kernel_rfl) ?_); (simp only [List.take_succ_cons, List.take_zero, List.drop_succ_cons, List.drop_zero]); (repeat (first | (go_big_quiet_want; refine gate_qload _ _ rfl ?_; refine quiet_mload1 5 _ rfl _ _ rfl 3 H _ (.int .u8 _) rfl rfl (by decide +kernel) ?_; simp only [Act.put, List.setIfInBounds_toArray, List.set_cons_succ, List.set_cons_zero]; go_big_quiet_on) | (go_big_quiet_want; refine gate_qload _ _ rfl ?_; refine quiet_mload1 5 _ rfl _ _ rfl 2 H _ (.int .u8 _) rfl rfl (by decide +kernel) ?_; simp only [Act.put, List.setIfInBounds_toArray, List.set_cons_succ, List.set_cons_zero]; go_big_quiet_on) | go_big_quiet_step ((first | (go_at_call 30; (with_reducible exact Calls.regrown_of (QR.out _ _))) | fail)))); (refine wpQuiet_nil ?_); intro _ hw'; obtain ⟨⟨dq, osq⟩, hw''⟩ := hw'; (subst hw''); replace H := H.next (below_regrown _ dq osq); generalize Go.Sort.grow (redrawn _ dq) osq = wq at *
    go_wp2_with (first | (refine gate_store _ _ _ rfl ?_; refine wpList_mstore rfl 5 _ _ rfl rfl _ _ rfl 0 H _ _ rfl (.int .u8 _) rfl (by kernel_rfl) (of_decide_eq_true (by kernel_rfl)) (by kernel_rfl) (un_I rfl rfl) ?_; clear H; intro w1 H; simp only [List.set_cons_zero, List.set_cons_succ] at H) | (refine gate_load _ _ rfl ?_; refine wpList_mloadA rfl 36 _ rfl _ rfl 0 H (unC _) rfl (by decide +kernel) (by kernel_rfl) ?_) | (refine gate_store _ _ _ rfl ?_; refine wpList_mstoreA rfl 36 _ _ rfl rfl _ rfl 1 H (unC _) _ rfl rfl (by kernel_rfl) (by kernel_rfl) (by kernel_rfl) ?_; clear H; intro w1 H; simp only [List.set_cons_zero, List.set_cons_succ] at H) | fail)
    refine ret_mem2 rfl _ rfl 1 H _ rfl (by kernel_rfl) (by kernel_rfl) rfl (.int .i64 0) rfl ?_
    exact ⟨rfl, H.toBelow⟩
end Go.Proofs.Ytphnpahjofacfaa
