/-
  The iterator that hands out ranges as far as they are places of n cells. Over this seat's translation; of ranges that may be.
-/
import Derived.Test.YtjiilcnbajcdhaaJoi
namespace Go.Proofs.Ytjiilcnbajcdhaa
open Go.RowKit Go.Shelf
attribute [local go_sem] Oper.semAt_some

/-- What lies below n₀, but for block g, lies as it lay. -/
def Keep (n₀ g : Nat) (A B : World) : Prop := A.heap.size ≤ B.heap.size ∧ ∀ b, b < n₀ → b ≠ g → B.heap[b]? = A.heap[b]?
theorem Keep.refl (n₀ g : Nat) (A : World) : Keep n₀ g A A := ⟨Nat.le_refl _, fun _ _ _ => rfl⟩
theorem Keep.trans {n₀ g : Nat} {A B C : World} (h : Keep n₀ g A B) (k : Keep n₀ g B C) : Keep n₀ g A C := ⟨Nat.le_trans h.1 k.1, fun b hb hg => (k.2 b hb hg).trans (h.2 b hb hg)⟩
theorem Keep.below {n₀ g : Nat} {A B C : World} (h : Keep n₀ g A B) (k : Below B.heap.size B C) (hn : n₀ ≤ B.heap.size) : Keep n₀ g A C := h.trans ⟨k.size, fun b hb _ => k.block b (by omega)⟩
theorem Keep.cell {n₀ g : Nat} {A B : World} (h : Keep n₀ g A B) {b o : Nat} (hb : b < n₀) (hg : b ≠ g) : B.cell? ⟨b, o, none⟩ = A.cell? ⟨b, o, none⟩ := by
  simp only [World.cell?, h.2 b hb hg]

/-- A range of places of n cells. -/
abbrev Clip (n : Nat) := { x : Int × Int // 0 ≤ x.1 ∧ x.1 ≤ x.2 ∧ x.2 < n }
def clips {n : Nat} (pre : List (Clip n)) : List (Int × Int) := pre.map (·.1)
theorem clips_snoc {n : Nat} (pre : List (Clip n)) (x : Clip n) : clips (pre ++ [x]) = clips pre ++ [x.1] := by simp [clips]
theorem rise_drop : ∀ (l : List (Int × Int)) (k : Nat) {m : Int}, Rise m l → Rise m (l.drop k)
  | [], k, _, _ => by simp [Rise]
  | r :: l, 0, _, h => h
  | r :: l, k + 1, m, ⟨h1, h2, h3⟩ => rise_mono _ (by omega) (rise_drop l k h3)
/-- Of ranges that rise the first ones that begin below n tell of the places below n. -/
theorem clip_end (d : List (Int × Int)) (k n : Nat) (hk : k < d.length) (hr : Rise 0 d) (hn : (n : Int) ≤ (nthR d k).1) (x : Int) (hx : x < n) : inB d x = inB (d.take k) x := by
  have e : d = d.take k ++ d.drop k := (List.take_append_drop k d).symm
  have hd := rise_drop d k hr
  rw [drop_cons' d k (0, 0) hk] at hd
  have : inB (d.drop k) x = false := by
    rw [drop_cons' d k (0, 0) hk, Bool.eq_false_iff]
    intro c
    have := rise_low (d.getD k (0, 0) :: d.drop (k + 1)) (m := (d.getD k (0, 0)).1) ⟨Int.le_refl _, hd.2.1, hd.2.2⟩ c
    change (n : Int) ≤ (d.getD k (0, 0)).1 at hn
    omega
  have h2 := congrArg (fun l => inB l x) e
  simp only [inB_append, this, Bool.or_false] at h2
  exact h2
theorem clip_step (d : List (Int × Int)) (k n : Nat) (pre : List (Clip n)) (hk : k < d.length) (h : ∀ x : Int, x < n → inB (clips pre) x = inB (d.take k) x) (y : Clip n) (hy : y.1 = ((nthR d k).1, min (nthR d k).2 ((n : Int) - 1))) (x : Int) (hx : x < n) :
    inB (clips (pre ++ [y])) x = inB (d.take (k + 1)) x := by
  rw [clips_snoc, take_snoc' d k (0, 0) hk, inB_append, inB_append, h x hx, inB_one, inB_one, hy]
  congr 1
  rw [Bool.eq_iff_iff, inR_iff, inR_iff]
  show ((nthR d k).1 ≤ x ∧ x ≤ min (nthR d k).2 ((n : Int) - 1)) ↔ ((nthR d k).1 ≤ x ∧ x ≤ (nthR d k).2)
  omega

set_option maxRecDepth 100000 in
set_option maxHeartbeats 4000000 in
theorem among1_in (m : Nat) (hm1 : 1 ≤ m) (l Bs Bn g n : Nat) (wA : World) (sv : Value) (d : List (Int × Int)) (J Jx : List (Clip n) → World → Prop)
    (hY : ∀ pre x W, J pre W → pre.length < d.length → YieldAt Fence.wide (m - 1) Try.prog l (encR x.1) W fun e W' =>
      (e = .returned (.bool true) ∧ J (pre ++ [x]) W' ∧ Keep wA.heap.size g W W') ∨ (e = .returned (.bool false) ∧ Jx (pre ++ [x]) W'))
    (hJ : ∀ s W W', Below W.heap.size W W' → J s W → J s W') (W : World) (hBl : Bs < wA.heap.size) (hBs : wA.cell? ⟨Bs, 0, none⟩ = some sv) (hBg : Bs ≠ g) (hNl : Bn < wA.heap.size) (hBn : wA.cell? ⟨Bn, 0, none⟩ = some (.int .i64 n)) (hNg : Bn ≠ g)
    (hr : Rg wA sv d) (hdg : ∀ b off c, sv = .slice (some ⟨b, off, none⟩) d.length c → d ≠ [] → b ≠ g) (hbA : Keep wA.heap.size g wA W) (h0 : J [] W) (hmay : mayB 0 d = true) (hn : n ≤ 65536) :
    CallsIn Fence.wide m Try.prog 56 #[.func (.yield l) #[] #[], .pointer (some ⟨Bs, 0, none⟩), .pointer (some ⟨Bn, 0, none⟩)] W fun e W' => (∃ v, e = .returned v) ∧
      ((∃ ys : List (Clip n), (∀ x : Int, x < n → inB (clips ys) x = inB d x) ∧ J ys W') ∨ (∃ pre, True ∧ Jx pre W')) := by
  obtain ⟨sa, cap, rfl, hcap, hm, hc⟩ := hr
  unfold maxLen at hm
  have hmi := (mayB_iff d 0).1 hmay
  have hwh := mayB_wholes d 0 hmay
  have Hc := Lib.hid hc
  have HJ := Lib.hid hJ
  have Hs := Lib.hid hBs
  have HN := Lib.hid hBn
  have Hm := Lib.hid hmi
  have Hw := Lib.hid hwh
  have Hdg := Lib.hid hdg
  have hcs0 : W.cell? ⟨Bs, 0, none⟩ = some (.slice sa d.length cap) := (hbA.cell hBl hBg).trans hBs
  clear hc hJ hBs hBn hmay hmi hwh hdg
  refine callsIn_of_wp Try.func56 rfl trivial ?_ rfl
  simp only [Try.ntmps56, List.size_toArray, List.length_cons, List.length_nil, Nat.reduceAdd, Nat.reduceSub, Array.replicate_succ, Array.replicate_zero, List.push_toArray, List.append_toArray, List.nil_append, List.cons_append]
  gi_wp2
  gi_loopw [8] (fun i wr => ∃ (k : Nat) (pre : List (Clip n)), k ≤ d.length ∧ i = .int .i64 k ∧ pre.length ≤ k ∧ Hid (∀ x : Int, x < n → inB (clips pre) x = inB (d.take k) x) ∧ J pre wr ∧ Keep wA.heap.size g wA wr)
    (fun i _ => d.length - (intOf i).toNat)
  case atStart => exact ⟨0, [], Nat.zero_le _, rfl, Nat.le_refl _, fun x _ => by simp [clips], h0, hbA⟩
  case round =>
    obtain ⟨k, pre, hk, rfl, hfew, hsame, hJs, hnx⟩ := hrel
    have hcn : wr.cell? ⟨Bn, 0, none⟩ = some (.int .i64 n) := (hnx.cell hNl hNg).trans HN.out
    have hNl' : Bn < wr.heap.size := Nat.lt_of_lt_of_le hNl hnx.1
    by_cases hlt : k < d.length
    · rcases Hc.out with hz | ⟨b, off, rfl, hb, hc⟩
      · rw [hz] at hlt; simp at hlt
      have hbg : b ≠ g := Hdg.out b off cap rfl (fun e => by rw [e] at hlt; simp at hlt)
      obtain ⟨h1, h2⟩ := hc k hlt
      clear hc
      rw [← hnx.cell hb hbg] at h1 h2
      have hwx := (wholeB_iff (nthR d k)).1 (List.all_eq_true.1 Hw.out _ (mem_getD d k (0, 0) hlt))
      have hend := clip_end d k n hlt Hm.out.1
      have hstep := clip_step d k n pre hlt hsame.out
      obtain ⟨x, hx⟩ : ∃ x, nthR d k = x := ⟨_, rfl⟩
      rw [hx] at h1 h2 hwx hend hstep
      clear hx
      obtain ⟨x0, x1, x2⟩ := hwx
      have hna := hnx.below ((Below.refl _ wr).alloc (Nat.le_refl _) (.cells #[.int .i64 x.1, .int .i64 x.2] 68)) hnx.1
      have hJa := HJ.out pre wr _ ((Below.refl _ wr).alloc (Nat.le_refl _) (.cells #[.int .i64 x.1, .int .i64 x.2] 68)) hJs
      by_cases hge : (n : Int) ≤ x.1
      · have Hend : Hid (∀ z : Int, z < n → inB (clips pre) z = inB d z) := fun z hz => by rw [hend hge z hz]; exact hsame.out z hz
        clear hstep hend
        gi_wp2
        refine ⟨fun _ h => (by cases h), ?_⟩
        gi_wp2
        refine bodyPost_ret (results_none rfl _ _ _) rfl ?_
        exact ⟨⟨_, rfl⟩, .inl ⟨_, Hend.out, hJa⟩⟩
      · have Hst := Lib.hid (hstep ⟨(x.1, min x.2 ((n : Int) - 1)), x0, by show x.1 ≤ min _ _; omega, by show min _ _ < _; omega⟩ rfl)
        obtain ⟨fn, tmps, assign, body, hy, hR⟩ := hY pre ⟨(x.1, min x.2 ((n : Int) - 1)), x0, by show x.1 ≤ min _ _; omega, by show min _ _ < _; omega⟩ _ hJa (by omega)
        clear hstep hend
        dsimp only [encR] at hy
        gi_wp2
        refine hR.mono ?_
        rintro e W3 (⟨rfl, hJ3, hk3⟩ | ⟨rfl, hJx3⟩)
        · gi_wp2
          go_roundw
          case rel => exact ⟨k + 1, _, by omega, by simp, by simp; omega, Hst, hJ3, hna.trans hk3⟩
          case measure => simp [intOf]; omega
        · gi_wp2
          refine bodyPost_ret (results_none rfl _ _ _) rfl ?_
          exact ⟨⟨_, rfl⟩, .inr ⟨_, trivial, hJx3⟩⟩
    · have Hend : Hid (∀ z : Int, z < n → inB (clips pre) z = inB d z) := fun z hz => by
        have := hsame.out z hz
        rwa [List.take_of_length_le (by omega)] at this
      have hnm : decide (k < d.length) = false := by simpa using hlt
      gi_wp2
      go_end0
      exact ⟨⟨_, rfl⟩, .inl ⟨_, Hend.out, hJs⟩⟩
end Go.Proofs.Ytjiilcnbajcdhaa
