/-
  Package cells' Secrets, by its iterator: what comes back are the ranges of the secret cells. Over this seat's translation; of at most 100000 cells.
-/
import Derived.Test.YtinbankkpbdlbaaJoi
import Derived.Test.YtinbankkpbdlbaaRef
import Derived.Test.YtinbankkpbdlbaaMak
namespace Go.Proofs.Ytinbankkpbdlbaa
open Go.RowKit Go.Shelf
attribute [local go_sem] Oper.semAt_some

theorem rise_len2 : ∀ (l : List (Int × Int)) {m M : Int}, Rise m l → (∀ r ∈ l, r.2 < M) → (l.length : Int) ≤ max 0 (M - m)
  | [], _, _, _, _ => by simp; omega
  | r :: l, m, M, ⟨h1, h2, h3⟩, h => by
    have := rise_len2 l h3 fun q hq => h q (List.mem_cons_of_mem _ hq)
    have := h r (List.mem_cons_self ..)
    simp only [List.length_cons]
    omega
theorem Marked.cut {m : Nat → Bool} {p : List (Int × Int)} {i n : Nat} (h : Marked m p i) (hn : n ≤ i) (hf : ∀ j, n ≤ j → m j = false) : Marked m p n := by
  have hs : ∀ x, inB p x = (decide (0 ≤ x ∧ x < (n : Int)) && m x.toNat) := fun x => by
    rw [h.same]
    by_cases e : 0 ≤ x ∧ x < (n : Int)
    · rw [decide_eq_true e, decide_eq_true (by omega)]
    · rw [decide_eq_false e, Bool.false_and]
      by_cases e2 : 0 ≤ x ∧ x < (i : Int)
      · rw [hf x.toNat (by omega), Bool.and_false]
      · rw [decide_eq_false e2, Bool.false_and]
  refine ⟨h.rise, hs, ?_⟩
  have := rise_len2 p (M := n) h.rise fun r hr => by
    have h1 := rise_mem p h.rise r hr
    have h2 := hs r.2
    rw [(inB_iff p r.2).2 ⟨r, hr, h1.2, Int.le_refl _⟩] at h2
    by_cases e : 0 ≤ r.2 ∧ r.2 < (n : Int)
    · exact e.2
    · rw [decide_eq_false e, Bool.false_and] at h2
      cases h2
  omega
theorem nth_out (l : List (Int × Bool)) (j : Nat) (h : l.length ≤ j) : (nth l j).2 = false := by simp [nth, h]

set_option maxRecDepth 100000 in
set_option maxHeartbeats 4000000 in
theorem secrets1_in (n : Nat) (hn : 1 ≤ n) (l Bs g : Nat) (wA : World) (sv : Value) (d : List (Int × Bool)) (J Jx : List (Int × Int) → World → Prop)
    (hY : ∀ pre x W, J pre W → pre.length < d.length → YieldAt Fence.wide (n - 1) Try.prog l (encR x) W fun e W' =>
      (e = .returned (.bool true) ∧ J (pre ++ [x]) W' ∧ Keep wA.heap.size g W W') ∨ (e = .returned (.bool false) ∧ Jx (pre ++ [x]) W'))
    (hJ : ∀ s W W', Below W.heap.size W W' → J s W → J s W') (W : World) (hBl : Bs < wA.heap.size) (hBs : wA.cell? ⟨Bs, 0, none⟩ = some sv) (hBg : Bs ≠ g) (hr : Rd wA sv d) (hdg : ∀ b off c, sv = .slice (some ⟨b, off, none⟩) d.length c → d ≠ [] → b ≠ g) (hlen : d.length ≤ 100000) (hbA : Keep wA.heap.size g wA W) (h0 : J [] W) :
    CallsIn Fence.wide n Try.prog 59 #[.func (.yield l) #[] #[], .pointer (some ⟨Bs, 0, none⟩)] W fun e W' => (∃ v, e = .returned v) ∧
      ((∃ ys, Marked (fun j => (nth d j).2) ys d.length ∧ J ys W') ∨ (∃ pre, True ∧ Jx pre W')) := by
  obtain ⟨sa, cap, rfl, hcap, hm, hc⟩ := hr
  unfold maxLen at hm
  have Hc := Lib.hid hc
  have HJ := Lib.hid hJ
  have Hs := Lib.hid hBs
  have Hdg := Lib.hid hdg
  clear hc hJ hBs hdg
  refine callsIn_of_wp Try.func59 rfl trivial ?_ rfl
  simp only [Try.ntmps59, List.size_toArray, List.length_cons, List.length_nil, Nat.reduceAdd, Nat.reduceSub, Array.replicate_succ, Array.replicate_zero, List.push_toArray, List.append_toArray, List.nil_append, List.cons_append]
  gi_wp2
  gi_loopw [3, 4] (fun i _ wr => ∃ (k : Nat) (pre : List (Int × Int)), k ≤ d.length + 1 ∧ i = .int .i64 k ∧ Hid (Marked (fun j => (nth d j).2) pre k) ∧ Hid (k = 0 ∨ (nth d (k - 1)).2 = false) ∧ J pre wr ∧ Keep wA.heap.size g wA wr)
    (fun i _ _ => d.length + 1 - (intOf i).toNat)
  case atStart => exact ⟨0, [], Nat.zero_le _, rfl, Marked.start _, .inl rfl, h0, hbA⟩
  case round =>
    obtain ⟨k, pre, hk, rfl, hmk, hgap, hJs, hnx⟩ := hrel
    obtain ⟨wo, rfl⟩ : ∃ wo : World, wo = wr := ⟨_, rfl⟩
    have hcs : wo.cell? ⟨Bs, 0, none⟩ = some (.slice sa d.length cap) := (hnx.cell hBl hBg).trans Hs.out
    by_cases hlt : k < d.length
    · rcases Hc.out with hz | ⟨b, off, rfl, hb, hc⟩
      · rw [hz] at hlt; simp at hlt
      have hbg : b ≠ g := Hdg.out b off cap rfl (fun e => by rw [e] at hlt; simp at hlt)
      have Hc' := Lib.hid hc
      clear hc
      have hBl' : Bs < wo.heap.size := Nat.lt_of_lt_of_le hBl hnx.1
      have hb' : b < wo.heap.size := Nat.lt_of_lt_of_le hb hnx.1
      gi_wp2
      gi_loopw [3] (fun i wx => ∃ (q : Nat), k ≤ q ∧ q ≤ d.length ∧ i = .int .i64 q ∧ Hid (∀ j, k ≤ j → j < q → (nth d j).2 = true) ∧ Below wo.heap.size wo wx)
        (fun i _ => d.length - (intOf i).toNat)
      case atStart => exact ⟨k, Nat.le_refl _, by omega, rfl, fun j h1 h2 => absurd h1 (by omega), Below.refl _ _⟩
      case round =>
        obtain ⟨q, hkq, hqd, rfl, hall, hgx⟩ := hrel
        have hcs2 : wr.cell? ⟨Bs, 0, none⟩ = some (.slice (some ⟨b, off, none⟩) d.length cap) := (hgx.cell (p := ⟨Bs, 0, none⟩) hBl').trans hcs
        by_cases hqlt : q < d.length
        · obtain ⟨g1, g2⟩ := Hc'.out q hqlt
          rw [← hnx.cell hb hbg, ← hgx.cell hb'] at g1 g2
          obtain ⟨v, hv⟩ : ∃ v, v = (nth d q).1 := ⟨_, rfl⟩
          obtain ⟨x, hx⟩ : ∃ x, x = (nth d q).2 := ⟨_, rfl⟩
          rw [← hv] at g1
          rw [← hx] at g2
          clear hv
          have hany := any_ct (.slice (some ⟨wr.heap.size, 0, none⟩) 1 1) [(v, x)] (wr.alloc (.cells #[.int .u8 v, .bool x] 41)) (rd1 rfl v x _)
          rw [anyS_one] at hany
          have hga : Below wo.heap.size wo (wr.alloc (.cells #[.int .u8 v, .bool x] 41)) := hgx.alloc hgx.size _
          cases x
          · have hmq : (nth d q).2 = false := hx.symm
            clear hx
            gi_wp2_with fail
            first | (refine ⟨trivial, ?_⟩; (refine (callsIn_wide.2 hany).mono ?_)) | (refine (callsIn_wide.2 hany).mono ?_)
            rintro e wy ⟨rfl, hy⟩
            have hgw := hga.next hy
            by_cases hkq2 : k < q
            · have Hst := Lib.hid ((hmk.out.stretch hkq2 hgap.out hall.out).skip hmq)
              have Hgap := Lib.hid (show q + 1 = 0 ∨ (nth d (q + 1 - 1)).2 = false from .inr hmq)
              have hfew : pre.length < d.length := by have := hmk.out.few; omega
              have hJq := HJ.out pre wo wy hgw hJs
              have hnq := hnx.below hgw hnx.1
              obtain ⟨fn, tmps, assign, body, hy', hR⟩ := hY pre ((k : Int), (q : Int) - 1) _ hJq hfew
              dsimp only [encR] at hy'
              clear hmq hall hmk hgap
              gi_wp2
              refine hR.mono ?_
              rintro e W3 (⟨rfl, hJ3, hk3⟩ | ⟨rfl, hJx3⟩)
              · gi_wp2
                go_roundw
                case rel => exact ⟨q + 1, _, by omega, by go_num, Hst, Hgap, hJ3, hnq.trans hk3⟩
                case measure => simp [intOf]; omega
              · gi_wp2
                refine bodyPost_ret (results_none rfl _ _ _) rfl ?_
                exact ⟨⟨_, rfl⟩, .inr ⟨_, trivial, hJx3⟩⟩
            · obtain rfl : q = k := by omega
              have Hst := Lib.hid (hmk.out.skip hmq)
              have Hgap := Lib.hid (show q + 1 = 0 ∨ (nth d (q + 1 - 1)).2 = false from .inr hmq)
              have hJq := HJ.out pre wo wy hgw hJs
              have hnq := hnx.below hgw hnx.1
              have hqq : decide (q < q) = false := decide_eq_false (by omega)
              clear hmq hall hmk hgap
              gi_wp2
              first | (refine ⟨fun _ h => (by cases h), ?_⟩; gi_wp2) | skip
              go_roundw
              case rel => exact ⟨q + 1, _, by omega, by go_num, Hst, Hgap, hJq, hnq⟩
              case measure => simp [intOf]; omega
          · have Hall : Hid (∀ j, k ≤ j → j < q + 1 → (nth d j).2 = true) := fun j h1 h2 => by
              by_cases e : j = q
              · subst e; exact hx.symm
              · exact hall.out j h1 (by omega)
            clear hx hall
            gi_wp2_with (first | (gi_at_call 60; refine (callsIn_wide.2 hany).mono ?_; rintro e wy ⟨rfl, hy⟩) | (refine ⟨trivial, ?_⟩; gi_at_call 60; refine (callsIn_wide.2 hany).mono ?_; rintro e wy ⟨rfl, hy⟩))
            go_roundw
            case rel => exact ⟨q + 1, by omega, by omega, by go_num, Hall, hga.next hy⟩
            case measure => simp [intOf]; omega
        · have hmq : (nth d q).2 = false := nth_out d q (by omega)
          have hnm : decide (q < d.length) = false := decide_eq_false hqlt
          have hgw := hgx
          have hkq2 : k < q := by omega
          · have Hst := Lib.hid ((hmk.out.stretch hkq2 hgap.out hall.out).skip hmq)
            have Hgap := Lib.hid (show q + 1 = 0 ∨ (nth d (q + 1 - 1)).2 = false from .inr hmq)
            have hfew : pre.length < d.length := by have := hmk.out.few; omega
            have hJq := HJ.out pre wo wr hgw hJs
            have hnq := hnx.below hgw hnx.1
            obtain ⟨fn, tmps, assign, body, hy', hR⟩ := hY pre ((k : Int), (q : Int) - 1) _ hJq hfew
            dsimp only [encR] at hy'
            clear hmq hall hmk hgap
            gi_wp2
            refine ⟨trivial, ?_⟩
            gi_wp2
            refine hR.mono ?_
            rintro e W3 (⟨rfl, hJ3, hk3⟩ | ⟨rfl, hJx3⟩)
            · gi_wp2
              go_roundw
              case rel => exact ⟨q + 1, _, by omega, by go_num, Hst, Hgap, hJ3, hnq.trans hk3⟩
              case measure => simp [intOf]; omega
            · gi_wp2
              refine bodyPost_ret (results_none rfl _ _ _) rfl ?_
              exact ⟨⟨_, rfl⟩, .inr ⟨_, trivial, hJx3⟩⟩
    · have Hend := Lib.hid (hmk.out.cut (n := d.length) (by omega) (fun j h => nth_out d j h))
      have hnm : decide (k < d.length) = false := decide_eq_false hlt
      gi_wp2
      go_end0
      exact ⟨⟨_, rfl⟩, .inl ⟨_, Hend.out, hJs⟩⟩
theorem secrets_stops (n : Nat) (hn : 1 ≤ n) (Bs g : Nat) (wA : World) (sv : Value) (d : List (Int × Bool)) (w : World) (hBl : Bs < wA.heap.size) (hc : wA.cell? ⟨Bs, 0, none⟩ = some sv) (hBg : Bs ≠ g) (hr : Rd wA sv d) (hdg : ∀ b off c, sv = .slice (some ⟨b, off, none⟩) d.length c → d ≠ [] → b ≠ g) (hlen : d.length ≤ 100000) (hbA : Below wA.heap.size wA w) :
    SeqStopsK Fence.wide n Try.prog 59 #[.pointer (some ⟨Bs, 0, none⟩)] encR (Keep wA.heap.size g) (fun ys => Marked (fun j => (nth d j).2) ys d.length) (fun _ => True) d.length w := fun l J Jx W hW hJ _ hY h0 =>
  secrets1_in n hn l Bs g wA sv d J Jx hY (fun _ _ _ hb hs => abides_below hJ hb hs) W hBl hc hBg hr hdg hlen ((Keep.refl _ _ _).below (hbA.trans (hW.mono hbA.size)) (Nat.le_refl _)) h0
set_option maxHeartbeats 1000000 in
theorem secrets_ct (a : Option Addr) (len cap : Nat) (w : World) :
    Calls Try.prog 45 #[.slice a len cap] w fun e w' => e = .returned (.func (.func 59) #[] #[.pointer (some ⟨w.heap.size, 0, none⟩)]) ∧ w.alloc (.cells #[.slice a len cap] 32) = w' := by
  go_enter Try.func45, Try.ntmps45
  go_wp2
  go_ret
  exact ⟨rfl, rfl⟩
theorem ownsRow_weak {W : World} {n₀ n₁ : Nat} {e : TypeId} {size k : Nat} {v : Value} {xs : List Value} (h : W.ownsRow n₀ e size v k xs) (hn : n₁ ≤ n₀) : W.ownsRow n₁ e size v k xs := by
  refine ⟨h.1, ?_⟩
  rcases h.2 with h | ⟨g, cap, cur, h1, h2, h3⟩
  · exact .inl h
  · exact .inr ⟨g, cap, cur, h1, Nat.le_trans hn h2, h3⟩
/-- Behind an append and the store of what it handed back into box B, whatever lay below n₀ but for the box lies as it lay. -/
theorem keep_appended {W w1 : World} {n₀ B : Nat} {e : TypeId} {size k : Nat} {v v' : Value} {xs : List Value} {tmp : Obj}
    (hrow : W.ownsRow n₀ e size v k xs) (hn₀ : n₀ ≤ W.heap.size) (hgrow : (W.alloc tmp).grownBy w1 v.ownBlock) : Keep n₀ B W (w1.setCell ⟨B, 0, none⟩ v') := by
  have hk : Keep n₀ B W w1 := by
    refine ⟨Nat.le_trans (by simp) hgrow.size, fun b hb _ => (hgrow.block b (by simp; omega) fun ej => ?_).trans (((Below.refl _ W).alloc (Nat.le_refl _) tmp).block b (by omega))⟩
    rcases hrow.2 with ⟨rfl, _⟩ | ⟨g, cap, cur, rfl, hb2, _, _⟩
    · simp [Value.ownBlock] at ej
    · obtain rfl : b = g := by simpa [Value.ownBlock] using ej
      omega
  exact hk.set _ _
end Go.Proofs.Ytinbankkpbdlbaa
