/-
  Package sprite's rowOf and Address. Over this seat's translation; no condition. (Written by gen_sp.py.)
-/
import Derived.Test.YtphnpahjofacfaaSpx
import Derived.Test.YtphnpahjofacfaaAlp
namespace Go.Proofs.Ytphnpahjofacfaa
open Go.RowKit Go.Sort
set_option linter.unusedSimpArgs false
set_option linter.unusedVariables false
set_option maxRecDepth 20000

/-- The four bytes of a sprite. -/
structure Sb (w : World) (b o : Nat) (y t k x : Int) (ys ts ks xs : Bool) : Prop where
  lt : b < w.heap.size
  y0 : w.cell? ⟨b, o, none⟩ = some (.int .u8 y)
  y1 : w.cell? ⟨b, o + 1, none⟩ = some (.bool ys)
  t0 : w.cell? ⟨b, o + 2, none⟩ = some (.int .u8 t)
  t1 : w.cell? ⟨b, o + 3, none⟩ = some (.bool ts)
  k0 : w.cell? ⟨b, o + 4, none⟩ = some (.int .u8 k)
  k1 : w.cell? ⟨b, o + 5, none⟩ = some (.bool ks)
  x0 : w.cell? ⟨b, o + 6, none⟩ = some (.int .u8 x)
  x1 : w.cell? ⟨b, o + 7, none⟩ = some (.bool xs)
theorem Ls.sb {w : World} {b off : Nat} {l : List (Int × Bool)} (h : Ls w b off l) (i : Nat) (hi : 4 * i + 3 < l.length) : Sb w b (off + i * 8) (nth l (4 * i)).1 (nth l (4 * i + 1)).1 (nth l (4 * i + 2)).1 (nth l (4 * i + 3)).1 (nth l (4 * i)).2 (nth l (4 * i + 1)).2 (nth l (4 * i + 2)).2 (nth l (4 * i + 3)).2 := by
  obtain ⟨a0, a1⟩ := h.at_ (4 * i) (by omega)
  obtain ⟨b0, b1⟩ := h.at_ (4 * i + 1) (by omega)
  obtain ⟨c0, c1⟩ := h.at_ (4 * i + 2) (by omega)
  obtain ⟨d0, d1⟩ := h.at_ (4 * i + 3) (by omega)
  rw [show off + 4 * i * 2 = off + i * 8 by omega] at a0 a1
  rw [show off + (4 * i + 1) * 2 = off + i * 8 + 2 by omega] at b0 b1
  rw [show off + (4 * i + 2) * 2 = off + i * 8 + 4 by omega] at c0 c1
  rw [show off + (4 * i + 3) * 2 = off + i * 8 + 6 by omega] at d0 d1
  exact ⟨h.lt, a0, a1, b0, b1, c0, c1, d0, d1⟩
theorem Sb.below {w w' : World} {b o : Nat} {y t k x : Int} {ys ts ks xs : Bool} (h : Sb w b o y t k x ys ts ks xs) (hb : Below w.heap.size w w') : Sb w' b o y t k x ys ts ks xs where
  lt := Nat.lt_of_lt_of_le h.lt hb.size
  y0 := (hb.cell (p := ⟨b, _, none⟩) h.lt).trans h.y0
  y1 := (hb.cell (p := ⟨b, _, none⟩) h.lt).trans h.y1
  t0 := (hb.cell (p := ⟨b, _, none⟩) h.lt).trans h.t0
  t1 := (hb.cell (p := ⟨b, _, none⟩) h.lt).trans h.t1
  k0 := (hb.cell (p := ⟨b, _, none⟩) h.lt).trans h.k0
  k1 := (hb.cell (p := ⟨b, _, none⟩) h.lt).trans h.k1
  x0 := (hb.cell (p := ⟨b, _, none⟩) h.lt).trans h.x0
  x1 := (hb.cell (p := ⟨b, _, none⟩) h.lt).trans h.x1
theorem bit128 (x : Int) (h0 : 0 ≤ x) (h1 : x < 256) : bits .and .u8 x 128 = if x < 128 then 0 else 128 := byte_all (p := fun x => bits .and .u8 x 128 = if x < 128 then 0 else 128) (by decide +kernel) x h0 h1
attribute [local irreducible] wpList
set_option maxHeartbeats 2000000 in
theorem rowof_ct (b o : Nat) (y t k x line : Int) (ys ts ks xs tl : Bool) (w : World) (hS : Sb w b o y t k x ys ts ks xs) (y0 : 0 ≤ y) (y1 : y < 256) (k0 : 0 ≤ k) (k1 : k < 256) (l0 : 0 ≤ line) (l1 : line < 256) :
    Calls Try.prog 28 #[.slice (some ⟨b, o, none⟩) 4 4, .int .i64 line, .bool tl] w fun e w' => e = .returned (.int .i64 (rwS line y k tl)) ∧ Below w.heap.size w w' := by
  have QL := Lib.hid (fun wr h => belowS_ct b o y line y0 y1 l0 l1 wr h)
  have HS := Lib.hid hS
  have hk := bit128 k k0 k1
  have H := Mem.start w
  unfold rwS
  cases tl
  · have QH := Lib.hid (show ∀ wr : World, Calls Try.prog 37 #[.bool false] wr fun e w' => e = .returned (.int .i64 8) ∧ Below wr.heap.size wr w' from fun wr => heightS_ct false wr)
    have a7 := ands7 (line - y)
    have b7 : 0 ≤ (line - y) % 8 ∧ (line - y) % 8 < 8 := by omega
    show Calls _ _ _ _ fun e w' => e = .returned (.int .i64 (if k < 128 then (line - y) % 8 else 8 - 1 - (line - y) % 8)) ∧ _
    generalize (line - y) % 8 = r at *
    by_cases h : k < 128
    · rw [if_pos h] at hk ⊢
      go_enter Try.func28, Try.ntmps28
      go_wp2_with (first | (go_at_call 37; (with_reducible refine (QH.out _).mono ?_); rintro e w2 ⟨rfl, hB⟩; replace H := H.next hB; clear hB) | (go_at_call 36; (with_reducible refine (QL.out _ (HS.out.below H.toBelow).y0).mono ?_); rintro e w2 ⟨rfl, hB⟩; replace H := H.next hB; clear hB; have z4 := (HS.out.below H.toBelow).k0) | fail)
      go_ret
      exact ⟨rfl, H.toBelow⟩
    · rw [if_neg h] at hk ⊢
      go_enter Try.func28, Try.ntmps28
      go_wp2_with (first | (go_at_call 37; (with_reducible refine (QH.out _).mono ?_); rintro e w2 ⟨rfl, hB⟩; replace H := H.next hB; clear hB) | (go_at_call 36; (with_reducible refine (QL.out _ (HS.out.below H.toBelow).y0).mono ?_); rintro e w2 ⟨rfl, hB⟩; replace H := H.next hB; clear hB; have z4 := (HS.out.below H.toBelow).k0) | fail)
      go_ret
      exact ⟨rfl, H.toBelow⟩
  · have QH := Lib.hid (show ∀ wr : World, Calls Try.prog 37 #[.bool true] wr fun e w' => e = .returned (.int .i64 16) ∧ Below wr.heap.size wr w' from fun wr => heightS_ct true wr)
    have a7 := ands15 (line - y)
    have b7 : 0 ≤ (line - y) % 16 ∧ (line - y) % 16 < 16 := by omega
    show Calls _ _ _ _ fun e w' => e = .returned (.int .i64 (if k < 128 then (line - y) % 16 else 16 - 1 - (line - y) % 16)) ∧ _
    generalize (line - y) % 16 = r at *
    by_cases h : k < 128
    · rw [if_pos h] at hk ⊢
      go_enter Try.func28, Try.ntmps28
      go_wp2_with (first | (go_at_call 37; (with_reducible refine (QH.out _).mono ?_); rintro e w2 ⟨rfl, hB⟩; replace H := H.next hB; clear hB) | (go_at_call 36; (with_reducible refine (QL.out _ (HS.out.below H.toBelow).y0).mono ?_); rintro e w2 ⟨rfl, hB⟩; replace H := H.next hB; clear hB; have z4 := (HS.out.below H.toBelow).k0) | fail)
      go_ret
      exact ⟨rfl, H.toBelow⟩
    · rw [if_neg h] at hk ⊢
      go_enter Try.func28, Try.ntmps28
      go_wp2_with (first | (go_at_call 37; (with_reducible refine (QH.out _).mono ?_); rintro e w2 ⟨rfl, hB⟩; replace H := H.next hB; clear hB) | (go_at_call 36; (with_reducible refine (QL.out _ (HS.out.below H.toBelow).y0).mono ?_); rintro e w2 ⟨rfl, hB⟩; replace H := H.next hB; clear hB; have z4 := (HS.out.below H.toBelow).k0) | fail)
      go_ret
      exact ⟨rfl, H.toBelow⟩
theorem sp_tmp3 {fn : Func} {t u v : Tmp} (h : fn.results = #[.tmp t, .tmp u, .tmp v]) (tmps : Array Value) (P : Program) (w : World) :
    (results fn tmps).run P w = .ok (.tuple #[tmps.getD t undef, tmps.getD u undef, tmps.getD v undef]) w := by
  simp [results, h]
def adrL (l : List (Int × Bool)) (i : Nat) (line : Int) (tl tb : Bool) : Int := adrS line (nth l (4 * i)).1 (nth l (4 * i + 1)).1 (nth l (4 * i + 2)).1 tl tb
def secA (l : List (Int × Bool)) (i : Nat) : Bool := (nth l (4 * i)).2 || ((nth l (4 * i + 1)).2 || (nth l (4 * i + 2)).2)
set_option maxHeartbeats 2000000 in
theorem saddr_no1 (a : Option Addr) (n cap : Nat) (i line : Int) (tl tb : Bool) (hn : n ≠ 256) (w : World) : Calls Try.prog 10 #[.slice a n cap, .int .i64 i, .int .i64 line, .bool tl, .bool tb] w fun e w' => e = .returned (.tuple #[.int .u16 0, .bool false, .int .i64 1]) ∧ Below w.heap.size w w' := by
  have Q1 := isall_ct a n cap
  rw [decide_eq_false hn] at Q1
  have H := Mem.start w
  go_enter Try.func10, Try.ntmps10
  go_wp2_with (first | (go_at_call 22; (with_reducible refine (Q1 _).mono ?_); rintro e w2 ⟨rfl, hB⟩; replace H := H.next hB; clear hB) | fail)
  (try simp only [Exit.inBlock, Exit.then]); refine bodyPost_ret (sp_tmp3 rfl _ _ _) rfl ?_
  exact ⟨rfl, H.toBelow⟩
set_option maxHeartbeats 2000000 in
theorem saddr_no2 (a : Option Addr) (cap : Nat) (i line : Int) (tl tb : Bool) (hn : lineB line = false) (w : World) : Calls Try.prog 10 #[.slice a 256 cap, .int .i64 i, .int .i64 line, .bool tl, .bool tb] w fun e w' => e = .returned (.tuple #[.int .u16 0, .bool false, .int .i64 1]) ∧ Below w.heap.size w w' := by
  have Q1 := isall_ct a 256 cap
  have Q2 := isline_ct line
  rw [decide_eq_true rfl] at Q1
  rw [hn] at Q2
  have H := Mem.start w
  go_enter Try.func10, Try.ntmps10
  go_wp2_with (first | (go_at_call 22; (with_reducible refine (Q1 _).mono ?_); rintro e w2 ⟨rfl, hB⟩; replace H := H.next hB; clear hB) | (go_at_call 23; (with_reducible refine (Q2 _).mono ?_); rintro e w2 ⟨rfl, hB⟩; replace H := H.next hB; clear hB) | fail)
  (try simp only [Exit.inBlock, Exit.then]); refine bodyPost_ret (sp_tmp3 rfl _ _ _) rfl ?_
  exact ⟨rfl, H.toBelow⟩
set_option maxHeartbeats 2000000 in
theorem saddr_no3 (a : Option Addr) (cap : Nat) (i line : Int) (tl tb : Bool) (hn : lineB line = true) (ho : oneS i = false) (w : World) : Calls Try.prog 10 #[.slice a 256 cap, .int .i64 i, .int .i64 line, .bool tl, .bool tb] w fun e w' => e = .returned (.tuple #[.int .u16 0, .bool false, .int .i64 1]) ∧ Below w.heap.size w w' := by
  have Q1 := isall_ct a 256 cap
  have Q2 := isline_ct line
  have Q3 := isone_ct i
  rw [decide_eq_true rfl] at Q1
  rw [hn] at Q2
  rw [ho] at Q3
  have H := Mem.start w
  go_enter Try.func10, Try.ntmps10
  go_wp2_with (first | (go_at_call 22; (with_reducible refine (Q1 _).mono ?_); rintro e w2 ⟨rfl, hB⟩; replace H := H.next hB; clear hB) | (go_at_call 23; (with_reducible refine (Q2 _).mono ?_); rintro e w2 ⟨rfl, hB⟩; replace H := H.next hB; clear hB) | (go_at_call 26; (with_reducible refine (Q3 _).mono ?_); rintro e w2 ⟨rfl, hB⟩; replace H := H.next hB; clear hB) | fail)
  (try simp only [Exit.inBlock, Exit.then]); refine bodyPost_ret (sp_tmp3 rfl _ _ _) rfl ?_
  exact ⟨rfl, H.toBelow⟩
theorem saddr_in (b off cap i : Nat) (y t k x line : Int) (ys ts ks xs tl tb : Bool) (w : World) (hS : Sb w b (off + i * 8) y t k x ys ts ks xs) (y0 : 0 ≤ y) (y1 : y < 256) (t0 : 0 ≤ t) (t1 : t < 256) (k0 : 0 ≤ k) (k1 : k < 256) (l0 : 0 ≤ line) (l1 : line < 256) (hi : i < 64) (hc : 256 ≤ cap) (hm : cap ≤ maxLen) :
    Calls Try.prog 10 #[.slice (some ⟨b, off, none⟩) 256 cap, .int .i64 (i : Int), .int .i64 line, .bool tl, .bool tb] w fun e w' => e = .returned (.tuple #[.int .u16 (adrS line y t k tl tb), .bool (ys || (ts || ks)), .int .i64 0]) ∧ Below w.heap.size w w' := by
  have Q1 := isall_ct (some ⟨b, off, none⟩) 256 cap
  have Q2 := isline_ct line
  have Q3 := isone_ct (i : Int)
  rw [decide_eq_true rfl] at Q1
  rw [show lineB line = true by simp [lineB, l0, l1]] at Q2
  rw [show oneS (i : Int) = true by simp [oneS]; omega] at Q3
  have QB := Lib.hid (fun wr => bytesof_ct b off cap i hi hc hm wr)
  obtain ⟨o, ho⟩ : ∃ o, off + i * 8 = o := ⟨_, rfl⟩
  rw [ho] at QB hS
  have QR := Lib.hid (fun wr h => rowof_ct b o y t k x line ys ts ks xs tl wr h y0 y1 k0 k1 l0 l1)
  have HS := Lib.hid hS
  have H := Mem.start w
  have hr := rwS_lt line y k tl
  have hg := highS_lt tl
  have hE : adrS line y t k tl tb = if tl = true then t % 2 * 4096 + 16 * (t - t % 2) + (if rwS line y k tl < 8 then rwS line y k tl else rwS line y k tl + 8) else (if tb = true then 4096 else 0) + 16 * t + rwS line y k tl := rfl
  rw [hE]
  clear hE
  generalize rwS line y k tl = r at *
  have a1 := ands1 t
  have a2 := notS1 t t0 t1
  obtain ⟨u, hu⟩ : ∃ u, bits .andNot .i64 t 1 = u := ⟨_, rfl⟩
  rw [hu] at a2
  have u0 : 0 ≤ u ∧ u < 256 := by omega
  have A2 := Lib.hid a2
  clear a2 hS hm
  cases tl
  · have hr8 : r < 8 := by simp [highS] at hg hr; omega
    cases tb
    · skip
      go_enter Try.func10, Try.ntmps10
      go_wp2_with (first | (go_at_call 22; (with_reducible refine (Q1 _).mono ?_); rintro e w2 ⟨rfl, hB⟩; replace H := H.next hB; clear hB) | (go_at_call 23; (with_reducible refine (Q2 _).mono ?_); rintro e w2 ⟨rfl, hB⟩; replace H := H.next hB; clear hB) | (go_at_call 26; (with_reducible refine (Q3 _).mono ?_); rintro e w2 ⟨rfl, hB⟩; replace H := H.next hB; clear hB) | (go_at_call 27; (with_reducible refine (QB.out _).mono ?_); rintro e w2 ⟨rfl, hB⟩; replace H := H.next hB; clear hB) | fail)
      have z0 := (HS.out.below H.toBelow).t0
      have r0 := cell_regrown z0
      (try simp only [Act.put, List.setIfInBounds_toArray, List.set_cons_succ, List.set_cons_zero])
      (refine wp_region_quiet_below (by kernel_rfl) (by kernel_rfl) ?_); (repeat (first | go_big_quiet_step ((first | (go_at_call 28; (with_reducible exact Calls.regrown_of (QR.out _ ((HS.out.below H.toBelow).below (below_regrown _ _ _))))) | fail)))); (refine wpQuiet_nil ?_); intro _ hw'; obtain ⟨⟨dq, osq⟩, hw''⟩ := hw'; (subst hw''); replace H := H.next (below_regrown _ dq osq); generalize Go.Sort.grow (redrawn _ dq) osq = wq at *
      clear z0 r0
      go_wp2_with fail
      (try simp only [Act.put, List.setIfInBounds_toArray, List.set_cons_succ, List.set_cons_zero])
      refine wp_region_x (by kernel_rfl) (by kernel_rfl) [(some 59, fun _ => .int .i64 (t * 16 + r)), (some 60, fun _ => .int .u16 (IntKind.u16.wrap (t * 16 + r))), (some 61, fun _ => .slice (some ⟨b, o, none⟩) 4 4), (some 62, fun _ => .pointer (some ⟨b, o, none⟩)), (some 63, fun _ => .agg #[.int .u8 y, .bool ys]), (some 64, fun _ => .slice (some ⟨b, o, none⟩) 4 4), (some 65, fun _ => .pointer (some ⟨b, o + 2, none⟩)), (some 66, fun _ => .agg #[.int .u8 t, .bool ts]), (some 67, fun _ => .slice (some ⟨b, o, none⟩) 4 4), (some 68, fun _ => .pointer (some ⟨b, o + 4, none⟩)), (some 69, fun _ => .agg #[.int .u8 k, .bool ks]), (some 70, fun g => .slice (some ⟨g, 0, none⟩) 3 3), (some 71, fun _ => .bool (ys || (ts || ks))), (some 10, fun _ => .int .u16 (IntKind.u16.wrap (t * 16 + r))), (some 11, fun _ => .bool (ys || (ts || ks))), (some 12, fun _ => .int .i64 0)] (fun D bq w' => Mem w.heap.size [] w w' (cond (D 11) [(bq 11, #[.int .u8 y, .bool ys, .int .u8 t, .bool ts, .int .u8 k, .bool ks])] [])) 72 (by rfl) (by rfl) (by rfl) H.drew ⟨⟨rfl, ?p0⟩, ⟨rfl, ?p1⟩, ⟨rfl, ?p2⟩, ⟨rfl, ?p3⟩, ⟨rfl, ?p4⟩, ⟨rfl, ?p5⟩, ⟨rfl, ?p6⟩, ⟨rfl, ?p7⟩, ⟨rfl, ?p8⟩, ⟨rfl, ?p9⟩, ⟨rfl, ?p10⟩, ⟨rfl, ?p11⟩, ⟨rfl, ?p12⟩, ⟨rfl, ?p13⟩, ⟨rfl, ?p14⟩, ⟨rfl, ?p15⟩, trivial⟩ ?_
      case p0 =>
        intro D bq a' w' hk hc he hl hW
        (try dsimp only at hW)
        have f16 : a'.tmps.getD 16 undef = .int .i64 (t * 16 + r) := (hl 16).trans ((vsx_no rfl).trans rfl)
        exact wp_val (.int .i64 (t * 16 + r)) (by simp only [execOp, Act.eval, List.map_toArray, List.map_cons, List.map_nil]; rw [f16]; kernel_rfl) ⟨0, rfl, hW⟩
      case p1 =>
        intro D bq a' w' hk hc he hl hW
        (try dsimp only at hW)
        have e0 : a'.tmps.getD 59 undef = .int .i64 (t * 16 + r) := (hl 59).trans (vsx_at (f := fun _ => .int .i64 (t * 16 + r)) rfl (he ⟨0, .data⟩ (by simp) rfl) rfl)
        exact wp_val (.int .u16 (IntKind.u16.wrap (t * 16 + r))) (by simp only [execOp, Act.eval, List.map_toArray, List.map_cons, List.map_nil]; rw [e0]; kernel_rfl) ⟨0, rfl, hW⟩
      case p2 =>
        intro D bq a' w' hk hc he hl hW
        (try dsimp only at hW)
        have f13 : a'.tmps.getD 13 undef = .slice (some ⟨b, o, none⟩) 4 4 := (hl 13).trans ((vsx_no rfl).trans rfl)
        exact wp_val (.slice (some ⟨b, o, none⟩) 4 4) (by simp only [execOp, Act.eval, List.map_toArray, List.map_cons, List.map_nil]; rw [f13]; kernel_rfl) ⟨0, rfl, hW⟩
      case p3 =>
        intro D bq a' w' hk hc he hl hW
        (try dsimp only at hW)
        have e2 : a'.tmps.getD 61 undef = .slice (some ⟨b, o, none⟩) 4 4 := (hl 61).trans (vsx_at (f := fun _ => .slice (some ⟨b, o, none⟩) 4 4) rfl (he ⟨2, .data⟩ (by simp) rfl) rfl)
        exact wp_val (.pointer (some ⟨b, o, none⟩)) (by simp only [execOp, Act.eval, List.map_toArray, List.map_cons, List.map_nil]; rw [e2]; kernel_rfl) ⟨0, rfl, hW⟩
      case p4 =>
        intro D bq a' w' hk hc he hl hW
        (try dsimp only at hW)
        have e3 : a'.tmps.getD 62 undef = .pointer (some ⟨b, o, none⟩) := (hl 62).trans (vsx_at (f := fun _ => .pointer (some ⟨b, o, none⟩)) rfl (he ⟨3, .data⟩ (by simp) rfl) rfl)
        exact wp_xloadS _ _ rfl b o e3 (Mem.condB hW) _ (cells2 HS.out.y0 HS.out.y1) HS.out.lt (by simp) (by decide +kernel) (by kernel_rfl) ⟨0, rfl, hW⟩
      case p5 =>
        intro D bq a' w' hk hc he hl hW
        (try dsimp only at hW)
        have f13 : a'.tmps.getD 13 undef = .slice (some ⟨b, o, none⟩) 4 4 := (hl 13).trans ((vsx_no rfl).trans rfl)
        exact wp_val (.slice (some ⟨b, o, none⟩) 4 4) (by simp only [execOp, Act.eval, List.map_toArray, List.map_cons, List.map_nil]; rw [f13]; kernel_rfl) ⟨0, rfl, hW⟩
      case p6 =>
        intro D bq a' w' hk hc he hl hW
        (try dsimp only at hW)
        have e5 : a'.tmps.getD 64 undef = .slice (some ⟨b, o, none⟩) 4 4 := (hl 64).trans (vsx_at (f := fun _ => .slice (some ⟨b, o, none⟩) 4 4) rfl (he ⟨5, .data⟩ (by simp) rfl) rfl)
        exact wp_val (.pointer (some ⟨b, o + 2, none⟩)) (by simp only [execOp, Act.eval, List.map_toArray, List.map_cons, List.map_nil]; rw [e5]; kernel_rfl) ⟨0, rfl, hW⟩
      case p7 =>
        intro D bq a' w' hk hc he hl hW
        (try dsimp only at hW)
        have e6 : a'.tmps.getD 65 undef = .pointer (some ⟨b, o + 2, none⟩) := (hl 65).trans (vsx_at (f := fun _ => .pointer (some ⟨b, o + 2, none⟩)) rfl (he ⟨6, .data⟩ (by simp) rfl) rfl)
        exact wp_xloadS _ _ rfl b (o + 2) e6 (Mem.condB hW) _ (cells2 HS.out.t0 HS.out.t1) HS.out.lt (by simp) (by decide +kernel) (by kernel_rfl) ⟨0, rfl, hW⟩
      case p8 =>
        intro D bq a' w' hk hc he hl hW
        (try dsimp only at hW)
        have f13 : a'.tmps.getD 13 undef = .slice (some ⟨b, o, none⟩) 4 4 := (hl 13).trans ((vsx_no rfl).trans rfl)
        exact wp_val (.slice (some ⟨b, o, none⟩) 4 4) (by simp only [execOp, Act.eval, List.map_toArray, List.map_cons, List.map_nil]; rw [f13]; kernel_rfl) ⟨0, rfl, hW⟩
      case p9 =>
        intro D bq a' w' hk hc he hl hW
        (try dsimp only at hW)
        have e8 : a'.tmps.getD 67 undef = .slice (some ⟨b, o, none⟩) 4 4 := (hl 67).trans (vsx_at (f := fun _ => .slice (some ⟨b, o, none⟩) 4 4) rfl (he ⟨8, .data⟩ (by simp) rfl) rfl)
        exact wp_val (.pointer (some ⟨b, o + 4, none⟩)) (by simp only [execOp, Act.eval, List.map_toArray, List.map_cons, List.map_nil]; rw [e8]; kernel_rfl) ⟨0, rfl, hW⟩
      case p10 =>
        intro D bq a' w' hk hc he hl hW
        (try dsimp only at hW)
        have e9 : a'.tmps.getD 68 undef = .pointer (some ⟨b, o + 4, none⟩) := (hl 68).trans (vsx_at (f := fun _ => .pointer (some ⟨b, o + 4, none⟩)) rfl (he ⟨9, .data⟩ (by simp) rfl) rfl)
        exact wp_xloadS _ _ rfl b (o + 4) e9 (Mem.condB hW) _ (cells2 HS.out.k0 HS.out.k1) HS.out.lt (by simp) (by decide +kernel) (by kernel_rfl) ⟨0, rfl, hW⟩
      case p11 =>
        intro D bq a' w' hk hc he hl hW
        (try dsimp only at hW)
        have e4 : a'.tmps.getD 63 undef = .agg #[.int .u8 y, .bool ys] := (hl 63).trans (vsx_at (f := fun _ => .agg #[.int .u8 y, .bool ys]) rfl (he ⟨4, .data⟩ (by simp) rfl) rfl)
        have e7 : a'.tmps.getD 66 undef = .agg #[.int .u8 t, .bool ts] := (hl 66).trans (vsx_at (f := fun _ => .agg #[.int .u8 t, .bool ts]) rfl (he ⟨7, .data⟩ (by simp) rfl) rfl)
        have e10 : a'.tmps.getD 69 undef = .agg #[.int .u8 k, .bool ks] := (hl 69).trans (vsx_at (f := fun _ => .agg #[.int .u8 k, .bool ks]) rfl (he ⟨10, .data⟩ (by simp) rfl) rfl)
        have hM := Mem.ofF hk hW
        have hA := fun T => Mem.new hM #[.int .u8 y, .bool ys, .int .u8 t, .bool ts, .int .u8 k, .bool ks] T
        exact wp_row _ _ _ rfl _ (by simp only [List.map_toArray, List.map_cons, List.map_nil, Act.eval, e4, e7, e10]) _ _ (build_bs3 y ys t ts k ks) ⟨_, rfl, hA _⟩
      case p12 =>
        intro D bq a' w' hk hc he hl hW
        (try dsimp only at hW)
        have e11 : a'.tmps.getD 70 undef = .slice (some ⟨bq 11, 0, none⟩) 3 3 := (hl 70).trans (vsx_at (f := fun g => .slice (some ⟨g, 0, none⟩) 3 3) rfl (he ⟨11, .data⟩ (by simp) rfl) rfl)
        have hR := Mem.ofT (he ⟨11, .data⟩ (by simp) rfl) hW
        refine wp_callp (vals := #[.slice (some ⟨bq 11, 0, none⟩) 3 3]) rfl rfl (by simp only [List.map_toArray, List.map_cons, List.map_nil, Act.eval, e11]) (by kernel_rfl) (any_row [(y, ys), (t, ts), (k, ks)] (ys || (ts || ks)) hR 0 rfl rfl (anyS_three _ _ _ _ _ _) (by decide) (by simp [maxLen]) (fun j u h => by simpa [bcs] using h)) ?_
        rintro e w2 ⟨rfl, hB⟩
        exact ⟨_, rfl, 0, rfl, Mem.next hW hB⟩
      case p13 =>
        intro D bq a' w' hk hc he hl hW
        (try dsimp only at hW)
        have e1 : a'.tmps.getD 60 undef = .int .u16 (IntKind.u16.wrap (t * 16 + r)) := (hl 60).trans (vsx_at (f := fun _ => .int .u16 (IntKind.u16.wrap (t * 16 + r))) rfl (he ⟨1, .data⟩ (by simp) rfl) rfl)
        exact wp_val (.int .u16 (IntKind.u16.wrap (t * 16 + r))) (by simp only [execOp, Act.eval, List.map_toArray, List.map_cons, List.map_nil]; rw [e1]; kernel_rfl) ⟨0, rfl, hW⟩
      case p14 =>
        intro D bq a' w' hk hc he hl hW
        (try dsimp only at hW)
        have e12 : a'.tmps.getD 71 undef = .bool (ys || (ts || ks)) := (hl 71).trans (vsx_at (f := fun _ => .bool (ys || (ts || ks))) rfl (he ⟨12, .data⟩ (by simp) rfl) rfl)
        exact wp_val (.bool (ys || (ts || ks))) (by simp only [execOp, Act.eval, List.map_toArray, List.map_cons, List.map_nil]; rw [e12]; kernel_rfl) ⟨0, rfl, hW⟩
      case p15 =>
        intro D bq a' w' hk hc he hl hW
        (try dsimp only at hW)
        exact wp_val (.int .i64 0) (by simp only [execOp, Act.eval, List.map_toArray, List.map_cons, List.map_nil]; kernel_rfl) ⟨0, rfl, hW⟩
      intro D bq w' hD hW
      (try dsimp only at hW)
      simp only [hD 11 (by decide), cond_true] at hW
      clear H hD
      have H := hW
      clear hW
      simp only [putAll, vsOf, Nat.reduceAdd, List.foldl_cons, List.foldl_nil, Act.put, List.setIfInBounds_toArray, List.set_cons_succ, List.set_cons_zero]
      go_wp2
      (try simp only [Exit.inBlock, Exit.then]); refine bodyPost_ret (sp_tmp3 rfl _ _ _) rfl ?_
      exact ⟨by show Ending.returned (.tuple #[.int .u16 (IntKind.u16.wrap (t * 16 + r)), _, _]) = _; rw [wrap16 (by omega) (by omega)]; congr 3; have := A2.out; first | omega | (congr 1; omega) | (simp; omega), H.toBelow⟩
    · skip
      go_enter Try.func10, Try.ntmps10
      go_wp2_with (first | (go_at_call 22; (with_reducible refine (Q1 _).mono ?_); rintro e w2 ⟨rfl, hB⟩; replace H := H.next hB; clear hB) | (go_at_call 23; (with_reducible refine (Q2 _).mono ?_); rintro e w2 ⟨rfl, hB⟩; replace H := H.next hB; clear hB) | (go_at_call 26; (with_reducible refine (Q3 _).mono ?_); rintro e w2 ⟨rfl, hB⟩; replace H := H.next hB; clear hB) | (go_at_call 27; (with_reducible refine (QB.out _).mono ?_); rintro e w2 ⟨rfl, hB⟩; replace H := H.next hB; clear hB) | fail)
      have z0 := (HS.out.below H.toBelow).t0
      have r0 := cell_regrown z0
      (try simp only [Act.put, List.setIfInBounds_toArray, List.set_cons_succ, List.set_cons_zero])
      (refine wp_region_quiet_below (by kernel_rfl) (by kernel_rfl) ?_); (repeat (first | go_big_quiet_step ((first | (go_at_call 28; (with_reducible exact Calls.regrown_of (QR.out _ ((HS.out.below H.toBelow).below (below_regrown _ _ _))))) | fail)))); (refine wpQuiet_nil ?_); intro _ hw'; obtain ⟨⟨dq, osq⟩, hw''⟩ := hw'; (subst hw''); replace H := H.next (below_regrown _ dq osq); generalize Go.Sort.grow (redrawn _ dq) osq = wq at *
      clear z0 r0
      go_wp2_with fail
      (try simp only [Act.put, List.setIfInBounds_toArray, List.set_cons_succ, List.set_cons_zero])
      refine wp_region_x (by kernel_rfl) (by kernel_rfl) [(some 59, fun _ => .int .i64 (t * 16 + r + 4096)), (some 60, fun _ => .int .u16 (IntKind.u16.wrap (t * 16 + r + 4096))), (some 61, fun _ => .slice (some ⟨b, o, none⟩) 4 4), (some 62, fun _ => .pointer (some ⟨b, o, none⟩)), (some 63, fun _ => .agg #[.int .u8 y, .bool ys]), (some 64, fun _ => .slice (some ⟨b, o, none⟩) 4 4), (some 65, fun _ => .pointer (some ⟨b, o + 2, none⟩)), (some 66, fun _ => .agg #[.int .u8 t, .bool ts]), (some 67, fun _ => .slice (some ⟨b, o, none⟩) 4 4), (some 68, fun _ => .pointer (some ⟨b, o + 4, none⟩)), (some 69, fun _ => .agg #[.int .u8 k, .bool ks]), (some 70, fun g => .slice (some ⟨g, 0, none⟩) 3 3), (some 71, fun _ => .bool (ys || (ts || ks))), (some 10, fun _ => .int .u16 (IntKind.u16.wrap (t * 16 + r + 4096))), (some 11, fun _ => .bool (ys || (ts || ks))), (some 12, fun _ => .int .i64 0)] (fun D bq w' => Mem w.heap.size [] w w' (cond (D 11) [(bq 11, #[.int .u8 y, .bool ys, .int .u8 t, .bool ts, .int .u8 k, .bool ks])] [])) 72 (by rfl) (by rfl) (by rfl) H.drew ⟨⟨rfl, ?p0⟩, ⟨rfl, ?p1⟩, ⟨rfl, ?p2⟩, ⟨rfl, ?p3⟩, ⟨rfl, ?p4⟩, ⟨rfl, ?p5⟩, ⟨rfl, ?p6⟩, ⟨rfl, ?p7⟩, ⟨rfl, ?p8⟩, ⟨rfl, ?p9⟩, ⟨rfl, ?p10⟩, ⟨rfl, ?p11⟩, ⟨rfl, ?p12⟩, ⟨rfl, ?p13⟩, ⟨rfl, ?p14⟩, ⟨rfl, ?p15⟩, trivial⟩ ?_
      case p0 =>
        intro D bq a' w' hk hc he hl hW
        (try dsimp only at hW)
        have f16 : a'.tmps.getD 16 undef = .int .i64 (t * 16 + r + 4096) := (hl 16).trans ((vsx_no rfl).trans rfl)
        exact wp_val (.int .i64 (t * 16 + r + 4096)) (by simp only [execOp, Act.eval, List.map_toArray, List.map_cons, List.map_nil]; rw [f16]; kernel_rfl) ⟨0, rfl, hW⟩
      case p1 =>
        intro D bq a' w' hk hc he hl hW
        (try dsimp only at hW)
        have e0 : a'.tmps.getD 59 undef = .int .i64 (t * 16 + r + 4096) := (hl 59).trans (vsx_at (f := fun _ => .int .i64 (t * 16 + r + 4096)) rfl (he ⟨0, .data⟩ (by simp) rfl) rfl)
        exact wp_val (.int .u16 (IntKind.u16.wrap (t * 16 + r + 4096))) (by simp only [execOp, Act.eval, List.map_toArray, List.map_cons, List.map_nil]; rw [e0]; kernel_rfl) ⟨0, rfl, hW⟩
      case p2 =>
        intro D bq a' w' hk hc he hl hW
        (try dsimp only at hW)
        have f13 : a'.tmps.getD 13 undef = .slice (some ⟨b, o, none⟩) 4 4 := (hl 13).trans ((vsx_no rfl).trans rfl)
        exact wp_val (.slice (some ⟨b, o, none⟩) 4 4) (by simp only [execOp, Act.eval, List.map_toArray, List.map_cons, List.map_nil]; rw [f13]; kernel_rfl) ⟨0, rfl, hW⟩
      case p3 =>
        intro D bq a' w' hk hc he hl hW
        (try dsimp only at hW)
        have e2 : a'.tmps.getD 61 undef = .slice (some ⟨b, o, none⟩) 4 4 := (hl 61).trans (vsx_at (f := fun _ => .slice (some ⟨b, o, none⟩) 4 4) rfl (he ⟨2, .data⟩ (by simp) rfl) rfl)
        exact wp_val (.pointer (some ⟨b, o, none⟩)) (by simp only [execOp, Act.eval, List.map_toArray, List.map_cons, List.map_nil]; rw [e2]; kernel_rfl) ⟨0, rfl, hW⟩
      case p4 =>
        intro D bq a' w' hk hc he hl hW
        (try dsimp only at hW)
        have e3 : a'.tmps.getD 62 undef = .pointer (some ⟨b, o, none⟩) := (hl 62).trans (vsx_at (f := fun _ => .pointer (some ⟨b, o, none⟩)) rfl (he ⟨3, .data⟩ (by simp) rfl) rfl)
        exact wp_xloadS _ _ rfl b o e3 (Mem.condB hW) _ (cells2 HS.out.y0 HS.out.y1) HS.out.lt (by simp) (by decide +kernel) (by kernel_rfl) ⟨0, rfl, hW⟩
      case p5 =>
        intro D bq a' w' hk hc he hl hW
        (try dsimp only at hW)
        have f13 : a'.tmps.getD 13 undef = .slice (some ⟨b, o, none⟩) 4 4 := (hl 13).trans ((vsx_no rfl).trans rfl)
        exact wp_val (.slice (some ⟨b, o, none⟩) 4 4) (by simp only [execOp, Act.eval, List.map_toArray, List.map_cons, List.map_nil]; rw [f13]; kernel_rfl) ⟨0, rfl, hW⟩
      case p6 =>
        intro D bq a' w' hk hc he hl hW
        (try dsimp only at hW)
        have e5 : a'.tmps.getD 64 undef = .slice (some ⟨b, o, none⟩) 4 4 := (hl 64).trans (vsx_at (f := fun _ => .slice (some ⟨b, o, none⟩) 4 4) rfl (he ⟨5, .data⟩ (by simp) rfl) rfl)
        exact wp_val (.pointer (some ⟨b, o + 2, none⟩)) (by simp only [execOp, Act.eval, List.map_toArray, List.map_cons, List.map_nil]; rw [e5]; kernel_rfl) ⟨0, rfl, hW⟩
      case p7 =>
        intro D bq a' w' hk hc he hl hW
        (try dsimp only at hW)
        have e6 : a'.tmps.getD 65 undef = .pointer (some ⟨b, o + 2, none⟩) := (hl 65).trans (vsx_at (f := fun _ => .pointer (some ⟨b, o + 2, none⟩)) rfl (he ⟨6, .data⟩ (by simp) rfl) rfl)
        exact wp_xloadS _ _ rfl b (o + 2) e6 (Mem.condB hW) _ (cells2 HS.out.t0 HS.out.t1) HS.out.lt (by simp) (by decide +kernel) (by kernel_rfl) ⟨0, rfl, hW⟩
      case p8 =>
        intro D bq a' w' hk hc he hl hW
        (try dsimp only at hW)
        have f13 : a'.tmps.getD 13 undef = .slice (some ⟨b, o, none⟩) 4 4 := (hl 13).trans ((vsx_no rfl).trans rfl)
        exact wp_val (.slice (some ⟨b, o, none⟩) 4 4) (by simp only [execOp, Act.eval, List.map_toArray, List.map_cons, List.map_nil]; rw [f13]; kernel_rfl) ⟨0, rfl, hW⟩
      case p9 =>
        intro D bq a' w' hk hc he hl hW
        (try dsimp only at hW)
        have e8 : a'.tmps.getD 67 undef = .slice (some ⟨b, o, none⟩) 4 4 := (hl 67).trans (vsx_at (f := fun _ => .slice (some ⟨b, o, none⟩) 4 4) rfl (he ⟨8, .data⟩ (by simp) rfl) rfl)
        exact wp_val (.pointer (some ⟨b, o + 4, none⟩)) (by simp only [execOp, Act.eval, List.map_toArray, List.map_cons, List.map_nil]; rw [e8]; kernel_rfl) ⟨0, rfl, hW⟩
      case p10 =>
        intro D bq a' w' hk hc he hl hW
        (try dsimp only at hW)
        have e9 : a'.tmps.getD 68 undef = .pointer (some ⟨b, o + 4, none⟩) := (hl 68).trans (vsx_at (f := fun _ => .pointer (some ⟨b, o + 4, none⟩)) rfl (he ⟨9, .data⟩ (by simp) rfl) rfl)
        exact wp_xloadS _ _ rfl b (o + 4) e9 (Mem.condB hW) _ (cells2 HS.out.k0 HS.out.k1) HS.out.lt (by simp) (by decide +kernel) (by kernel_rfl) ⟨0, rfl, hW⟩
      case p11 =>
        intro D bq a' w' hk hc he hl hW
        (try dsimp only at hW)
        have e4 : a'.tmps.getD 63 undef = .agg #[.int .u8 y, .bool ys] := (hl 63).trans (vsx_at (f := fun _ => .agg #[.int .u8 y, .bool ys]) rfl (he ⟨4, .data⟩ (by simp) rfl) rfl)
        have e7 : a'.tmps.getD 66 undef = .agg #[.int .u8 t, .bool ts] := (hl 66).trans (vsx_at (f := fun _ => .agg #[.int .u8 t, .bool ts]) rfl (he ⟨7, .data⟩ (by simp) rfl) rfl)
        have e10 : a'.tmps.getD 69 undef = .agg #[.int .u8 k, .bool ks] := (hl 69).trans (vsx_at (f := fun _ => .agg #[.int .u8 k, .bool ks]) rfl (he ⟨10, .data⟩ (by simp) rfl) rfl)
        have hM := Mem.ofF hk hW
        have hA := fun T => Mem.new hM #[.int .u8 y, .bool ys, .int .u8 t, .bool ts, .int .u8 k, .bool ks] T
        exact wp_row _ _ _ rfl _ (by simp only [List.map_toArray, List.map_cons, List.map_nil, Act.eval, e4, e7, e10]) _ _ (build_bs3 y ys t ts k ks) ⟨_, rfl, hA _⟩
      case p12 =>
        intro D bq a' w' hk hc he hl hW
        (try dsimp only at hW)
        have e11 : a'.tmps.getD 70 undef = .slice (some ⟨bq 11, 0, none⟩) 3 3 := (hl 70).trans (vsx_at (f := fun g => .slice (some ⟨g, 0, none⟩) 3 3) rfl (he ⟨11, .data⟩ (by simp) rfl) rfl)
        have hR := Mem.ofT (he ⟨11, .data⟩ (by simp) rfl) hW
        refine wp_callp (vals := #[.slice (some ⟨bq 11, 0, none⟩) 3 3]) rfl rfl (by simp only [List.map_toArray, List.map_cons, List.map_nil, Act.eval, e11]) (by kernel_rfl) (any_row [(y, ys), (t, ts), (k, ks)] (ys || (ts || ks)) hR 0 rfl rfl (anyS_three _ _ _ _ _ _) (by decide) (by simp [maxLen]) (fun j u h => by simpa [bcs] using h)) ?_
        rintro e w2 ⟨rfl, hB⟩
        exact ⟨_, rfl, 0, rfl, Mem.next hW hB⟩
      case p13 =>
        intro D bq a' w' hk hc he hl hW
        (try dsimp only at hW)
        have e1 : a'.tmps.getD 60 undef = .int .u16 (IntKind.u16.wrap (t * 16 + r + 4096)) := (hl 60).trans (vsx_at (f := fun _ => .int .u16 (IntKind.u16.wrap (t * 16 + r + 4096))) rfl (he ⟨1, .data⟩ (by simp) rfl) rfl)
        exact wp_val (.int .u16 (IntKind.u16.wrap (t * 16 + r + 4096))) (by simp only [execOp, Act.eval, List.map_toArray, List.map_cons, List.map_nil]; rw [e1]; kernel_rfl) ⟨0, rfl, hW⟩
      case p14 =>
        intro D bq a' w' hk hc he hl hW
        (try dsimp only at hW)
        have e12 : a'.tmps.getD 71 undef = .bool (ys || (ts || ks)) := (hl 71).trans (vsx_at (f := fun _ => .bool (ys || (ts || ks))) rfl (he ⟨12, .data⟩ (by simp) rfl) rfl)
        exact wp_val (.bool (ys || (ts || ks))) (by simp only [execOp, Act.eval, List.map_toArray, List.map_cons, List.map_nil]; rw [e12]; kernel_rfl) ⟨0, rfl, hW⟩
      case p15 =>
        intro D bq a' w' hk hc he hl hW
        (try dsimp only at hW)
        exact wp_val (.int .i64 0) (by simp only [execOp, Act.eval, List.map_toArray, List.map_cons, List.map_nil]; kernel_rfl) ⟨0, rfl, hW⟩
      intro D bq w' hD hW
      (try dsimp only at hW)
      simp only [hD 11 (by decide), cond_true] at hW
      clear H hD
      have H := hW
      clear hW
      simp only [putAll, vsOf, Nat.reduceAdd, List.foldl_cons, List.foldl_nil, Act.put, List.setIfInBounds_toArray, List.set_cons_succ, List.set_cons_zero]
      go_wp2
      (try simp only [Exit.inBlock, Exit.then]); refine bodyPost_ret (sp_tmp3 rfl _ _ _) rfl ?_
      exact ⟨by show Ending.returned (.tuple #[.int .u16 (IntKind.u16.wrap (t * 16 + r + 4096)), _, _]) = _; rw [wrap16 (by omega) (by omega)]; congr 3; have := A2.out; first | omega | (congr 1; omega) | (simp; omega), H.toBelow⟩
  · have hr8 : r < 16 := by simp [highS] at hg hr; omega
    by_cases h2 : t % 2 = 0
    · skip
      by_cases h8 : r < 8
      · skip
        go_enter Try.func10, Try.ntmps10
        go_wp2_with (first | (go_at_call 22; (with_reducible refine (Q1 _).mono ?_); rintro e w2 ⟨rfl, hB⟩; replace H := H.next hB; clear hB) | (go_at_call 23; (with_reducible refine (Q2 _).mono ?_); rintro e w2 ⟨rfl, hB⟩; replace H := H.next hB; clear hB) | (go_at_call 26; (with_reducible refine (Q3 _).mono ?_); rintro e w2 ⟨rfl, hB⟩; replace H := H.next hB; clear hB) | (go_at_call 27; (with_reducible refine (QB.out _).mono ?_); rintro e w2 ⟨rfl, hB⟩; replace H := H.next hB; clear hB) | fail)
        have z0 := (HS.out.below H.toBelow).t0
        have r0 := cell_regrown z0
        (try simp only [Act.put, List.setIfInBounds_toArray, List.set_cons_succ, List.set_cons_zero])
        (refine wp_region_quiet_below (by kernel_rfl) (by kernel_rfl) ?_); (repeat (first | go_big_quiet_step ((first | (go_at_call 28; (with_reducible exact Calls.regrown_of (QR.out _ ((HS.out.below H.toBelow).below (below_regrown _ _ _))))) | fail)))); (refine wpQuiet_nil ?_); intro _ hw'; obtain ⟨⟨dq, osq⟩, hw''⟩ := hw'; (subst hw''); replace H := H.next (below_regrown _ dq osq); generalize Go.Sort.grow (redrawn _ dq) osq = wq at *
        clear z0 r0
        go_wp2_with fail
        (try simp only [Act.put, List.setIfInBounds_toArray, List.set_cons_succ, List.set_cons_zero])
        refine wp_region_x (by kernel_rfl) (by kernel_rfl) [(some 59, fun _ => .int .i64 (u * 16 + r)), (some 60, fun _ => .int .u16 (IntKind.u16.wrap (u * 16 + r))), (some 61, fun _ => .slice (some ⟨b, o, none⟩) 4 4), (some 62, fun _ => .pointer (some ⟨b, o, none⟩)), (some 63, fun _ => .agg #[.int .u8 y, .bool ys]), (some 64, fun _ => .slice (some ⟨b, o, none⟩) 4 4), (some 65, fun _ => .pointer (some ⟨b, o + 2, none⟩)), (some 66, fun _ => .agg #[.int .u8 t, .bool ts]), (some 67, fun _ => .slice (some ⟨b, o, none⟩) 4 4), (some 68, fun _ => .pointer (some ⟨b, o + 4, none⟩)), (some 69, fun _ => .agg #[.int .u8 k, .bool ks]), (some 70, fun g => .slice (some ⟨g, 0, none⟩) 3 3), (some 71, fun _ => .bool (ys || (ts || ks))), (some 10, fun _ => .int .u16 (IntKind.u16.wrap (u * 16 + r))), (some 11, fun _ => .bool (ys || (ts || ks))), (some 12, fun _ => .int .i64 0)] (fun D bq w' => Mem w.heap.size [] w w' (cond (D 11) [(bq 11, #[.int .u8 y, .bool ys, .int .u8 t, .bool ts, .int .u8 k, .bool ks])] [])) 72 (by rfl) (by rfl) (by rfl) H.drew ⟨⟨rfl, ?p0⟩, ⟨rfl, ?p1⟩, ⟨rfl, ?p2⟩, ⟨rfl, ?p3⟩, ⟨rfl, ?p4⟩, ⟨rfl, ?p5⟩, ⟨rfl, ?p6⟩, ⟨rfl, ?p7⟩, ⟨rfl, ?p8⟩, ⟨rfl, ?p9⟩, ⟨rfl, ?p10⟩, ⟨rfl, ?p11⟩, ⟨rfl, ?p12⟩, ⟨rfl, ?p13⟩, ⟨rfl, ?p14⟩, ⟨rfl, ?p15⟩, trivial⟩ ?_
        case p0 =>
          intro D bq a' w' hk hc he hl hW
          (try dsimp only at hW)
          have f16 : a'.tmps.getD 16 undef = .int .i64 (u * 16 + r) := (hl 16).trans ((vsx_no rfl).trans rfl)
          exact wp_val (.int .i64 (u * 16 + r)) (by simp only [execOp, Act.eval, List.map_toArray, List.map_cons, List.map_nil]; rw [f16]; kernel_rfl) ⟨0, rfl, hW⟩
        case p1 =>
          intro D bq a' w' hk hc he hl hW
          (try dsimp only at hW)
          have e0 : a'.tmps.getD 59 undef = .int .i64 (u * 16 + r) := (hl 59).trans (vsx_at (f := fun _ => .int .i64 (u * 16 + r)) rfl (he ⟨0, .data⟩ (by simp) rfl) rfl)
          exact wp_val (.int .u16 (IntKind.u16.wrap (u * 16 + r))) (by simp only [execOp, Act.eval, List.map_toArray, List.map_cons, List.map_nil]; rw [e0]; kernel_rfl) ⟨0, rfl, hW⟩
        case p2 =>
          intro D bq a' w' hk hc he hl hW
          (try dsimp only at hW)
          have f13 : a'.tmps.getD 13 undef = .slice (some ⟨b, o, none⟩) 4 4 := (hl 13).trans ((vsx_no rfl).trans rfl)
          exact wp_val (.slice (some ⟨b, o, none⟩) 4 4) (by simp only [execOp, Act.eval, List.map_toArray, List.map_cons, List.map_nil]; rw [f13]; kernel_rfl) ⟨0, rfl, hW⟩
        case p3 =>
          intro D bq a' w' hk hc he hl hW
          (try dsimp only at hW)
          have e2 : a'.tmps.getD 61 undef = .slice (some ⟨b, o, none⟩) 4 4 := (hl 61).trans (vsx_at (f := fun _ => .slice (some ⟨b, o, none⟩) 4 4) rfl (he ⟨2, .data⟩ (by simp) rfl) rfl)
          exact wp_val (.pointer (some ⟨b, o, none⟩)) (by simp only [execOp, Act.eval, List.map_toArray, List.map_cons, List.map_nil]; rw [e2]; kernel_rfl) ⟨0, rfl, hW⟩
        case p4 =>
          intro D bq a' w' hk hc he hl hW
          (try dsimp only at hW)
          have e3 : a'.tmps.getD 62 undef = .pointer (some ⟨b, o, none⟩) := (hl 62).trans (vsx_at (f := fun _ => .pointer (some ⟨b, o, none⟩)) rfl (he ⟨3, .data⟩ (by simp) rfl) rfl)
          exact wp_xloadS _ _ rfl b o e3 (Mem.condB hW) _ (cells2 HS.out.y0 HS.out.y1) HS.out.lt (by simp) (by decide +kernel) (by kernel_rfl) ⟨0, rfl, hW⟩
        case p5 =>
          intro D bq a' w' hk hc he hl hW
          (try dsimp only at hW)
          have f13 : a'.tmps.getD 13 undef = .slice (some ⟨b, o, none⟩) 4 4 := (hl 13).trans ((vsx_no rfl).trans rfl)
          exact wp_val (.slice (some ⟨b, o, none⟩) 4 4) (by simp only [execOp, Act.eval, List.map_toArray, List.map_cons, List.map_nil]; rw [f13]; kernel_rfl) ⟨0, rfl, hW⟩
        case p6 =>
          intro D bq a' w' hk hc he hl hW
          (try dsimp only at hW)
          have e5 : a'.tmps.getD 64 undef = .slice (some ⟨b, o, none⟩) 4 4 := (hl 64).trans (vsx_at (f := fun _ => .slice (some ⟨b, o, none⟩) 4 4) rfl (he ⟨5, .data⟩ (by simp) rfl) rfl)
          exact wp_val (.pointer (some ⟨b, o + 2, none⟩)) (by simp only [execOp, Act.eval, List.map_toArray, List.map_cons, List.map_nil]; rw [e5]; kernel_rfl) ⟨0, rfl, hW⟩
        case p7 =>
          intro D bq a' w' hk hc he hl hW
          (try dsimp only at hW)
          have e6 : a'.tmps.getD 65 undef = .pointer (some ⟨b, o + 2, none⟩) := (hl 65).trans (vsx_at (f := fun _ => .pointer (some ⟨b, o + 2, none⟩)) rfl (he ⟨6, .data⟩ (by simp) rfl) rfl)
          exact wp_xloadS _ _ rfl b (o + 2) e6 (Mem.condB hW) _ (cells2 HS.out.t0 HS.out.t1) HS.out.lt (by simp) (by decide +kernel) (by kernel_rfl) ⟨0, rfl, hW⟩
        case p8 =>
          intro D bq a' w' hk hc he hl hW
          (try dsimp only at hW)
          have f13 : a'.tmps.getD 13 undef = .slice (some ⟨b, o, none⟩) 4 4 := (hl 13).trans ((vsx_no rfl).trans rfl)
          exact wp_val (.slice (some ⟨b, o, none⟩) 4 4) (by simp only [execOp, Act.eval, List.map_toArray, List.map_cons, List.map_nil]; rw [f13]; kernel_rfl) ⟨0, rfl, hW⟩
        case p9 =>
          intro D bq a' w' hk hc he hl hW
          (try dsimp only at hW)
          have e8 : a'.tmps.getD 67 undef = .slice (some ⟨b, o, none⟩) 4 4 := (hl 67).trans (vsx_at (f := fun _ => .slice (some ⟨b, o, none⟩) 4 4) rfl (he ⟨8, .data⟩ (by simp) rfl) rfl)
          exact wp_val (.pointer (some ⟨b, o + 4, none⟩)) (by simp only [execOp, Act.eval, List.map_toArray, List.map_cons, List.map_nil]; rw [e8]; kernel_rfl) ⟨0, rfl, hW⟩
        case p10 =>
          intro D bq a' w' hk hc he hl hW
          (try dsimp only at hW)
          have e9 : a'.tmps.getD 68 undef = .pointer (some ⟨b, o + 4, none⟩) := (hl 68).trans (vsx_at (f := fun _ => .pointer (some ⟨b, o + 4, none⟩)) rfl (he ⟨9, .data⟩ (by simp) rfl) rfl)
          exact wp_xloadS _ _ rfl b (o + 4) e9 (Mem.condB hW) _ (cells2 HS.out.k0 HS.out.k1) HS.out.lt (by simp) (by decide +kernel) (by kernel_rfl) ⟨0, rfl, hW⟩
        case p11 =>
          intro D bq a' w' hk hc he hl hW
          (try dsimp only at hW)
          have e4 : a'.tmps.getD 63 undef = .agg #[.int .u8 y, .bool ys] := (hl 63).trans (vsx_at (f := fun _ => .agg #[.int .u8 y, .bool ys]) rfl (he ⟨4, .data⟩ (by simp) rfl) rfl)
          have e7 : a'.tmps.getD 66 undef = .agg #[.int .u8 t, .bool ts] := (hl 66).trans (vsx_at (f := fun _ => .agg #[.int .u8 t, .bool ts]) rfl (he ⟨7, .data⟩ (by simp) rfl) rfl)
          have e10 : a'.tmps.getD 69 undef = .agg #[.int .u8 k, .bool ks] := (hl 69).trans (vsx_at (f := fun _ => .agg #[.int .u8 k, .bool ks]) rfl (he ⟨10, .data⟩ (by simp) rfl) rfl)
          have hM := Mem.ofF hk hW
          have hA := fun T => Mem.new hM #[.int .u8 y, .bool ys, .int .u8 t, .bool ts, .int .u8 k, .bool ks] T
          exact wp_row _ _ _ rfl _ (by simp only [List.map_toArray, List.map_cons, List.map_nil, Act.eval, e4, e7, e10]) _ _ (build_bs3 y ys t ts k ks) ⟨_, rfl, hA _⟩
        case p12 =>
          intro D bq a' w' hk hc he hl hW
          (try dsimp only at hW)
          have e11 : a'.tmps.getD 70 undef = .slice (some ⟨bq 11, 0, none⟩) 3 3 := (hl 70).trans (vsx_at (f := fun g => .slice (some ⟨g, 0, none⟩) 3 3) rfl (he ⟨11, .data⟩ (by simp) rfl) rfl)
          have hR := Mem.ofT (he ⟨11, .data⟩ (by simp) rfl) hW
          refine wp_callp (vals := #[.slice (some ⟨bq 11, 0, none⟩) 3 3]) rfl rfl (by simp only [List.map_toArray, List.map_cons, List.map_nil, Act.eval, e11]) (by kernel_rfl) (any_row [(y, ys), (t, ts), (k, ks)] (ys || (ts || ks)) hR 0 rfl rfl (anyS_three _ _ _ _ _ _) (by decide) (by simp [maxLen]) (fun j u h => by simpa [bcs] using h)) ?_
          rintro e w2 ⟨rfl, hB⟩
          exact ⟨_, rfl, 0, rfl, Mem.next hW hB⟩
        case p13 =>
          intro D bq a' w' hk hc he hl hW
          (try dsimp only at hW)
          have e1 : a'.tmps.getD 60 undef = .int .u16 (IntKind.u16.wrap (u * 16 + r)) := (hl 60).trans (vsx_at (f := fun _ => .int .u16 (IntKind.u16.wrap (u * 16 + r))) rfl (he ⟨1, .data⟩ (by simp) rfl) rfl)
          exact wp_val (.int .u16 (IntKind.u16.wrap (u * 16 + r))) (by simp only [execOp, Act.eval, List.map_toArray, List.map_cons, List.map_nil]; rw [e1]; kernel_rfl) ⟨0, rfl, hW⟩
        case p14 =>
          intro D bq a' w' hk hc he hl hW
          (try dsimp only at hW)
          have e12 : a'.tmps.getD 71 undef = .bool (ys || (ts || ks)) := (hl 71).trans (vsx_at (f := fun _ => .bool (ys || (ts || ks))) rfl (he ⟨12, .data⟩ (by simp) rfl) rfl)
          exact wp_val (.bool (ys || (ts || ks))) (by simp only [execOp, Act.eval, List.map_toArray, List.map_cons, List.map_nil]; rw [e12]; kernel_rfl) ⟨0, rfl, hW⟩
        case p15 =>
          intro D bq a' w' hk hc he hl hW
          (try dsimp only at hW)
          exact wp_val (.int .i64 0) (by simp only [execOp, Act.eval, List.map_toArray, List.map_cons, List.map_nil]; kernel_rfl) ⟨0, rfl, hW⟩
        intro D bq w' hD hW
        (try dsimp only at hW)
        simp only [hD 11 (by decide), cond_true] at hW
        clear H hD
        have H := hW
        clear hW
        simp only [putAll, vsOf, Nat.reduceAdd, List.foldl_cons, List.foldl_nil, Act.put, List.setIfInBounds_toArray, List.set_cons_succ, List.set_cons_zero]
        go_wp2
        (try simp only [Exit.inBlock, Exit.then]); refine bodyPost_ret (sp_tmp3 rfl _ _ _) rfl ?_
        exact ⟨by show Ending.returned (.tuple #[.int .u16 (IntKind.u16.wrap (u * 16 + r)), _, _]) = _; rw [wrap16 (by omega) (by omega)]; congr 3; have := A2.out; first | omega | (congr 1; omega) | (simp; omega), H.toBelow⟩
      · skip
        go_enter Try.func10, Try.ntmps10
        go_wp2_with (first | (go_at_call 22; (with_reducible refine (Q1 _).mono ?_); rintro e w2 ⟨rfl, hB⟩; replace H := H.next hB; clear hB) | (go_at_call 23; (with_reducible refine (Q2 _).mono ?_); rintro e w2 ⟨rfl, hB⟩; replace H := H.next hB; clear hB) | (go_at_call 26; (with_reducible refine (Q3 _).mono ?_); rintro e w2 ⟨rfl, hB⟩; replace H := H.next hB; clear hB) | (go_at_call 27; (with_reducible refine (QB.out _).mono ?_); rintro e w2 ⟨rfl, hB⟩; replace H := H.next hB; clear hB) | fail)
        have z0 := (HS.out.below H.toBelow).t0
        have r0 := cell_regrown z0
        (try simp only [Act.put, List.setIfInBounds_toArray, List.set_cons_succ, List.set_cons_zero])
        (refine wp_region_quiet_below (by kernel_rfl) (by kernel_rfl) ?_); (repeat (first | go_big_quiet_step ((first | (go_at_call 28; (with_reducible exact Calls.regrown_of (QR.out _ ((HS.out.below H.toBelow).below (below_regrown _ _ _))))) | fail)))); (refine wpQuiet_nil ?_); intro _ hw'; obtain ⟨⟨dq, osq⟩, hw''⟩ := hw'; (subst hw''); replace H := H.next (below_regrown _ dq osq); generalize Go.Sort.grow (redrawn _ dq) osq = wq at *
        clear z0 r0
        go_wp2_with fail
        (try simp only [Act.put, List.setIfInBounds_toArray, List.set_cons_succ, List.set_cons_zero])
        refine wp_region_x (by kernel_rfl) (by kernel_rfl) [(some 59, fun _ => .int .i64 (u * 16 + (r + 8))), (some 60, fun _ => .int .u16 (IntKind.u16.wrap (u * 16 + (r + 8)))), (some 61, fun _ => .slice (some ⟨b, o, none⟩) 4 4), (some 62, fun _ => .pointer (some ⟨b, o, none⟩)), (some 63, fun _ => .agg #[.int .u8 y, .bool ys]), (some 64, fun _ => .slice (some ⟨b, o, none⟩) 4 4), (some 65, fun _ => .pointer (some ⟨b, o + 2, none⟩)), (some 66, fun _ => .agg #[.int .u8 t, .bool ts]), (some 67, fun _ => .slice (some ⟨b, o, none⟩) 4 4), (some 68, fun _ => .pointer (some ⟨b, o + 4, none⟩)), (some 69, fun _ => .agg #[.int .u8 k, .bool ks]), (some 70, fun g => .slice (some ⟨g, 0, none⟩) 3 3), (some 71, fun _ => .bool (ys || (ts || ks))), (some 10, fun _ => .int .u16 (IntKind.u16.wrap (u * 16 + (r + 8)))), (some 11, fun _ => .bool (ys || (ts || ks))), (some 12, fun _ => .int .i64 0)] (fun D bq w' => Mem w.heap.size [] w w' (cond (D 11) [(bq 11, #[.int .u8 y, .bool ys, .int .u8 t, .bool ts, .int .u8 k, .bool ks])] [])) 72 (by rfl) (by rfl) (by rfl) H.drew ⟨⟨rfl, ?p0⟩, ⟨rfl, ?p1⟩, ⟨rfl, ?p2⟩, ⟨rfl, ?p3⟩, ⟨rfl, ?p4⟩, ⟨rfl, ?p5⟩, ⟨rfl, ?p6⟩, ⟨rfl, ?p7⟩, ⟨rfl, ?p8⟩, ⟨rfl, ?p9⟩, ⟨rfl, ?p10⟩, ⟨rfl, ?p11⟩, ⟨rfl, ?p12⟩, ⟨rfl, ?p13⟩, ⟨rfl, ?p14⟩, ⟨rfl, ?p15⟩, trivial⟩ ?_
        case p0 =>
          intro D bq a' w' hk hc he hl hW
          (try dsimp only at hW)
          have f16 : a'.tmps.getD 16 undef = .int .i64 (u * 16 + (r + 8)) := (hl 16).trans ((vsx_no rfl).trans rfl)
          exact wp_val (.int .i64 (u * 16 + (r + 8))) (by simp only [execOp, Act.eval, List.map_toArray, List.map_cons, List.map_nil]; rw [f16]; kernel_rfl) ⟨0, rfl, hW⟩
        case p1 =>
          intro D bq a' w' hk hc he hl hW
          (try dsimp only at hW)
          have e0 : a'.tmps.getD 59 undef = .int .i64 (u * 16 + (r + 8)) := (hl 59).trans (vsx_at (f := fun _ => .int .i64 (u * 16 + (r + 8))) rfl (he ⟨0, .data⟩ (by simp) rfl) rfl)
          exact wp_val (.int .u16 (IntKind.u16.wrap (u * 16 + (r + 8)))) (by simp only [execOp, Act.eval, List.map_toArray, List.map_cons, List.map_nil]; rw [e0]; kernel_rfl) ⟨0, rfl, hW⟩
        case p2 =>
          intro D bq a' w' hk hc he hl hW
          (try dsimp only at hW)
          have f13 : a'.tmps.getD 13 undef = .slice (some ⟨b, o, none⟩) 4 4 := (hl 13).trans ((vsx_no rfl).trans rfl)
          exact wp_val (.slice (some ⟨b, o, none⟩) 4 4) (by simp only [execOp, Act.eval, List.map_toArray, List.map_cons, List.map_nil]; rw [f13]; kernel_rfl) ⟨0, rfl, hW⟩
        case p3 =>
          intro D bq a' w' hk hc he hl hW
          (try dsimp only at hW)
          have e2 : a'.tmps.getD 61 undef = .slice (some ⟨b, o, none⟩) 4 4 := (hl 61).trans (vsx_at (f := fun _ => .slice (some ⟨b, o, none⟩) 4 4) rfl (he ⟨2, .data⟩ (by simp) rfl) rfl)
          exact wp_val (.pointer (some ⟨b, o, none⟩)) (by simp only [execOp, Act.eval, List.map_toArray, List.map_cons, List.map_nil]; rw [e2]; kernel_rfl) ⟨0, rfl, hW⟩
        case p4 =>
          intro D bq a' w' hk hc he hl hW
          (try dsimp only at hW)
          have e3 : a'.tmps.getD 62 undef = .pointer (some ⟨b, o, none⟩) := (hl 62).trans (vsx_at (f := fun _ => .pointer (some ⟨b, o, none⟩)) rfl (he ⟨3, .data⟩ (by simp) rfl) rfl)
          exact wp_xloadS _ _ rfl b o e3 (Mem.condB hW) _ (cells2 HS.out.y0 HS.out.y1) HS.out.lt (by simp) (by decide +kernel) (by kernel_rfl) ⟨0, rfl, hW⟩
        case p5 =>
          intro D bq a' w' hk hc he hl hW
          (try dsimp only at hW)
          have f13 : a'.tmps.getD 13 undef = .slice (some ⟨b, o, none⟩) 4 4 := (hl 13).trans ((vsx_no rfl).trans rfl)
          exact wp_val (.slice (some ⟨b, o, none⟩) 4 4) (by simp only [execOp, Act.eval, List.map_toArray, List.map_cons, List.map_nil]; rw [f13]; kernel_rfl) ⟨0, rfl, hW⟩
        case p6 =>
          intro D bq a' w' hk hc he hl hW
          (try dsimp only at hW)
          have e5 : a'.tmps.getD 64 undef = .slice (some ⟨b, o, none⟩) 4 4 := (hl 64).trans (vsx_at (f := fun _ => .slice (some ⟨b, o, none⟩) 4 4) rfl (he ⟨5, .data⟩ (by simp) rfl) rfl)
          exact wp_val (.pointer (some ⟨b, o + 2, none⟩)) (by simp only [execOp, Act.eval, List.map_toArray, List.map_cons, List.map_nil]; rw [e5]; kernel_rfl) ⟨0, rfl, hW⟩
        case p7 =>
          intro D bq a' w' hk hc he hl hW
          (try dsimp only at hW)
          have e6 : a'.tmps.getD 65 undef = .pointer (some ⟨b, o + 2, none⟩) := (hl 65).trans (vsx_at (f := fun _ => .pointer (some ⟨b, o + 2, none⟩)) rfl (he ⟨6, .data⟩ (by simp) rfl) rfl)
          exact wp_xloadS _ _ rfl b (o + 2) e6 (Mem.condB hW) _ (cells2 HS.out.t0 HS.out.t1) HS.out.lt (by simp) (by decide +kernel) (by kernel_rfl) ⟨0, rfl, hW⟩
        case p8 =>
          intro D bq a' w' hk hc he hl hW
          (try dsimp only at hW)
          have f13 : a'.tmps.getD 13 undef = .slice (some ⟨b, o, none⟩) 4 4 := (hl 13).trans ((vsx_no rfl).trans rfl)
          exact wp_val (.slice (some ⟨b, o, none⟩) 4 4) (by simp only [execOp, Act.eval, List.map_toArray, List.map_cons, List.map_nil]; rw [f13]; kernel_rfl) ⟨0, rfl, hW⟩
        case p9 =>
          intro D bq a' w' hk hc he hl hW
          (try dsimp only at hW)
          have e8 : a'.tmps.getD 67 undef = .slice (some ⟨b, o, none⟩) 4 4 := (hl 67).trans (vsx_at (f := fun _ => .slice (some ⟨b, o, none⟩) 4 4) rfl (he ⟨8, .data⟩ (by simp) rfl) rfl)
          exact wp_val (.pointer (some ⟨b, o + 4, none⟩)) (by simp only [execOp, Act.eval, List.map_toArray, List.map_cons, List.map_nil]; rw [e8]; kernel_rfl) ⟨0, rfl, hW⟩
        case p10 =>
          intro D bq a' w' hk hc he hl hW
          (try dsimp only at hW)
          have e9 : a'.tmps.getD 68 undef = .pointer (some ⟨b, o + 4, none⟩) := (hl 68).trans (vsx_at (f := fun _ => .pointer (some ⟨b, o + 4, none⟩)) rfl (he ⟨9, .data⟩ (by simp) rfl) rfl)
          exact wp_xloadS _ _ rfl b (o + 4) e9 (Mem.condB hW) _ (cells2 HS.out.k0 HS.out.k1) HS.out.lt (by simp) (by decide +kernel) (by kernel_rfl) ⟨0, rfl, hW⟩
        case p11 =>
          intro D bq a' w' hk hc he hl hW
          (try dsimp only at hW)
          have e4 : a'.tmps.getD 63 undef = .agg #[.int .u8 y, .bool ys] := (hl 63).trans (vsx_at (f := fun _ => .agg #[.int .u8 y, .bool ys]) rfl (he ⟨4, .data⟩ (by simp) rfl) rfl)
          have e7 : a'.tmps.getD 66 undef = .agg #[.int .u8 t, .bool ts] := (hl 66).trans (vsx_at (f := fun _ => .agg #[.int .u8 t, .bool ts]) rfl (he ⟨7, .data⟩ (by simp) rfl) rfl)
          have e10 : a'.tmps.getD 69 undef = .agg #[.int .u8 k, .bool ks] := (hl 69).trans (vsx_at (f := fun _ => .agg #[.int .u8 k, .bool ks]) rfl (he ⟨10, .data⟩ (by simp) rfl) rfl)
          have hM := Mem.ofF hk hW
          have hA := fun T => Mem.new hM #[.int .u8 y, .bool ys, .int .u8 t, .bool ts, .int .u8 k, .bool ks] T
          exact wp_row _ _ _ rfl _ (by simp only [List.map_toArray, List.map_cons, List.map_nil, Act.eval, e4, e7, e10]) _ _ (build_bs3 y ys t ts k ks) ⟨_, rfl, hA _⟩
        case p12 =>
          intro D bq a' w' hk hc he hl hW
          (try dsimp only at hW)
          have e11 : a'.tmps.getD 70 undef = .slice (some ⟨bq 11, 0, none⟩) 3 3 := (hl 70).trans (vsx_at (f := fun g => .slice (some ⟨g, 0, none⟩) 3 3) rfl (he ⟨11, .data⟩ (by simp) rfl) rfl)
          have hR := Mem.ofT (he ⟨11, .data⟩ (by simp) rfl) hW
          refine wp_callp (vals := #[.slice (some ⟨bq 11, 0, none⟩) 3 3]) rfl rfl (by simp only [List.map_toArray, List.map_cons, List.map_nil, Act.eval, e11]) (by kernel_rfl) (any_row [(y, ys), (t, ts), (k, ks)] (ys || (ts || ks)) hR 0 rfl rfl (anyS_three _ _ _ _ _ _) (by decide) (by simp [maxLen]) (fun j u h => by simpa [bcs] using h)) ?_
          rintro e w2 ⟨rfl, hB⟩
          exact ⟨_, rfl, 0, rfl, Mem.next hW hB⟩
        case p13 =>
          intro D bq a' w' hk hc he hl hW
          (try dsimp only at hW)
          have e1 : a'.tmps.getD 60 undef = .int .u16 (IntKind.u16.wrap (u * 16 + (r + 8))) := (hl 60).trans (vsx_at (f := fun _ => .int .u16 (IntKind.u16.wrap (u * 16 + (r + 8)))) rfl (he ⟨1, .data⟩ (by simp) rfl) rfl)
          exact wp_val (.int .u16 (IntKind.u16.wrap (u * 16 + (r + 8)))) (by simp only [execOp, Act.eval, List.map_toArray, List.map_cons, List.map_nil]; rw [e1]; kernel_rfl) ⟨0, rfl, hW⟩
        case p14 =>
          intro D bq a' w' hk hc he hl hW
          (try dsimp only at hW)
          have e12 : a'.tmps.getD 71 undef = .bool (ys || (ts || ks)) := (hl 71).trans (vsx_at (f := fun _ => .bool (ys || (ts || ks))) rfl (he ⟨12, .data⟩ (by simp) rfl) rfl)
          exact wp_val (.bool (ys || (ts || ks))) (by simp only [execOp, Act.eval, List.map_toArray, List.map_cons, List.map_nil]; rw [e12]; kernel_rfl) ⟨0, rfl, hW⟩
        case p15 =>
          intro D bq a' w' hk hc he hl hW
          (try dsimp only at hW)
          exact wp_val (.int .i64 0) (by simp only [execOp, Act.eval, List.map_toArray, List.map_cons, List.map_nil]; kernel_rfl) ⟨0, rfl, hW⟩
        intro D bq w' hD hW
        (try dsimp only at hW)
        simp only [hD 11 (by decide), cond_true] at hW
        clear H hD
        have H := hW
        clear hW
        simp only [putAll, vsOf, Nat.reduceAdd, List.foldl_cons, List.foldl_nil, Act.put, List.setIfInBounds_toArray, List.set_cons_succ, List.set_cons_zero]
        go_wp2
        (try simp only [Exit.inBlock, Exit.then]); refine bodyPost_ret (sp_tmp3 rfl _ _ _) rfl ?_
        exact ⟨by show Ending.returned (.tuple #[.int .u16 (IntKind.u16.wrap (u * 16 + (r + 8))), _, _]) = _; rw [wrap16 (by omega) (by omega)]; congr 3; have := A2.out; first | omega | (congr 1; omega) | (simp; omega), H.toBelow⟩
    · replace h2 : t % 2 = 1 := by omega
      by_cases h8 : r < 8
      · skip
        go_enter Try.func10, Try.ntmps10
        go_wp2_with (first | (go_at_call 22; (with_reducible refine (Q1 _).mono ?_); rintro e w2 ⟨rfl, hB⟩; replace H := H.next hB; clear hB) | (go_at_call 23; (with_reducible refine (Q2 _).mono ?_); rintro e w2 ⟨rfl, hB⟩; replace H := H.next hB; clear hB) | (go_at_call 26; (with_reducible refine (Q3 _).mono ?_); rintro e w2 ⟨rfl, hB⟩; replace H := H.next hB; clear hB) | (go_at_call 27; (with_reducible refine (QB.out _).mono ?_); rintro e w2 ⟨rfl, hB⟩; replace H := H.next hB; clear hB) | fail)
        have z0 := (HS.out.below H.toBelow).t0
        have r0 := cell_regrown z0
        (try simp only [Act.put, List.setIfInBounds_toArray, List.set_cons_succ, List.set_cons_zero])
        (refine wp_region_quiet_below (by kernel_rfl) (by kernel_rfl) ?_); (repeat (first | go_big_quiet_step ((first | (go_at_call 28; (with_reducible exact Calls.regrown_of (QR.out _ ((HS.out.below H.toBelow).below (below_regrown _ _ _))))) | fail)))); (refine wpQuiet_nil ?_); intro _ hw'; obtain ⟨⟨dq, osq⟩, hw''⟩ := hw'; (subst hw''); replace H := H.next (below_regrown _ dq osq); generalize Go.Sort.grow (redrawn _ dq) osq = wq at *
        clear z0 r0
        go_wp2_with fail
        (try simp only [Act.put, List.setIfInBounds_toArray, List.set_cons_succ, List.set_cons_zero])
        refine wp_region_x (by kernel_rfl) (by kernel_rfl) [(some 59, fun _ => .int .i64 (u * 16 + r + 4096)), (some 60, fun _ => .int .u16 (IntKind.u16.wrap (u * 16 + r + 4096))), (some 61, fun _ => .slice (some ⟨b, o, none⟩) 4 4), (some 62, fun _ => .pointer (some ⟨b, o, none⟩)), (some 63, fun _ => .agg #[.int .u8 y, .bool ys]), (some 64, fun _ => .slice (some ⟨b, o, none⟩) 4 4), (some 65, fun _ => .pointer (some ⟨b, o + 2, none⟩)), (some 66, fun _ => .agg #[.int .u8 t, .bool ts]), (some 67, fun _ => .slice (some ⟨b, o, none⟩) 4 4), (some 68, fun _ => .pointer (some ⟨b, o + 4, none⟩)), (some 69, fun _ => .agg #[.int .u8 k, .bool ks]), (some 70, fun g => .slice (some ⟨g, 0, none⟩) 3 3), (some 71, fun _ => .bool (ys || (ts || ks))), (some 10, fun _ => .int .u16 (IntKind.u16.wrap (u * 16 + r + 4096))), (some 11, fun _ => .bool (ys || (ts || ks))), (some 12, fun _ => .int .i64 0)] (fun D bq w' => Mem w.heap.size [] w w' (cond (D 11) [(bq 11, #[.int .u8 y, .bool ys, .int .u8 t, .bool ts, .int .u8 k, .bool ks])] [])) 72 (by rfl) (by rfl) (by rfl) H.drew ⟨⟨rfl, ?p0⟩, ⟨rfl, ?p1⟩, ⟨rfl, ?p2⟩, ⟨rfl, ?p3⟩, ⟨rfl, ?p4⟩, ⟨rfl, ?p5⟩, ⟨rfl, ?p6⟩, ⟨rfl, ?p7⟩, ⟨rfl, ?p8⟩, ⟨rfl, ?p9⟩, ⟨rfl, ?p10⟩, ⟨rfl, ?p11⟩, ⟨rfl, ?p12⟩, ⟨rfl, ?p13⟩, ⟨rfl, ?p14⟩, ⟨rfl, ?p15⟩, trivial⟩ ?_
        case p0 =>
          intro D bq a' w' hk hc he hl hW
          (try dsimp only at hW)
          have f16 : a'.tmps.getD 16 undef = .int .i64 (u * 16 + r + 4096) := (hl 16).trans ((vsx_no rfl).trans rfl)
          exact wp_val (.int .i64 (u * 16 + r + 4096)) (by simp only [execOp, Act.eval, List.map_toArray, List.map_cons, List.map_nil]; rw [f16]; kernel_rfl) ⟨0, rfl, hW⟩
        case p1 =>
          intro D bq a' w' hk hc he hl hW
          (try dsimp only at hW)
          have e0 : a'.tmps.getD 59 undef = .int .i64 (u * 16 + r + 4096) := (hl 59).trans (vsx_at (f := fun _ => .int .i64 (u * 16 + r + 4096)) rfl (he ⟨0, .data⟩ (by simp) rfl) rfl)
          exact wp_val (.int .u16 (IntKind.u16.wrap (u * 16 + r + 4096))) (by simp only [execOp, Act.eval, List.map_toArray, List.map_cons, List.map_nil]; rw [e0]; kernel_rfl) ⟨0, rfl, hW⟩
        case p2 =>
          intro D bq a' w' hk hc he hl hW
          (try dsimp only at hW)
          have f13 : a'.tmps.getD 13 undef = .slice (some ⟨b, o, none⟩) 4 4 := (hl 13).trans ((vsx_no rfl).trans rfl)
          exact wp_val (.slice (some ⟨b, o, none⟩) 4 4) (by simp only [execOp, Act.eval, List.map_toArray, List.map_cons, List.map_nil]; rw [f13]; kernel_rfl) ⟨0, rfl, hW⟩
        case p3 =>
          intro D bq a' w' hk hc he hl hW
          (try dsimp only at hW)
          have e2 : a'.tmps.getD 61 undef = .slice (some ⟨b, o, none⟩) 4 4 := (hl 61).trans (vsx_at (f := fun _ => .slice (some ⟨b, o, none⟩) 4 4) rfl (he ⟨2, .data⟩ (by simp) rfl) rfl)
          exact wp_val (.pointer (some ⟨b, o, none⟩)) (by simp only [execOp, Act.eval, List.map_toArray, List.map_cons, List.map_nil]; rw [e2]; kernel_rfl) ⟨0, rfl, hW⟩
        case p4 =>
          intro D bq a' w' hk hc he hl hW
          (try dsimp only at hW)
          have e3 : a'.tmps.getD 62 undef = .pointer (some ⟨b, o, none⟩) := (hl 62).trans (vsx_at (f := fun _ => .pointer (some ⟨b, o, none⟩)) rfl (he ⟨3, .data⟩ (by simp) rfl) rfl)
          exact wp_xloadS _ _ rfl b o e3 (Mem.condB hW) _ (cells2 HS.out.y0 HS.out.y1) HS.out.lt (by simp) (by decide +kernel) (by kernel_rfl) ⟨0, rfl, hW⟩
        case p5 =>
          intro D bq a' w' hk hc he hl hW
          (try dsimp only at hW)
          have f13 : a'.tmps.getD 13 undef = .slice (some ⟨b, o, none⟩) 4 4 := (hl 13).trans ((vsx_no rfl).trans rfl)
          exact wp_val (.slice (some ⟨b, o, none⟩) 4 4) (by simp only [execOp, Act.eval, List.map_toArray, List.map_cons, List.map_nil]; rw [f13]; kernel_rfl) ⟨0, rfl, hW⟩
        case p6 =>
          intro D bq a' w' hk hc he hl hW
          (try dsimp only at hW)
          have e5 : a'.tmps.getD 64 undef = .slice (some ⟨b, o, none⟩) 4 4 := (hl 64).trans (vsx_at (f := fun _ => .slice (some ⟨b, o, none⟩) 4 4) rfl (he ⟨5, .data⟩ (by simp) rfl) rfl)
          exact wp_val (.pointer (some ⟨b, o + 2, none⟩)) (by simp only [execOp, Act.eval, List.map_toArray, List.map_cons, List.map_nil]; rw [e5]; kernel_rfl) ⟨0, rfl, hW⟩
        case p7 =>
          intro D bq a' w' hk hc he hl hW
          (try dsimp only at hW)
          have e6 : a'.tmps.getD 65 undef = .pointer (some ⟨b, o + 2, none⟩) := (hl 65).trans (vsx_at (f := fun _ => .pointer (some ⟨b, o + 2, none⟩)) rfl (he ⟨6, .data⟩ (by simp) rfl) rfl)
          exact wp_xloadS _ _ rfl b (o + 2) e6 (Mem.condB hW) _ (cells2 HS.out.t0 HS.out.t1) HS.out.lt (by simp) (by decide +kernel) (by kernel_rfl) ⟨0, rfl, hW⟩
        case p8 =>
          intro D bq a' w' hk hc he hl hW
          (try dsimp only at hW)
          have f13 : a'.tmps.getD 13 undef = .slice (some ⟨b, o, none⟩) 4 4 := (hl 13).trans ((vsx_no rfl).trans rfl)
          exact wp_val (.slice (some ⟨b, o, none⟩) 4 4) (by simp only [execOp, Act.eval, List.map_toArray, List.map_cons, List.map_nil]; rw [f13]; kernel_rfl) ⟨0, rfl, hW⟩
        case p9 =>
          intro D bq a' w' hk hc he hl hW
          (try dsimp only at hW)
          have e8 : a'.tmps.getD 67 undef = .slice (some ⟨b, o, none⟩) 4 4 := (hl 67).trans (vsx_at (f := fun _ => .slice (some ⟨b, o, none⟩) 4 4) rfl (he ⟨8, .data⟩ (by simp) rfl) rfl)
          exact wp_val (.pointer (some ⟨b, o + 4, none⟩)) (by simp only [execOp, Act.eval, List.map_toArray, List.map_cons, List.map_nil]; rw [e8]; kernel_rfl) ⟨0, rfl, hW⟩
        case p10 =>
          intro D bq a' w' hk hc he hl hW
          (try dsimp only at hW)
          have e9 : a'.tmps.getD 68 undef = .pointer (some ⟨b, o + 4, none⟩) := (hl 68).trans (vsx_at (f := fun _ => .pointer (some ⟨b, o + 4, none⟩)) rfl (he ⟨9, .data⟩ (by simp) rfl) rfl)
          exact wp_xloadS _ _ rfl b (o + 4) e9 (Mem.condB hW) _ (cells2 HS.out.k0 HS.out.k1) HS.out.lt (by simp) (by decide +kernel) (by kernel_rfl) ⟨0, rfl, hW⟩
        case p11 =>
          intro D bq a' w' hk hc he hl hW
          (try dsimp only at hW)
          have e4 : a'.tmps.getD 63 undef = .agg #[.int .u8 y, .bool ys] := (hl 63).trans (vsx_at (f := fun _ => .agg #[.int .u8 y, .bool ys]) rfl (he ⟨4, .data⟩ (by simp) rfl) rfl)
          have e7 : a'.tmps.getD 66 undef = .agg #[.int .u8 t, .bool ts] := (hl 66).trans (vsx_at (f := fun _ => .agg #[.int .u8 t, .bool ts]) rfl (he ⟨7, .data⟩ (by simp) rfl) rfl)
          have e10 : a'.tmps.getD 69 undef = .agg #[.int .u8 k, .bool ks] := (hl 69).trans (vsx_at (f := fun _ => .agg #[.int .u8 k, .bool ks]) rfl (he ⟨10, .data⟩ (by simp) rfl) rfl)
          have hM := Mem.ofF hk hW
          have hA := fun T => Mem.new hM #[.int .u8 y, .bool ys, .int .u8 t, .bool ts, .int .u8 k, .bool ks] T
          exact wp_row _ _ _ rfl _ (by simp only [List.map_toArray, List.map_cons, List.map_nil, Act.eval, e4, e7, e10]) _ _ (build_bs3 y ys t ts k ks) ⟨_, rfl, hA _⟩
        case p12 =>
          intro D bq a' w' hk hc he hl hW
          (try dsimp only at hW)
          have e11 : a'.tmps.getD 70 undef = .slice (some ⟨bq 11, 0, none⟩) 3 3 := (hl 70).trans (vsx_at (f := fun g => .slice (some ⟨g, 0, none⟩) 3 3) rfl (he ⟨11, .data⟩ (by simp) rfl) rfl)
          have hR := Mem.ofT (he ⟨11, .data⟩ (by simp) rfl) hW
          refine wp_callp (vals := #[.slice (some ⟨bq 11, 0, none⟩) 3 3]) rfl rfl (by simp only [List.map_toArray, List.map_cons, List.map_nil, Act.eval, e11]) (by kernel_rfl) (any_row [(y, ys), (t, ts), (k, ks)] (ys || (ts || ks)) hR 0 rfl rfl (anyS_three _ _ _ _ _ _) (by decide) (by simp [maxLen]) (fun j u h => by simpa [bcs] using h)) ?_
          rintro e w2 ⟨rfl, hB⟩
          exact ⟨_, rfl, 0, rfl, Mem.next hW hB⟩
        case p13 =>
          intro D bq a' w' hk hc he hl hW
          (try dsimp only at hW)
          have e1 : a'.tmps.getD 60 undef = .int .u16 (IntKind.u16.wrap (u * 16 + r + 4096)) := (hl 60).trans (vsx_at (f := fun _ => .int .u16 (IntKind.u16.wrap (u * 16 + r + 4096))) rfl (he ⟨1, .data⟩ (by simp) rfl) rfl)
          exact wp_val (.int .u16 (IntKind.u16.wrap (u * 16 + r + 4096))) (by simp only [execOp, Act.eval, List.map_toArray, List.map_cons, List.map_nil]; rw [e1]; kernel_rfl) ⟨0, rfl, hW⟩
        case p14 =>
          intro D bq a' w' hk hc he hl hW
          (try dsimp only at hW)
          have e12 : a'.tmps.getD 71 undef = .bool (ys || (ts || ks)) := (hl 71).trans (vsx_at (f := fun _ => .bool (ys || (ts || ks))) rfl (he ⟨12, .data⟩ (by simp) rfl) rfl)
          exact wp_val (.bool (ys || (ts || ks))) (by simp only [execOp, Act.eval, List.map_toArray, List.map_cons, List.map_nil]; rw [e12]; kernel_rfl) ⟨0, rfl, hW⟩
        case p15 =>
          intro D bq a' w' hk hc he hl hW
          (try dsimp only at hW)
          exact wp_val (.int .i64 0) (by simp only [execOp, Act.eval, List.map_toArray, List.map_cons, List.map_nil]; kernel_rfl) ⟨0, rfl, hW⟩
        intro D bq w' hD hW
        (try dsimp only at hW)
        simp only [hD 11 (by decide), cond_true] at hW
        clear H hD
        have H := hW
        clear hW
        simp only [putAll, vsOf, Nat.reduceAdd, List.foldl_cons, List.foldl_nil, Act.put, List.setIfInBounds_toArray, List.set_cons_succ, List.set_cons_zero]
        go_wp2
        (try simp only [Exit.inBlock, Exit.then]); refine bodyPost_ret (sp_tmp3 rfl _ _ _) rfl ?_
        exact ⟨by show Ending.returned (.tuple #[.int .u16 (IntKind.u16.wrap (u * 16 + r + 4096)), _, _]) = _; rw [wrap16 (by omega) (by omega)]; congr 3; have := A2.out; first | omega | (congr 1; omega) | (simp; omega), H.toBelow⟩
      · skip
        go_enter Try.func10, Try.ntmps10
        go_wp2_with (first | (go_at_call 22; (with_reducible refine (Q1 _).mono ?_); rintro e w2 ⟨rfl, hB⟩; replace H := H.next hB; clear hB) | (go_at_call 23; (with_reducible refine (Q2 _).mono ?_); rintro e w2 ⟨rfl, hB⟩; replace H := H.next hB; clear hB) | (go_at_call 26; (with_reducible refine (Q3 _).mono ?_); rintro e w2 ⟨rfl, hB⟩; replace H := H.next hB; clear hB) | (go_at_call 27; (with_reducible refine (QB.out _).mono ?_); rintro e w2 ⟨rfl, hB⟩; replace H := H.next hB; clear hB) | fail)
        have z0 := (HS.out.below H.toBelow).t0
        have r0 := cell_regrown z0
        (try simp only [Act.put, List.setIfInBounds_toArray, List.set_cons_succ, List.set_cons_zero])
        (refine wp_region_quiet_below (by kernel_rfl) (by kernel_rfl) ?_); (repeat (first | go_big_quiet_step ((first | (go_at_call 28; (with_reducible exact Calls.regrown_of (QR.out _ ((HS.out.below H.toBelow).below (below_regrown _ _ _))))) | fail)))); (refine wpQuiet_nil ?_); intro _ hw'; obtain ⟨⟨dq, osq⟩, hw''⟩ := hw'; (subst hw''); replace H := H.next (below_regrown _ dq osq); generalize Go.Sort.grow (redrawn _ dq) osq = wq at *
        clear z0 r0
        go_wp2_with fail
        (try simp only [Act.put, List.setIfInBounds_toArray, List.set_cons_succ, List.set_cons_zero])
        refine wp_region_x (by kernel_rfl) (by kernel_rfl) [(some 59, fun _ => .int .i64 (u * 16 + (r + 8) + 4096)), (some 60, fun _ => .int .u16 (IntKind.u16.wrap (u * 16 + (r + 8) + 4096))), (some 61, fun _ => .slice (some ⟨b, o, none⟩) 4 4), (some 62, fun _ => .pointer (some ⟨b, o, none⟩)), (some 63, fun _ => .agg #[.int .u8 y, .bool ys]), (some 64, fun _ => .slice (some ⟨b, o, none⟩) 4 4), (some 65, fun _ => .pointer (some ⟨b, o + 2, none⟩)), (some 66, fun _ => .agg #[.int .u8 t, .bool ts]), (some 67, fun _ => .slice (some ⟨b, o, none⟩) 4 4), (some 68, fun _ => .pointer (some ⟨b, o + 4, none⟩)), (some 69, fun _ => .agg #[.int .u8 k, .bool ks]), (some 70, fun g => .slice (some ⟨g, 0, none⟩) 3 3), (some 71, fun _ => .bool (ys || (ts || ks))), (some 10, fun _ => .int .u16 (IntKind.u16.wrap (u * 16 + (r + 8) + 4096))), (some 11, fun _ => .bool (ys || (ts || ks))), (some 12, fun _ => .int .i64 0)] (fun D bq w' => Mem w.heap.size [] w w' (cond (D 11) [(bq 11, #[.int .u8 y, .bool ys, .int .u8 t, .bool ts, .int .u8 k, .bool ks])] [])) 72 (by rfl) (by rfl) (by rfl) H.drew ⟨⟨rfl, ?p0⟩, ⟨rfl, ?p1⟩, ⟨rfl, ?p2⟩, ⟨rfl, ?p3⟩, ⟨rfl, ?p4⟩, ⟨rfl, ?p5⟩, ⟨rfl, ?p6⟩, ⟨rfl, ?p7⟩, ⟨rfl, ?p8⟩, ⟨rfl, ?p9⟩, ⟨rfl, ?p10⟩, ⟨rfl, ?p11⟩, ⟨rfl, ?p12⟩, ⟨rfl, ?p13⟩, ⟨rfl, ?p14⟩, ⟨rfl, ?p15⟩, trivial⟩ ?_
        case p0 =>
          intro D bq a' w' hk hc he hl hW
          (try dsimp only at hW)
          have f16 : a'.tmps.getD 16 undef = .int .i64 (u * 16 + (r + 8) + 4096) := (hl 16).trans ((vsx_no rfl).trans rfl)
          exact wp_val (.int .i64 (u * 16 + (r + 8) + 4096)) (by simp only [execOp, Act.eval, List.map_toArray, List.map_cons, List.map_nil]; rw [f16]; kernel_rfl) ⟨0, rfl, hW⟩
        case p1 =>
          intro D bq a' w' hk hc he hl hW
          (try dsimp only at hW)
          have e0 : a'.tmps.getD 59 undef = .int .i64 (u * 16 + (r + 8) + 4096) := (hl 59).trans (vsx_at (f := fun _ => .int .i64 (u * 16 + (r + 8) + 4096)) rfl (he ⟨0, .data⟩ (by simp) rfl) rfl)
          exact wp_val (.int .u16 (IntKind.u16.wrap (u * 16 + (r + 8) + 4096))) (by simp only [execOp, Act.eval, List.map_toArray, List.map_cons, List.map_nil]; rw [e0]; kernel_rfl) ⟨0, rfl, hW⟩
        case p2 =>
          intro D bq a' w' hk hc he hl hW
          (try dsimp only at hW)
          have f13 : a'.tmps.getD 13 undef = .slice (some ⟨b, o, none⟩) 4 4 := (hl 13).trans ((vsx_no rfl).trans rfl)
          exact wp_val (.slice (some ⟨b, o, none⟩) 4 4) (by simp only [execOp, Act.eval, List.map_toArray, List.map_cons, List.map_nil]; rw [f13]; kernel_rfl) ⟨0, rfl, hW⟩
        case p3 =>
          intro D bq a' w' hk hc he hl hW
          (try dsimp only at hW)
          have e2 : a'.tmps.getD 61 undef = .slice (some ⟨b, o, none⟩) 4 4 := (hl 61).trans (vsx_at (f := fun _ => .slice (some ⟨b, o, none⟩) 4 4) rfl (he ⟨2, .data⟩ (by simp) rfl) rfl)
          exact wp_val (.pointer (some ⟨b, o, none⟩)) (by simp only [execOp, Act.eval, List.map_toArray, List.map_cons, List.map_nil]; rw [e2]; kernel_rfl) ⟨0, rfl, hW⟩
        case p4 =>
          intro D bq a' w' hk hc he hl hW
          (try dsimp only at hW)
          have e3 : a'.tmps.getD 62 undef = .pointer (some ⟨b, o, none⟩) := (hl 62).trans (vsx_at (f := fun _ => .pointer (some ⟨b, o, none⟩)) rfl (he ⟨3, .data⟩ (by simp) rfl) rfl)
          exact wp_xloadS _ _ rfl b o e3 (Mem.condB hW) _ (cells2 HS.out.y0 HS.out.y1) HS.out.lt (by simp) (by decide +kernel) (by kernel_rfl) ⟨0, rfl, hW⟩
        case p5 =>
          intro D bq a' w' hk hc he hl hW
          (try dsimp only at hW)
          have f13 : a'.tmps.getD 13 undef = .slice (some ⟨b, o, none⟩) 4 4 := (hl 13).trans ((vsx_no rfl).trans rfl)
          exact wp_val (.slice (some ⟨b, o, none⟩) 4 4) (by simp only [execOp, Act.eval, List.map_toArray, List.map_cons, List.map_nil]; rw [f13]; kernel_rfl) ⟨0, rfl, hW⟩
        case p6 =>
          intro D bq a' w' hk hc he hl hW
          (try dsimp only at hW)
          have e5 : a'.tmps.getD 64 undef = .slice (some ⟨b, o, none⟩) 4 4 := (hl 64).trans (vsx_at (f := fun _ => .slice (some ⟨b, o, none⟩) 4 4) rfl (he ⟨5, .data⟩ (by simp) rfl) rfl)
          exact wp_val (.pointer (some ⟨b, o + 2, none⟩)) (by simp only [execOp, Act.eval, List.map_toArray, List.map_cons, List.map_nil]; rw [e5]; kernel_rfl) ⟨0, rfl, hW⟩
        case p7 =>
          intro D bq a' w' hk hc he hl hW
          (try dsimp only at hW)
          have e6 : a'.tmps.getD 65 undef = .pointer (some ⟨b, o + 2, none⟩) := (hl 65).trans (vsx_at (f := fun _ => .pointer (some ⟨b, o + 2, none⟩)) rfl (he ⟨6, .data⟩ (by simp) rfl) rfl)
          exact wp_xloadS _ _ rfl b (o + 2) e6 (Mem.condB hW) _ (cells2 HS.out.t0 HS.out.t1) HS.out.lt (by simp) (by decide +kernel) (by kernel_rfl) ⟨0, rfl, hW⟩
        case p8 =>
          intro D bq a' w' hk hc he hl hW
          (try dsimp only at hW)
          have f13 : a'.tmps.getD 13 undef = .slice (some ⟨b, o, none⟩) 4 4 := (hl 13).trans ((vsx_no rfl).trans rfl)
          exact wp_val (.slice (some ⟨b, o, none⟩) 4 4) (by simp only [execOp, Act.eval, List.map_toArray, List.map_cons, List.map_nil]; rw [f13]; kernel_rfl) ⟨0, rfl, hW⟩
        case p9 =>
          intro D bq a' w' hk hc he hl hW
          (try dsimp only at hW)
          have e8 : a'.tmps.getD 67 undef = .slice (some ⟨b, o, none⟩) 4 4 := (hl 67).trans (vsx_at (f := fun _ => .slice (some ⟨b, o, none⟩) 4 4) rfl (he ⟨8, .data⟩ (by simp) rfl) rfl)
          exact wp_val (.pointer (some ⟨b, o + 4, none⟩)) (by simp only [execOp, Act.eval, List.map_toArray, List.map_cons, List.map_nil]; rw [e8]; kernel_rfl) ⟨0, rfl, hW⟩
        case p10 =>
          intro D bq a' w' hk hc he hl hW
          (try dsimp only at hW)
          have e9 : a'.tmps.getD 68 undef = .pointer (some ⟨b, o + 4, none⟩) := (hl 68).trans (vsx_at (f := fun _ => .pointer (some ⟨b, o + 4, none⟩)) rfl (he ⟨9, .data⟩ (by simp) rfl) rfl)
          exact wp_xloadS _ _ rfl b (o + 4) e9 (Mem.condB hW) _ (cells2 HS.out.k0 HS.out.k1) HS.out.lt (by simp) (by decide +kernel) (by kernel_rfl) ⟨0, rfl, hW⟩
        case p11 =>
          intro D bq a' w' hk hc he hl hW
          (try dsimp only at hW)
          have e4 : a'.tmps.getD 63 undef = .agg #[.int .u8 y, .bool ys] := (hl 63).trans (vsx_at (f := fun _ => .agg #[.int .u8 y, .bool ys]) rfl (he ⟨4, .data⟩ (by simp) rfl) rfl)
          have e7 : a'.tmps.getD 66 undef = .agg #[.int .u8 t, .bool ts] := (hl 66).trans (vsx_at (f := fun _ => .agg #[.int .u8 t, .bool ts]) rfl (he ⟨7, .data⟩ (by simp) rfl) rfl)
          have e10 : a'.tmps.getD 69 undef = .agg #[.int .u8 k, .bool ks] := (hl 69).trans (vsx_at (f := fun _ => .agg #[.int .u8 k, .bool ks]) rfl (he ⟨10, .data⟩ (by simp) rfl) rfl)
          have hM := Mem.ofF hk hW
          have hA := fun T => Mem.new hM #[.int .u8 y, .bool ys, .int .u8 t, .bool ts, .int .u8 k, .bool ks] T
          exact wp_row _ _ _ rfl _ (by simp only [List.map_toArray, List.map_cons, List.map_nil, Act.eval, e4, e7, e10]) _ _ (build_bs3 y ys t ts k ks) ⟨_, rfl, hA _⟩
        case p12 =>
          intro D bq a' w' hk hc he hl hW
          (try dsimp only at hW)
          have e11 : a'.tmps.getD 70 undef = .slice (some ⟨bq 11, 0, none⟩) 3 3 := (hl 70).trans (vsx_at (f := fun g => .slice (some ⟨g, 0, none⟩) 3 3) rfl (he ⟨11, .data⟩ (by simp) rfl) rfl)
          have hR := Mem.ofT (he ⟨11, .data⟩ (by simp) rfl) hW
          refine wp_callp (vals := #[.slice (some ⟨bq 11, 0, none⟩) 3 3]) rfl rfl (by simp only [List.map_toArray, List.map_cons, List.map_nil, Act.eval, e11]) (by kernel_rfl) (any_row [(y, ys), (t, ts), (k, ks)] (ys || (ts || ks)) hR 0 rfl rfl (anyS_three _ _ _ _ _ _) (by decide) (by simp [maxLen]) (fun j u h => by simpa [bcs] using h)) ?_
          rintro e w2 ⟨rfl, hB⟩
          exact ⟨_, rfl, 0, rfl, Mem.next hW hB⟩
        case p13 =>
          intro D bq a' w' hk hc he hl hW
          (try dsimp only at hW)
          have e1 : a'.tmps.getD 60 undef = .int .u16 (IntKind.u16.wrap (u * 16 + (r + 8) + 4096)) := (hl 60).trans (vsx_at (f := fun _ => .int .u16 (IntKind.u16.wrap (u * 16 + (r + 8) + 4096))) rfl (he ⟨1, .data⟩ (by simp) rfl) rfl)
          exact wp_val (.int .u16 (IntKind.u16.wrap (u * 16 + (r + 8) + 4096))) (by simp only [execOp, Act.eval, List.map_toArray, List.map_cons, List.map_nil]; rw [e1]; kernel_rfl) ⟨0, rfl, hW⟩
        case p14 =>
          intro D bq a' w' hk hc he hl hW
          (try dsimp only at hW)
          have e12 : a'.tmps.getD 71 undef = .bool (ys || (ts || ks)) := (hl 71).trans (vsx_at (f := fun _ => .bool (ys || (ts || ks))) rfl (he ⟨12, .data⟩ (by simp) rfl) rfl)
          exact wp_val (.bool (ys || (ts || ks))) (by simp only [execOp, Act.eval, List.map_toArray, List.map_cons, List.map_nil]; rw [e12]; kernel_rfl) ⟨0, rfl, hW⟩
        case p15 =>
          intro D bq a' w' hk hc he hl hW
          (try dsimp only at hW)
          exact wp_val (.int .i64 0) (by simp only [execOp, Act.eval, List.map_toArray, List.map_cons, List.map_nil]; kernel_rfl) ⟨0, rfl, hW⟩
        intro D bq w' hD hW
        (try dsimp only at hW)
        simp only [hD 11 (by decide), cond_true] at hW
        clear H hD
        have H := hW
        clear hW
        simp only [putAll, vsOf, Nat.reduceAdd, List.foldl_cons, List.foldl_nil, Act.put, List.setIfInBounds_toArray, List.set_cons_succ, List.set_cons_zero]
        go_wp2
        (try simp only [Exit.inBlock, Exit.then]); refine bodyPost_ret (sp_tmp3 rfl _ _ _) rfl ?_
        exact ⟨by show Ending.returned (.tuple #[.int .u16 (IntKind.u16.wrap (u * 16 + (r + 8) + 4096)), _, _]) = _; rw [wrap16 (by omega) (by omega)]; congr 3; have := A2.out; first | omega | (congr 1; omega) | (simp; omega), H.toBelow⟩
theorem saddr_ct (b off cap i : Nat) (line : Int) (tl tb : Bool) (l : List (Int × Bool)) (w : World) (hL : Ls w b off l) (hl : l.length = 256) (hb : bytS l) (hi : i < 64) (hc : 256 ≤ cap) (hm : cap ≤ maxLen) (l0 : 0 ≤ line) (l1 : line < 256) :
    Calls Try.prog 10 #[.slice (some ⟨b, off, none⟩) 256 cap, .int .i64 (i : Int), .int .i64 line, .bool tl, .bool tb] w fun e w' => e = .returned (.tuple #[.int .u16 (adrL l i line tl tb), .bool (secA l i), .int .i64 0]) ∧ Below w.heap.size w w' :=
  saddr_in b off cap i _ _ _ _ line _ _ _ _ tl tb w (hL.sb i (by omega)) (hb _ (by omega)).1 (hb _ (by omega)).2 (hb _ (by omega)).1 (hb _ (by omega)).2 (hb _ (by omega)).1 (hb _ (by omega)).2 l0 l1 hi hc hm
end Go.Proofs.Ytphnpahjofacfaa
