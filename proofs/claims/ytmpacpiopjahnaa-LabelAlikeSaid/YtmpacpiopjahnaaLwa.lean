/-
  The walk of layer 1's law on what is alike, over this seat's translation: it returns true, and writes nothing that was there. Each value of a byte is from 0 to 255.
-/
import Derived.Test.YtmpacpiopjahnaaLbn
namespace Go.Proofs.Ytmpacpiopjahnaa
open Go.RowKit
theorem BC.set {w : World} {g : Nat} {a : Int} {s : Bool} (h : BC w g a s) (x : Int) : BC (w.setCell ⟨g, 0, none⟩ (.int .u8 x)) g x s := by
  obtain ⟨h1, h2, h3⟩ := h
  refine ⟨by simpa [World.setCell] using h1, World.cell?_setCell_same _ _ _ h2, ?_⟩
  rw [World.cell?_setCell_other _ _ _ _ (by simp)]
  exact h3
theorem BC.far {w : World} {g g' : Nat} {a : Int} {s : Bool} (h : BC w g a s) (hn : g' ≠ g) (o : Nat) (v : Value) : BC (w.setCell ⟨g', o, none⟩ v) g a s := by
  obtain ⟨h1, h2, h3⟩ := h
  refine ⟨by simpa [World.setCell] using h1, ?_, ?_⟩
  · rw [World.cell?_setCell_far _ _ _ _ hn]; exact h2
  · rw [World.cell?_setCell_far _ _ _ _ hn]; exact h3
/-- A byte as another run sees it: another value where it is secret. -/
def oth (a x : Int) (s : Bool) : Int := if s then x else a
theorem oth_bounds (a x : Int) (s : Bool) (ha : 0 ≤ a ∧ a < 256) (hx : 0 ≤ x ∧ x < 256) : 0 ≤ oth a x s ∧ oth a x s < 256 := by cases s <;> simpa [oth]
theorem alike_same (a b : Int) (s : Bool) (h : s = false → a = b) : alikeB a s b s = true := by cases s <;> simp_all [alikeB]

theorem alike_true (a b : Int) (s : Bool) (w : World) (h : s = false → a = b) :
    Calls Try.prog 16 #[.agg #[.int .u8 a, .bool s], .agg #[.int .u8 b, .bool s]] w fun e w' => e = .returned (.bool true) ∧ Below w.heap.size w w' :=
  (alike_ct a b s s w).mono fun _ _ ⟨he, hw⟩ => ⟨by rw [he, alike_same a b s h], hw⟩
theorem oth_low {s : Bool} (a x : Int) (h : s = false) : oth a x s = a := by rw [oth, h]; rfl
theorem or_low {s t : Bool} (h : (s || t) = false) : s = false ∧ t = false := by simpa using h

set_option maxRecDepth 100000 in
set_option maxHeartbeats 8000000 in
theorem alike_walk (a b c x y z i n : Int) (s t u o : Bool) (w : World) (ha : 0 ≤ a ∧ a < 256) (hb : 0 ≤ b ∧ b < 256) (hx : 0 ≤ x ∧ x < 256) (hy : 0 ≤ y ∧ y < 256) :
    Calls Try.prog 6 #[.agg #[.int .u8 a, .bool s, .int .u8 b, .bool t, .int .u8 c, .bool u, .int .u8 x, .int .u8 y, .int .u8 z, .int .i64 i, .int .u16 n, .bool o]] w fun e w' => e = .returned (.bool true) ∧ Below w.heap.size w w' := by
  obtain ⟨a0, a1⟩ := ha
  obtain ⟨b0, b1⟩ := hb
  obtain ⟨p0, p1⟩ := oth_bounds a x s ⟨a0, a1⟩ hx
  obtain ⟨q0, q1⟩ := oth_bounds b y t ⟨b0, b1⟩ hy
  go_enter Try.func6, Try.ntmps6
  go_upto_region 1 with fail
  go_cut [3, 4, 5, 6, 7, 8, 9] (fun s3 s4 s5 s6 s7 s8 s9 wx => ∃ g h k : Nat, s3 = .pointer (some ⟨g, 0, none⟩) ∧ s4 = .pointer (some ⟨h, 0, none⟩) ∧ s5 = .pointer (some ⟨k, 0, none⟩) ∧ s6 = .int .u8 x ∧ s7 = .int .u8 y ∧ s8 = .int .u8 z ∧ s9 = .int .i64 i ∧ BC wx g a s ∧ BC wx h b t ∧ BC wx k c u ∧ Below w.heap.size w wx)
  case first => as_aux_lemma =>
    go_region_held3 (fun w' => w'.cell? ⟨w.heap.size, 0, none⟩ = some (.int .u8 a) ∧ w'.cell? ⟨w.heap.size, 1, none⟩ = some (.bool s) ∧ w'.cell? ⟨w.heap.size, 2, none⟩ = some (.int .u8 b) ∧ w'.cell? ⟨w.heap.size, 3, none⟩ = some (.bool t) ∧ w'.cell? ⟨w.heap.size, 4, none⟩ = some (.int .u8 c) ∧ w'.cell? ⟨w.heap.size, 5, none⟩ = some (.bool u) ∧ w'.cell? ⟨w.heap.size, 6, none⟩ = some (.int .u8 x) ∧ w'.cell? ⟨w.heap.size, 7, none⟩ = some (.int .u8 y) ∧ w'.cell? ⟨w.heap.size, 8, none⟩ = some (.int .u8 z) ∧ w'.cell? ⟨w.heap.size, 9, none⟩ = some (.int .i64 i)) (go_keep)
      (fail)
    all_goals
      go_wp2_with fail
      go_meet
      exact ⟨_, _, _, rfl, rfl, rfl, rfl, rfl, rfl, rfl, ⟨by simp, by simp [go_sem], by simp [go_sem]⟩, ⟨by simp, by simp [go_sem], by simp [go_sem]⟩, ⟨by simp, by simp [go_sem], by simp [go_sem]⟩, (by repeat' (first | exact Below.refl _ _ | (refine Below.setCell ?_ (by first | (simp; done) | (simp; omega) | omega) _) | (refine Below.drew ?_) | (refine Below.drewN ?_ _) | (refine Below.alloc ?_ (by first | (simp; done) | (simp; omega) | omega) _)))⟩
  case rest =>
    obtain ⟨g, h, k, rfl, rfl, rfl, rfl, rfl, rfl, rfl, kg, kh, kk, hB⟩ := hcut
    obtain ⟨lg, cg, dg⟩ := id kg
    obtain ⟨lh, ch, dh⟩ := id kh
    obtain ⟨lk, ck, dk⟩ := id kk
    go_upto_region 2 with fail
    go_cut [10, 11, 12] (fun s10 s11 s12 wx => ∃ g' h' k' : Nat, s10 = .pointer (some ⟨g', 0, none⟩) ∧ s11 = .pointer (some ⟨h', 0, none⟩) ∧ s12 = .pointer (some ⟨k', 0, none⟩) ∧ (BC wx g' a s ∧ wx.frozen? ⟨g', 0, none⟩ = false ∧ wc.heap.size ≤ g') ∧ (BC wx h' b t ∧ wx.frozen? ⟨h', 0, none⟩ = false ∧ wc.heap.size ≤ h') ∧ (BC wx k' c u ∧ wx.frozen? ⟨k', 0, none⟩ = false ∧ wc.heap.size ≤ k') ∧ g' ≠ h' ∧ g' ≠ k' ∧ h' ≠ k' ∧ Below wc.heap.size wc wx)
    case first => as_aux_lemma =>
      go_region_held3 (fun w' => (g < w'.heap.size ∧ w'.cell? ⟨g, 0, none⟩ = some (.int .u8 a) ∧ w'.cell? ⟨g, 1, none⟩ = some (.bool s)) ∧ (h < w'.heap.size ∧ w'.cell? ⟨h, 0, none⟩ = some (.int .u8 b) ∧ w'.cell? ⟨h, 1, none⟩ = some (.bool t)) ∧ (k < w'.heap.size ∧ w'.cell? ⟨k, 0, none⟩ = some (.int .u8 c) ∧ w'.cell? ⟨k, 1, none⟩ = some (.bool u)))
        (exact ⟨next1 (w := wc) (by repeat' (first | exact Below.refl _ _ | (refine Below.setCell ?_ (by first | (simp; done) | (simp; omega) | omega) _) | (refine Below.drew ?_) | (refine Below.drewN ?_ _) | (refine Below.alloc ?_ (by first | (simp; done) | (simp; omega) | omega) _))) ⟨lg, cg, dg⟩, next1 (w := wc) (by repeat' (first | exact Below.refl _ _ | (refine Below.setCell ?_ (by first | (simp; done) | (simp; omega) | omega) _) | (refine Below.drew ?_) | (refine Below.drewN ?_ _) | (refine Below.alloc ?_ (by first | (simp; done) | (simp; omega) | omega) _))) ⟨lh, ch, dh⟩, next1 (w := wc) (by repeat' (first | exact Below.refl _ _ | (refine Below.setCell ?_ (by first | (simp; done) | (simp; omega) | omega) _) | (refine Below.drew ?_) | (refine Below.drewN ?_ _) | (refine Below.alloc ?_ (by first | (simp; done) | (simp; omega) | omega) _))) ⟨lk, ck, dk⟩⟩)
        (fail)
      all_goals
        go_wp2_with fail
        go_meet
        exact ⟨_, _, _, rfl, rfl, rfl, ⟨⟨(by first | (simp; done) | (simp; omega) | omega), (by simp [go_sem]), (by simp [go_sem])⟩, (by simp [go_sem]), (by first | (simp; done) | (simp; omega) | omega)⟩, ⟨⟨(by first | (simp; done) | (simp; omega) | omega), (by simp [go_sem]), (by simp [go_sem])⟩, (by simp [go_sem]), (by first | (simp; done) | (simp; omega) | omega)⟩, ⟨⟨(by first | (simp; done) | (simp; omega) | omega), (by simp [go_sem]), (by simp [go_sem])⟩, (by simp [go_sem]), (by first | (simp; done) | (simp; omega) | omega)⟩, (by first | (simp; done) | (simp; omega) | omega), (by first | (simp; done) | (simp; omega) | omega), (by first | (simp; done) | (simp; omega) | omega), (by repeat' (first | exact Below.refl _ _ | (refine Below.setCell ?_ (by first | (simp; done) | (simp; omega) | omega) _) | (refine Below.drew ?_) | (refine Below.drewN ?_ _) | (refine Below.alloc ?_ (by first | (simp; done) | (simp; omega) | omega) _)))⟩
    case rest =>
    obtain ⟨g', h', k', rfl, rfl, rfl, ⟨kg', fg', zg'⟩, ⟨kh', fh', zh'⟩, ⟨kk', fk', zk'⟩, e1, e2, e3, hB2⟩ := hcut
    replace kg := kg.next hB2
    replace kh := kh.next hB2
    replace kk := kk.next hB2
    have n1 : g' ≠ g := by omega
    have n2 : g' ≠ h := by omega
    have n3 : g' ≠ k := by omega
    have n4 : h' ≠ g := by omega
    have n5 : h' ≠ h := by omega
    have n6 : h' ≠ k := by omega
    have n7 : k' ≠ g := by omega
    have n8 : k' ≠ h := by omega
    have n9 : k' ≠ k := by omega
    have m1 : w.heap.size ≤ g' := Nat.le_trans hB.size zg'
    have m2 : w.heap.size ≤ h' := Nat.le_trans hB.size zh'
    have m3 : w.heap.size ≤ k' := Nat.le_trans hB.size zk'
    replace hB := hB.next hB2
    clear lg cg dg lh ch dh lk ck dk zg' zh' zk' hB2
    obtain ⟨l1, c1, d1⟩ := id kg
    go_upto_region 3 with fail
    go_cut [35] (fun s0 wx => s0 = .bool s ∧ wx = wc)
    case first => as_aux_lemma =>
      go_wp2_with fail
      go_meet
      exact ⟨rfl, rfl⟩
    case rest =>
    obtain ⟨rfl, rfl⟩ := hcut
    clear l1 c1 d1
    go_upto_if 35 with fail
    go_cut [] (fun wx => BC wx g a s ∧ BC wx h b t ∧ BC wx k c u ∧ (BC wx g' (oth a x s) s ∧ wx.frozen? ⟨g', 0, none⟩ = false) ∧ (BC wx h' b t ∧ wx.frozen? ⟨h', 0, none⟩ = false) ∧ (BC wx k' c u ∧ wx.frozen? ⟨k', 0, none⟩ = false) ∧ Below w.heap.size w wx)
    case first => as_aux_lemma =>
      cases s
      · go_wp2_with fail
        go_meet
        exact ⟨kg, kh, kk, ⟨kg', fg'⟩, ⟨kh', fh'⟩, ⟨kk', fk'⟩, hB⟩
      · obtain ⟨l1, c1, d1⟩ := id kg'
        go_wp2_with fail
        go_meet
        exact ⟨kg.far n1 0 (.int .u8 x), kh.far n2 0 (.int .u8 x), kk.far n3 0 (.int .u8 x), ⟨kg'.set x, by simp [fg']⟩, ⟨kh'.far e1 0 (.int .u8 x), by simp [fh']⟩, ⟨kk'.far e2 0 (.int .u8 x), by simp [fk']⟩, hB.setCell m1 _⟩
    case rest =>
    clear kg kh kk kg' fg' kh' fh' kk' fk' hB
    obtain ⟨kg, kh, kk, ⟨kg', fg'⟩, ⟨kh', fh'⟩, ⟨kk', fk'⟩, hB⟩ := hcut
    obtain ⟨l1, c1, d1⟩ := id kh
    go_upto_region 5 with fail
    go_cut [39] (fun s0 wx => s0 = .bool t ∧ wx = wc)
    case first => as_aux_lemma =>
      go_wp2_with fail
      go_meet
      exact ⟨rfl, rfl⟩
    case rest =>
    obtain ⟨rfl, rfl⟩ := hcut
    clear l1 c1 d1
    go_upto_if 39 with fail
    go_cut [] (fun wx => BC wx g a s ∧ BC wx h b t ∧ BC wx k c u ∧ (BC wx g' (oth a x s) s ∧ wx.frozen? ⟨g', 0, none⟩ = false) ∧ (BC wx h' (oth b y t) t ∧ wx.frozen? ⟨h', 0, none⟩ = false) ∧ (BC wx k' c u ∧ wx.frozen? ⟨k', 0, none⟩ = false) ∧ Below w.heap.size w wx)
    case first => as_aux_lemma =>
      cases t
      · go_wp2_with fail
        go_meet
        exact ⟨kg, kh, kk, ⟨kg', fg'⟩, ⟨kh', fh'⟩, ⟨kk', fk'⟩, hB⟩
      · obtain ⟨l1, c1, d1⟩ := id kh'
        go_wp2_with fail
        go_meet
        exact ⟨kg.far n4 0 (.int .u8 y), kh.far n5 0 (.int .u8 y), kk.far n6 0 (.int .u8 y), ⟨kg'.far e1.symm 0 (.int .u8 y), by simp [fg']⟩, ⟨kh'.set y, by simp [fh']⟩, ⟨kk'.far e3 0 (.int .u8 y), by simp [fk']⟩, hB.setCell m2 _⟩
    case rest =>
    clear kg kh kk kg' fg' kh' fh' kk' fk' hB
    obtain ⟨kg, kh, kk, ⟨kg', fg'⟩, ⟨kh', fh'⟩, ⟨kk', fk'⟩, hB⟩ := hcut
    obtain ⟨l1, c1, d1⟩ := id kk
    go_upto_region 7 with fail
    go_cut [43] (fun s0 wx => s0 = .bool u ∧ wx = wc)
    case first => as_aux_lemma =>
      go_wp2_with fail
      go_meet
      exact ⟨rfl, rfl⟩
    case rest =>
    obtain ⟨rfl, rfl⟩ := hcut
    clear l1 c1 d1
    go_upto_if 43 with fail
    go_cut [] (fun wx => BC wx g a s ∧ BC wx h b t ∧ BC wx k c u ∧ (BC wx g' (oth a x s) s ∧ wx.frozen? ⟨g', 0, none⟩ = false) ∧ (BC wx h' (oth b y t) t ∧ wx.frozen? ⟨h', 0, none⟩ = false) ∧ (BC wx k' (oth c z u) u ∧ wx.frozen? ⟨k', 0, none⟩ = false) ∧ Below w.heap.size w wx)
    case first => as_aux_lemma =>
      cases u
      · go_wp2_with fail
        go_meet
        exact ⟨kg, kh, kk, ⟨kg', fg'⟩, ⟨kh', fh'⟩, ⟨kk', fk'⟩, hB⟩
      · obtain ⟨l1, c1, d1⟩ := id kk'
        go_wp2_with fail
        go_meet
        exact ⟨kg.far n7 0 (.int .u8 z), kh.far n8 0 (.int .u8 z), kk.far n9 0 (.int .u8 z), ⟨kg'.far e2.symm 0 (.int .u8 z), by simp [fg']⟩, ⟨kh'.far e3.symm 0 (.int .u8 z), by simp [fh']⟩, ⟨kk'.set z, by simp [fk']⟩, hB.setCell m3 _⟩
    case rest =>
    clear kg kh kk kg' fg' kh' fh' kk' fk' hB
    obtain ⟨kg, kh, kk, ⟨kg', fg'⟩, ⟨kh', fh'⟩, ⟨kk', fk'⟩, hB⟩ := hcut
    clear fg' fh' fk' n1 n2 n3 n4 n5 n6 n7 n8 n9 m1 m2 m3 e1 e2 e3
    obtain ⟨lg, cg, dg⟩ := id kg
    obtain ⟨lh, ch, dh⟩ := id kh
    go_wp2_with fail
    refine (word_ct a b s t _ a0 a1 b0 b1).mono ?_
    rintro e w1 ⟨rfl, h1⟩
    clear lg cg dg lh ch dh
    replace kg := kg.next h1
    replace kh := kh.next h1
    replace kk := kk.next h1
    replace kg' := kg'.next h1
    replace kh' := kh'.next h1
    replace kk' := kk'.next h1
    replace hB := hB.next h1
    obtain ⟨lg', cg', dg'⟩ := id kg'
    obtain ⟨lh', ch', dh'⟩ := id kh'
    go_wp2_with fail
    refine (word_ct (oth a x s) (oth b y t) s t _ p0 p1 q0 q1).mono ?_
    rintro e w2 ⟨rfl, h2⟩
    clear lg' cg' dg' lh' ch' dh'
    replace kg := kg.next h2
    replace kh := kh.next h2
    replace kk := kk.next h2
    replace kg' := kg'.next h2
    replace kh' := kh'.next h2
    replace kk' := kk'.next h2
    replace hB := hB.next h2
    clear h1 h2
    obtain ⟨lg, cg, dg⟩ := id kg
    obtain ⟨lh, ch, dh⟩ := id kh
    obtain ⟨lk, ck, dk⟩ := id kk
    obtain ⟨lg', cg', dg'⟩ := id kg'
    obtain ⟨lh', ch', dh'⟩ := id kh'
    obtain ⟨lk', ck', dk'⟩ := id kk'
    clear kg kh kk kg' kh' kk'
    go_upto_region 11 with fail
    have hq : (s || t) = false → a + 256 * b = oth a x s + 256 * oth b y t := fun h => by rw [oth_low a x (or_low h).1, oth_low b y (or_low h).2]
    generalize a + 256 * b = m at *
    generalize oth a x s + 256 * oth b y t = m' at *
    have two : (s || t) = true ∨ (s || t) = false := by cases (s || t) <;> simp
    rcases two with hst | hst
    rotate_left
    have hmm := hq hst
    subst hmm
    have hp1 := oth_low a x (or_low hst).1
    have hp2 := oth_low b y (or_low hst).2
    rw [hp1] at cg' p0 p1
    rw [hp2] at ch' q0 q1
    · as_aux_lemma =>
      clear hq hp1 hp2
      go_region_held3 (fun w' => Below w.heap.size w w' ∧ (g < w'.heap.size ∧ w'.cell? ⟨g, 0, none⟩ = some (.int .u8 a) ∧ w'.cell? ⟨g, 1, none⟩ = some (.bool s)) ∧ (h < w'.heap.size ∧ w'.cell? ⟨h, 0, none⟩ = some (.int .u8 b) ∧ w'.cell? ⟨h, 1, none⟩ = some (.bool t)) ∧ (k < w'.heap.size ∧ w'.cell? ⟨k, 0, none⟩ = some (.int .u8 c) ∧ w'.cell? ⟨k, 1, none⟩ = some (.bool u)) ∧ (g' < w'.heap.size ∧ w'.cell? ⟨g', 0, none⟩ = some (.int .u8 a) ∧ w'.cell? ⟨g', 1, none⟩ = some (.bool s)) ∧ (h' < w'.heap.size ∧ w'.cell? ⟨h', 0, none⟩ = some (.int .u8 b) ∧ w'.cell? ⟨h', 1, none⟩ = some (.bool t)) ∧ (k' < w'.heap.size ∧ w'.cell? ⟨k', 0, none⟩ = some (.int .u8 (oth c z u)) ∧ w'.cell? ⟨k', 1, none⟩ = some (.bool u)))
        (first | assumption | (refine And.imp (next0 h1) (And.imp (next1 h1) (And.imp (next1 h1) (And.imp (next1 h1) (And.imp (next1 h1) (And.imp (next1 h1) (next1 h1)))))) ?_; assumption) | exact ⟨hB.drew, ⟨lg, cg, dg⟩, ⟨lh, ch, dh⟩, ⟨lk, ck, dk⟩, ⟨lg', cg', dg'⟩, ⟨lh', ch', dh'⟩, ⟨lk', ck', dk'⟩⟩)
        (first
          | (go_at_call 20; refine (and_ct _ _ _ _ _).mono ?_; rintro e w1 ⟨rfl, h1⟩)
          | (go_at_call 22; refine (or_ct _ _ _ _ _).mono ?_; rintro e w1 ⟨rfl, h1⟩)
          | (go_at_call 23; refine (xor_ct _ _ _ _ _).mono ?_; rintro e w1 ⟨rfl, h1⟩)
          | (go_at_call_of 24 (Value.agg #[Value.int IntKind.u8 a, Value.bool s]); refine (bit_ct _ _ _ _ a0 a1).mono ?_; rintro e w1 ⟨rfl, h1⟩)
          | (go_at_call_of 24 (Value.agg #[Value.int IntKind.u8 a, Value.bool s]); refine (bit_ct _ _ _ _ p0 p1).mono ?_; rintro e w1 ⟨rfl, h1⟩)
          | (go_at_call 26; refine (mux_ct _ _ _ _ _ _ _).mono ?_; rintro e w1 ⟨rfl, h1⟩)
          | (go_at_call 16; refine (alike_true _ _ _ _ (by intro h0; first | rfl | (rw [oth_low c z h0]) | (rw [oth_low a x h0]) | (cases h0))).mono ?_; rintro e w1 ⟨rfl, h1⟩)
          | (go_at_call 19; refine (awake_ct _).mono ?_; rintro e w1 ⟨rfl, h1⟩))
      obtain ⟨hz, -⟩ := ‹Below w.heap.size w w1 ∧ _›
      go_wp2
      go_ret
      exact ⟨rfl, hz⟩
    · as_aux_lemma =>
      clear hq
      rw [hst]
      first | (go_region_held (fun w' => Below w.heap.size w w' ∧ (g < w'.heap.size ∧ w'.cell? ⟨g, 0, none⟩ = some (.int .u8 a) ∧ w'.cell? ⟨g, 1, none⟩ = some (.bool s)) ∧ (h < w'.heap.size ∧ w'.cell? ⟨h, 0, none⟩ = some (.int .u8 b) ∧ w'.cell? ⟨h, 1, none⟩ = some (.bool t)) ∧ (k < w'.heap.size ∧ w'.cell? ⟨k, 0, none⟩ = some (.int .u8 c) ∧ w'.cell? ⟨k, 1, none⟩ = some (.bool u)) ∧ (g' < w'.heap.size ∧ w'.cell? ⟨g', 0, none⟩ = some (.int .u8 (oth a x s)) ∧ w'.cell? ⟨g', 1, none⟩ = some (.bool s)) ∧ (h' < w'.heap.size ∧ w'.cell? ⟨h', 0, none⟩ = some (.int .u8 (oth b y t)) ∧ w'.cell? ⟨h', 1, none⟩ = some (.bool t)) ∧ (k' < w'.heap.size ∧ w'.cell? ⟨k', 0, none⟩ = some (.int .u8 (oth c z u)) ∧ w'.cell? ⟨k', 1, none⟩ = some (.bool u)))
        (first | assumption | (refine And.imp (next0 h1) (And.imp (next1 h1) (And.imp (next1 h1) (And.imp (next1 h1) (And.imp (next1 h1) (And.imp (next1 h1) (next1 h1)))))) ?_; assumption) | exact ⟨hB.drew, ⟨lg, cg, dg⟩, ⟨lh, ch, dh⟩, ⟨lk, ck, dk⟩, ⟨lg', cg', dg'⟩, ⟨lh', ch', dh'⟩, ⟨lk', ck', dk'⟩⟩)
        (first
          | (go_at_call 20; refine (and_ct _ _ _ _ _).mono ?_; rintro e w1 ⟨rfl, h1⟩)
          | (go_at_call 22; refine (or_ct _ _ _ _ _).mono ?_; rintro e w1 ⟨rfl, h1⟩)
          | (go_at_call 23; refine (xor_ct _ _ _ _ _).mono ?_; rintro e w1 ⟨rfl, h1⟩)
          | (go_at_call_of 24 (Value.agg #[Value.int IntKind.u8 a, Value.bool s]); refine (bit_ct _ _ _ _ a0 a1).mono ?_; rintro e w1 ⟨rfl, h1⟩)
          | (go_at_call_of 24 (Value.agg #[Value.int IntKind.u8 (oth a x s), Value.bool s]); refine (bit_ct _ _ _ _ p0 p1).mono ?_; rintro e w1 ⟨rfl, h1⟩)
          | (go_at_call 26; refine (mux_ct _ _ _ _ _ _ _).mono ?_; rintro e w1 ⟨rfl, h1⟩)
          | (go_at_call 16; refine (alike_true _ _ _ _ (by intro h0; first | rfl | (rw [oth_low c z h0]) | (rw [oth_low a x h0]) | (cases h0))).mono ?_; rintro e w1 ⟨rfl, h1⟩)
          | (go_at_call 19; refine (awake_ct _).mono ?_; rintro e w1 ⟨rfl, h1⟩))) | fail
      all_goals
        obtain ⟨hz, -⟩ := ‹Below w.heap.size w w1 ∧ _›
        go_wp2
        go_ret
        exact ⟨rfl, hz⟩
end Go.Proofs.Ytmpacpiopjahnaa
