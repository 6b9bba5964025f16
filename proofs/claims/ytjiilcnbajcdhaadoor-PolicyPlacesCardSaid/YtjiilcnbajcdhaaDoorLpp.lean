/-
  PolicyPlaces' walk. Over this seat's translation; what the package's variables hold: Glob.
-/
import Derived.Test.YtjiilcnbajcdhaaDoorLpl
import Derived.Test.YtjiilcnbajcdhaaDoorPsc
import Derived.Test.YtjiilcnbajcdhaaDoorPpm
import Derived.BigQuiet
import Derived.Test.YtjiilcnbajcdhaaDoorBx4
namespace Go.Proofs.YtjiilcnbajcdhaaDoor
open Go.RowKit

theorem and15i (n : Int) : bits .and .i64 n 15 = n % 16 := by
  have h15 : (BitVec.ofInt 64 15).toNat = 2 ^ 4 - 1 := by decide
  have key : (BitVec.ofInt 64 n &&& BitVec.ofInt 64 15).toNat = (n % ((2 ^ 64 : Nat) : Int)).toNat % 2 ^ 4 := by
    rw [BitVec.toNat_and, BitVec.toNat_ofInt, h15, Nat.and_two_pow_sub_one_eq_mod]
  show IntKind.i64.wrap ((BitVec.ofInt 64 n &&& BitVec.ofInt 64 15).toNat : Nat) = n % 16
  rw [key, IntKind.wrap_i64]
  omega
theorem noBad_one {l : List UInt8} {c : Cls} (h : cls l = c) (hc : c ≠ .bad) : noBad [l] = true := by
  simp [noBad, isBad, h, hc]
def POne (p : List (Int × Int)) (q : List (Int × Int)) (w : World) (e : Ending) (w' : World) : Prop :=
  ∃ sv tv, e = .returned (.tuple #[polV false false sv tv, .int .i64 0, .int .i64 0]) ∧ Rg w' sv p ∧ Rg w' tv q ∧ Below w.heap.size w w'
theorem parse_ram {f g : Nat} (ln : ByteArray) (w : World) (G : Glob w) (hs : ln.size ≤ 4096) (hl : ln.data.toList = ramLine f g) (hg : g < 2048) (hfg : f ≤ g) :
    Calls Tryd.prog 4 #[.string ln] w (POne [((f : Int), (g : Int))] [] w) := by
  have hc := cls_ram (f := f) (g := g) (by omega) hg hfg
  have hls : linesOf ln.data.toList = [ramLine f g] := by rw [hl]; exact (line_ten (by omega) (by omega)).1
  refine (parse_yes ln w G hs (by rw [hls]; exact noBad_one hc (by simp))).mono ?_
  rintro e w' ⟨sv, tv, ra, sa, rfl, hr, ht, h1, h2, hB⟩
  rw [hls] at h1 h2
  have e1 : rams [ramLine f g] = [((f : Int), (g : Int))] := by simp [rams, ramOf, hc]
  have e2 : saves [ramLine f g] = [] := by simp [saves, saveOf, hc]
  have e3 : anyP1 (linesOf ln.data.toList) = false := by rw [hls]; simp [anyP1, hc]
  have e4 : anyP2 (linesOf ln.data.toList) = false := by rw [hls]; simp [anyP2, hc]
  rw [e1] at h1
  rw [e2] at h2
  obtain rfl := tidied_one (by omega) (by omega) (by omega) h1
  obtain rfl := tidied_nil h2
  exact ⟨sv, tv, by rw [e3, e4], hr, ht, hB⟩
theorem parse_save {f g : Nat} (ln : ByteArray) (w : World) (G : Glob w) (hs : ln.size ≤ 4096) (hl : ln.data.toList = saveLine f g) (hg : g < 8192) (hfg : f ≤ g) :
    Calls Tryd.prog 4 #[.string ln] w (POne [] [((f : Int), (g : Int))] w) := by
  have hc := cls_save (f := f) (g := g) (by omega) hg hfg
  have hls : linesOf ln.data.toList = [saveLine f g] := by rw [hl]; exact (line_ten (by omega) (by omega)).2
  refine (parse_yes ln w G hs (by rw [hls]; exact noBad_one hc (by simp))).mono ?_
  rintro e w' ⟨sv, tv, ra, sa, rfl, hr, ht, h1, h2, hB⟩
  rw [hls] at h1 h2
  have e1 : rams [saveLine f g] = [] := by simp [rams, ramOf, hc]
  have e2 : saves [saveLine f g] = [((f : Int), (g : Int))] := by simp [saves, saveOf, hc]
  have e3 : anyP1 (linesOf ln.data.toList) = false := by rw [hls]; simp [anyP1, hc]
  have e4 : anyP2 (linesOf ln.data.toList) = false := by rw [hls]; simp [anyP2, hc]
  rw [e1] at h1
  rw [e2] at h2
  obtain rfl := tidied_nil h1
  obtain rfl := tidied_one (by omega) (by omega) (by omega) h2
  exact ⟨sv, tv, by rw [e3, e4], hr, ht, hB⟩
theorem inB_pair (f g : Nat) (x : Int) : inB [((f : Int), (g : Int))] x = (decide ((f : Int) ≤ x) && decide (x ≤ (g : Int))) := by
  simp [inB, inR]
theorem hexT_one (i : Nat) (h : i < 16) : ∃ e : ByteArray, hexT.extract i (i + 1) = e ∧ e.size = 1 ∧ e.data.toList = [dg i] := by
  have h1 := hexT_at i h
  refine ⟨_, rfl, ?_, h1⟩
  have : (hexT.extract i (i + 1)).data.toList.length = 1 := by rw [h1]; rfl
  rw [Array.length_toList] at this
  exact this
set_option maxRecDepth 100000 in
set_option maxHeartbeats 16000000 in
theorem places_walk (from_ long_ at_ : Nat) (sv : Bool) (w : World) (G : Glob w) (h1 : from_ < 65536) (h2 : long_ < 65536) (h3 : at_ < 65536) :
    Calls Tryd.prog 3 #[.agg #[.int .u16 (from_ : Int), .int .u16 (long_ : Int), .int .u16 (at_ : Int), .bool sv]] w fun e w' => e = .returned (.bool true) ∧ Below w.heap.size w w' := by
  have KA : Hid (∀ wr, Below w.heap.size w wr → Calls Tryd.prog 6 #[] wr fun e w' => e = .returned (.bool true) ∧ Below wr.heap.size wr w') := fun wr h => pawake_ct wr (G.below h)
  have KPr : Hid (∀ (ln : ByteArray) (f g : Nat) wr, Below w.heap.size w wr → ln.size ≤ 4096 → ln.data.toList = ramLine f g → g < 2048 → f ≤ g → Calls Tryd.prog 4 #[.string ln] wr (POne [((f : Int), (g : Int))] [] wr)) := fun ln f g wr h a b c d => parse_ram ln wr (G.below h) a b c d
  have KPs : Hid (∀ (ln : ByteArray) (f g : Nat) wr, Below w.heap.size w wr → ln.size ≤ 4096 → ln.data.toList = saveLine f g → g < 8192 → f ≤ g → Calls Tryd.prog 4 #[.string ln] wr (POne [] [((f : Int), (g : Int))] wr)) := fun ln f g wr h a b c d => parse_save ln wr (G.below h) a b c d
  clear G
  go_enter Tryd.func3, Tryd.ntmps3
  go_wp2_with fail
  go_quiet (fail)
  cases sv
  · go_upto_region 6 with fail
    obtain ⟨f, hf⟩ : ∃ f : Nat, (from_ : Int) % 2048 = f := ⟨from_ % 2048, by omega⟩
    obtain ⟨g, hg⟩ : ∃ g : Nat, min ((f : Int) + (long_ : Int) % 200) 2047 = g := ⟨min (f + long_ % 200) 2047, by omega⟩
    rw [hf, hg]
    have f1 : f < 2048 := by omega
    have g1 : g < 2048 := by omega
    have fg : f ≤ g := by omega
    clear hf hg
    obtain ⟨x3, hx3, sx3, lx3⟩ := hexT_one (f / 4096) (by omega)
    obtain ⟨x2, hx2, sx2, lx2⟩ := hexT_one (f / 256 % 16) (by omega)
    obtain ⟨x1, hx1, sx1, lx1⟩ := hexT_one (f / 16 % 16) (by omega)
    obtain ⟨x0, hx0, sx0, lx0⟩ := hexT_one (f % 16) (by omega)
    obtain ⟨y3, hy3, sy3, ly3⟩ := hexT_one (g / 4096) (by omega)
    obtain ⟨y2, hy2, sy2, ly2⟩ := hexT_one (g / 256 % 16) (by omega)
    obtain ⟨y1, hy1, sy1, ly1⟩ := hexT_one (g / 16 % 16) (by omega)
    obtain ⟨y0, hy0, sy0, ly0⟩ := hexT_one (g % 16) (by omega)
    unfold hexT at hx3 hx2 hx1 hx0 hy3 hy2 hy1 hy0
    have LX := Lib.hid (And.intro lx3 (And.intro lx2 (And.intro lx1 lx0)))
    have LY := Lib.hid (And.intro ly3 (And.intro ly2 (And.intro ly1 ly0)))
    clear lx3 lx2 lx1 lx0 ly3 ly2 ly1 ly0
    have fa3 : (0 : Int) ≤ (f : Int) / 4096 := by omega
    have fb3 : (f : Int) / 4096 ≤ (f : Int) / 4096 + 1 := by omega
    have fc3 : (f : Int) / 4096 + 1 ≤ 16 := by omega
    have fd3 : ((f : Int) / 4096).toNat = f / 4096 := by omega
    have fe3 : ((f : Int) / 4096 + 1).toNat = f / 4096 + 1 := by omega
    have fa2 : (0 : Int) ≤ (f : Int) / 256 % 16 := by omega
    have fb2 : (f : Int) / 256 % 16 ≤ (f : Int) / 256 % 16 + 1 := by omega
    have fc2 : (f : Int) / 256 % 16 + 1 ≤ 16 := by omega
    have fd2 : ((f : Int) / 256 % 16).toNat = f / 256 % 16 := by omega
    have fe2 : ((f : Int) / 256 % 16 + 1).toNat = f / 256 % 16 + 1 := by omega
    have fa1 : (0 : Int) ≤ (f : Int) / 16 % 16 := by omega
    have fb1 : (f : Int) / 16 % 16 ≤ (f : Int) / 16 % 16 + 1 := by omega
    have fc1 : (f : Int) / 16 % 16 + 1 ≤ 16 := by omega
    have fd1 : ((f : Int) / 16 % 16).toNat = f / 16 % 16 := by omega
    have fe1 : ((f : Int) / 16 % 16 + 1).toNat = f / 16 % 16 + 1 := by omega
    have fa0 : (0 : Int) ≤ (f : Int) % 16 := by omega
    have fb0 : (f : Int) % 16 ≤ (f : Int) % 16 + 1 := by omega
    have fc0 : (f : Int) % 16 + 1 ≤ 16 := by omega
    have fd0 : ((f : Int) % 16).toNat = f % 16 := by omega
    have fe0 : ((f : Int) % 16 + 1).toNat = f % 16 + 1 := by omega
    have ga3 : (0 : Int) ≤ (g : Int) / 4096 := by omega
    have gb3 : (g : Int) / 4096 ≤ (g : Int) / 4096 + 1 := by omega
    have gc3 : (g : Int) / 4096 + 1 ≤ 16 := by omega
    have gd3 : ((g : Int) / 4096).toNat = g / 4096 := by omega
    have ge3 : ((g : Int) / 4096 + 1).toNat = g / 4096 + 1 := by omega
    have ga2 : (0 : Int) ≤ (g : Int) / 256 % 16 := by omega
    have gb2 : (g : Int) / 256 % 16 ≤ (g : Int) / 256 % 16 + 1 := by omega
    have gc2 : (g : Int) / 256 % 16 + 1 ≤ 16 := by omega
    have gd2 : ((g : Int) / 256 % 16).toNat = g / 256 % 16 := by omega
    have ge2 : ((g : Int) / 256 % 16 + 1).toNat = g / 256 % 16 + 1 := by omega
    have ga1 : (0 : Int) ≤ (g : Int) / 16 % 16 := by omega
    have gb1 : (g : Int) / 16 % 16 ≤ (g : Int) / 16 % 16 + 1 := by omega
    have gc1 : (g : Int) / 16 % 16 + 1 ≤ 16 := by omega
    have gd1 : ((g : Int) / 16 % 16).toNat = g / 16 % 16 := by omega
    have ge1 : ((g : Int) / 16 % 16 + 1).toNat = g / 16 % 16 + 1 := by omega
    have ga0 : (0 : Int) ≤ (g : Int) % 16 := by omega
    have gb0 : (g : Int) % 16 ≤ (g : Int) % 16 + 1 := by omega
    have gc0 : (g : Int) % 16 + 1 ≤ 16 := by omega
    have gd0 : ((g : Int) % 16).toNat = g % 16 := by omega
    have ge0 : ((g : Int) % 16 + 1).toNat = g % 16 + 1 := by omega
    have fm2 := and15i ((f : Int) / 256)
    have fm1 := and15i ((f : Int) / 16)
    have fm0 := and15i (f : Int)
    have gm2 := and15i ((g : Int) / 256)
    have gm1 := and15i ((g : Int) / 16)
    have gm0 := and15i (g : Int)
    go_wp2_with fail
    dsimp only [List.append]
    refine wp_region_quiet_lit (by kernel_rfl) (by kernel_rfl) ?_
    skip
    repeat (go_big_quiet_step (fail))
    refine wpQuiet_nil ?_
    intro _ hw'
    obtain ⟨nq2, hw''⟩ := hw'
    subst hw''
    have hL : ((⟨#[114, 97, 109, 32]⟩ : ByteArray) ++ x3 ++ x2 ++ x1 ++ x0 ++ ⟨#[45]⟩ ++ y3 ++ y2 ++ y1 ++ y0).data.toList = ramLine f g := by
      simp only [ByteArray.data_append, Array.toList_append, LX.out.1, LX.out.2.1, LX.out.2.2.1, LX.out.2.2.2, LY.out.1, LY.out.2.1, LY.out.2.2.1, LY.out.2.2.2]
      rfl
    have hS : ((⟨#[114, 97, 109, 32]⟩ : ByteArray) ++ x3 ++ x2 ++ x1 ++ x0 ++ ⟨#[45]⟩ ++ y3 ++ y2 ++ y1 ++ y0).size ≤ 4096 := by
      simp only [ByteArray.size_append, sx3, sx2, sx1, sx0, sy3, sy2, sy1, sy0]
      decide
    generalize (⟨#[114, 97, 109, 32]⟩ : ByteArray) ++ x3 ++ x2 ++ x1 ++ x0 ++ ⟨#[45]⟩ ++ y3 ++ y2 ++ y1 ++ y0 = ln at hL hS ⊢
    have KP := Lib.hid (fun wr h => KPr.out ln f g wr h hS hL g1 fg)
    clear fa0 fa1 fa2 fa3 fb0 fb1 fb2 fb3 fc0 fc1 fc2 fc3 fd0 fd1 fd2 fd3 fe0 fe1 fe2 fe3 ga0 ga1 ga2 ga3 gb0 gb1 gb2 gb3 gc0 gc1 gc2 gc3 gd0 gd1 gd2 gd3 ge0 ge1 ge2 ge3 fm0 fm1 fm2 gm0 gm1 gm2 hx3 hx2 hx1 hx0 hy3 hy2 hy1 hy0 sx3 sx2 sx1 sx0 sy3 sy2 sy1 sy0 LX LY hL hS KPr KPs
    go_wp2_with fail
    ((with_reducible refine (KP.out _ (by repeat' (first | exact Below.refl _ _ | (refine Below.setCell ?_ (by first | (simp; done) | (simp; omega) | omega) _) | (refine Below.drew ?_) | (refine Below.drewN ?_ _) | (refine Below.alloc ?_ (by first | (simp; done) | (simp; omega) | omega) _)))).mono ?_))
    rintro e w1 ⟨sv, tv, rfl, hr, ht, hB⟩
    have B : Below w.heap.size w w1 := (by repeat' (first | exact Below.refl _ _ | (refine Below.setCell ?_ (by first | (simp; done) | (simp; omega) | omega) _) | (refine Below.drew ?_) | (refine Below.drewN ?_ _) | (refine Below.alloc ?_ (by first | (simp; done) | (simp; omega) | omega) _) | (refine Below.trans ?_ (Below.mono hB (by first | (simp; done) | (simp; omega) | omega)))))
    clear hB
    have HR : Hid (∀ wr, Below w1.heap.size w1 wr → Rg wr sv [((f : Int), (g : Int))]) := fun wr h => hr.below h
    have HT : Hid (∀ wr, Below w1.heap.size w1 wr → Rg wr tv []) := fun wr h => ht.below h
    obtain ⟨a1, c1, rfl, _⟩ := hr
    obtain ⟨a2, c2, rfl, _⟩ := ht
    simp only [List.length_cons, List.length_nil, Nat.zero_add] at HR HT ⊢
    unfold polV
    obtain ⟨k, hk⟩ : ∃ k : Nat, (at_ : Int) % 2048 = k := ⟨at_ % 2048, by omega⟩
    obtain ⟨j, hj⟩ : ∃ j : Nat, (at_ : Int) % 2 = j := ⟨at_ % 2, by omega⟩
    have j2 : j < 2 := by omega
    have D := Below.refl w1.heap.size w1
    have KS1 := Lib.hid (fun wr (h : Below w1.heap.size w1 wr) => psecram_ct false false (.slice a1 1 c1) (.slice a2 0 c2) [((f : Int), (g : Int))] (k : Int) wr (HR.out wr h) ⟨_, _, _, rfl⟩)
    have KS2 := Lib.hid (fun wr (h : Below w1.heap.size w1 wr) => psecsave_ct false false (.slice a1 1 c1) (.slice a2 0 c2) [] (k : Int) wr (HT.out wr h) ⟨_, _, _, rfl⟩)
    have KS3 := Lib.hid (fun wr => psecport_ct false false (.slice a1 1 c1) (.slice a2 0 c2) j j2 wr)
    have KS4 := Lib.hid (fun wr (h : Below w1.heap.size w1 wr) => psecram_ct false false (.slice a1 1 c1) (.slice a2 0 c2) [((f : Int), (g : Int))] 2048 wr (HR.out wr h) ⟨_, _, _, rfl⟩)
    rw [show inB ([] : List (Int × Int)) (k : Int) = false from rfl] at KS2
    rw [show (if j = 0 then false else false) = false by simp] at KS3
    rw [inB_pair, decide_eq_false (show ¬ (2048 : Int) ≤ (g : Int) by omega), Bool.and_false] at KS4
    rw [inB_pair] at KS1
    unfold polV at KS1 KS2 KS3 KS4
    clear HR HT KP
    by_cases ka : (f : Int) ≤ (k : Int)
    · rw [decide_eq_true ka, Bool.true_and] at KS1
      by_cases kb : (k : Int) ≤ (g : Int)
      · rw [decide_eq_true kb] at KS1
        go_wp2_with fail
        ((with_reducible refine (KS1.out _ (D.alloc D.size _)).mono ?_))
        rintro e w2 ⟨rfl, hB⟩
        have X := (BX.new w1 29 (.bool false) (.bool false) (.slice a1 1 c1) (.slice a2 0 c2)).next hB
        replace B := (B.alloc B.size _).next hB
        replace D := (D.alloc D.size _).next hB
        clear hB
        (skip); have Xz := X.lt; have X0 := X.c0; have X1 := X.c1; have X2 := X.c2; have X3 := X.c3
        go_wp2_with fail
        ((with_reducible refine (KS2.out _ D).mono ?_))
        rintro e w3 ⟨rfl, hB⟩
        replace D := D.next hB
        replace B := B.next hB; replace X := X.next hB; clear hB Xz X0 X1 X2 X3; have Xz := X.lt; have X0 := X.c0; have X1 := X.c1; have X2 := X.c2; have X3 := X.c3
        go_wp2_with fail
        ((with_reducible refine (KS3.out _).mono ?_))
        rintro e w4 ⟨rfl, hB⟩
        replace D := D.next hB
        replace B := B.next hB; replace X := X.next hB; clear hB Xz X0 X1 X2 X3; have Xz := X.lt; have X0 := X.c0; have X1 := X.c1; have X2 := X.c2; have X3 := X.c3
        go_wp2_with fail
        ((with_reducible refine (KS4.out _ D).mono ?_))
        rintro e w5 ⟨rfl, hB⟩
        replace D := D.next hB
        replace B := B.next hB; replace X := X.next hB; clear hB Xz X0 X1 X2 X3; have Xz := X.lt; have X0 := X.c0; have X1 := X.c1; have X2 := X.c2; have X3 := X.c3
        go_wp2_with fail
        ((with_reducible refine (KA.out _ B).mono ?_))
        rintro e w6 ⟨rfl, hB⟩
        replace B := B.next hB
        go_wp2
        go_ret
        exact ⟨rfl, B⟩
      · rw [decide_eq_false kb] at KS1
        go_wp2_with fail
        ((with_reducible refine (KS1.out _ (D.alloc D.size _)).mono ?_))
        rintro e w2 ⟨rfl, hB⟩
        have X := (BX.new w1 29 (.bool false) (.bool false) (.slice a1 1 c1) (.slice a2 0 c2)).next hB
        replace B := (B.alloc B.size _).next hB
        replace D := (D.alloc D.size _).next hB
        clear hB
        (skip); have Xz := X.lt; have X0 := X.c0; have X1 := X.c1; have X2 := X.c2; have X3 := X.c3
        go_wp2_with fail
        ((with_reducible refine (KS2.out _ D).mono ?_))
        rintro e w3 ⟨rfl, hB⟩
        replace D := D.next hB
        replace B := B.next hB; replace X := X.next hB; clear hB Xz X0 X1 X2 X3; have Xz := X.lt; have X0 := X.c0; have X1 := X.c1; have X2 := X.c2; have X3 := X.c3
        go_wp2_with fail
        ((with_reducible refine (KS3.out _).mono ?_))
        rintro e w4 ⟨rfl, hB⟩
        replace D := D.next hB
        replace B := B.next hB; replace X := X.next hB; clear hB Xz X0 X1 X2 X3; have Xz := X.lt; have X0 := X.c0; have X1 := X.c1; have X2 := X.c2; have X3 := X.c3
        go_wp2_with fail
        ((with_reducible refine (KS4.out _ D).mono ?_))
        rintro e w5 ⟨rfl, hB⟩
        replace D := D.next hB
        replace B := B.next hB; replace X := X.next hB; clear hB Xz X0 X1 X2 X3; have Xz := X.lt; have X0 := X.c0; have X1 := X.c1; have X2 := X.c2; have X3 := X.c3
        go_wp2_with fail
        ((with_reducible refine (KA.out _ B).mono ?_))
        rintro e w6 ⟨rfl, hB⟩
        replace B := B.next hB
        go_wp2
        go_ret
        exact ⟨by show Ending.returned (.bool (!decide (k ≤ g))) = _; rw [decide_eq_false (show ¬ k ≤ g by omega)]; rfl, B⟩
    · rw [decide_eq_false ka, Bool.false_and] at KS1
      go_wp2_with fail
      ((with_reducible refine (KS1.out _ (D.alloc D.size _)).mono ?_))
      rintro e w2 ⟨rfl, hB⟩
      have X := (BX.new w1 29 (.bool false) (.bool false) (.slice a1 1 c1) (.slice a2 0 c2)).next hB
      replace B := (B.alloc B.size _).next hB
      replace D := (D.alloc D.size _).next hB
      clear hB
      (skip); have Xz := X.lt; have X0 := X.c0; have X1 := X.c1; have X2 := X.c2; have X3 := X.c3
      go_wp2_with fail
      ((with_reducible refine (KS2.out _ D).mono ?_))
      rintro e w3 ⟨rfl, hB⟩
      replace D := D.next hB
      replace B := B.next hB; replace X := X.next hB; clear hB Xz X0 X1 X2 X3; have Xz := X.lt; have X0 := X.c0; have X1 := X.c1; have X2 := X.c2; have X3 := X.c3
      go_wp2_with fail
      ((with_reducible refine (KS3.out _).mono ?_))
      rintro e w4 ⟨rfl, hB⟩
      replace D := D.next hB
      replace B := B.next hB; replace X := X.next hB; clear hB Xz X0 X1 X2 X3; have Xz := X.lt; have X0 := X.c0; have X1 := X.c1; have X2 := X.c2; have X3 := X.c3
      go_wp2_with fail
      ((with_reducible refine (KS4.out _ D).mono ?_))
      rintro e w5 ⟨rfl, hB⟩
      replace D := D.next hB
      replace B := B.next hB; replace X := X.next hB; clear hB Xz X0 X1 X2 X3; have Xz := X.lt; have X0 := X.c0; have X1 := X.c1; have X2 := X.c2; have X3 := X.c3
      go_wp2_with fail
      ((with_reducible refine (KA.out _ B).mono ?_))
      rintro e w6 ⟨rfl, hB⟩
      replace B := B.next hB
      go_wp2
      go_ret
      exact ⟨rfl, B⟩
  · go_upto_region 6 with fail
    obtain ⟨f, hf⟩ : ∃ f : Nat, (from_ : Int) % 8192 = f := ⟨from_ % 8192, by omega⟩
    obtain ⟨g, hg⟩ : ∃ g : Nat, min ((f : Int) + (long_ : Int) % 200) 8191 = g := ⟨min (f + long_ % 200) 8191, by omega⟩
    rw [hf, hg]
    have f1 : f < 8192 := by omega
    have g1 : g < 8192 := by omega
    have fg : f ≤ g := by omega
    clear hf hg
    obtain ⟨x3, hx3, sx3, lx3⟩ := hexT_one (f / 4096) (by omega)
    obtain ⟨x2, hx2, sx2, lx2⟩ := hexT_one (f / 256 % 16) (by omega)
    obtain ⟨x1, hx1, sx1, lx1⟩ := hexT_one (f / 16 % 16) (by omega)
    obtain ⟨x0, hx0, sx0, lx0⟩ := hexT_one (f % 16) (by omega)
    obtain ⟨y3, hy3, sy3, ly3⟩ := hexT_one (g / 4096) (by omega)
    obtain ⟨y2, hy2, sy2, ly2⟩ := hexT_one (g / 256 % 16) (by omega)
    obtain ⟨y1, hy1, sy1, ly1⟩ := hexT_one (g / 16 % 16) (by omega)
    obtain ⟨y0, hy0, sy0, ly0⟩ := hexT_one (g % 16) (by omega)
    unfold hexT at hx3 hx2 hx1 hx0 hy3 hy2 hy1 hy0
    have LX := Lib.hid (And.intro lx3 (And.intro lx2 (And.intro lx1 lx0)))
    have LY := Lib.hid (And.intro ly3 (And.intro ly2 (And.intro ly1 ly0)))
    clear lx3 lx2 lx1 lx0 ly3 ly2 ly1 ly0
    have fa3 : (0 : Int) ≤ (f : Int) / 4096 := by omega
    have fb3 : (f : Int) / 4096 ≤ (f : Int) / 4096 + 1 := by omega
    have fc3 : (f : Int) / 4096 + 1 ≤ 16 := by omega
    have fd3 : ((f : Int) / 4096).toNat = f / 4096 := by omega
    have fe3 : ((f : Int) / 4096 + 1).toNat = f / 4096 + 1 := by omega
    have fa2 : (0 : Int) ≤ (f : Int) / 256 % 16 := by omega
    have fb2 : (f : Int) / 256 % 16 ≤ (f : Int) / 256 % 16 + 1 := by omega
    have fc2 : (f : Int) / 256 % 16 + 1 ≤ 16 := by omega
    have fd2 : ((f : Int) / 256 % 16).toNat = f / 256 % 16 := by omega
    have fe2 : ((f : Int) / 256 % 16 + 1).toNat = f / 256 % 16 + 1 := by omega
    have fa1 : (0 : Int) ≤ (f : Int) / 16 % 16 := by omega
    have fb1 : (f : Int) / 16 % 16 ≤ (f : Int) / 16 % 16 + 1 := by omega
    have fc1 : (f : Int) / 16 % 16 + 1 ≤ 16 := by omega
    have fd1 : ((f : Int) / 16 % 16).toNat = f / 16 % 16 := by omega
    have fe1 : ((f : Int) / 16 % 16 + 1).toNat = f / 16 % 16 + 1 := by omega
    have fa0 : (0 : Int) ≤ (f : Int) % 16 := by omega
    have fb0 : (f : Int) % 16 ≤ (f : Int) % 16 + 1 := by omega
    have fc0 : (f : Int) % 16 + 1 ≤ 16 := by omega
    have fd0 : ((f : Int) % 16).toNat = f % 16 := by omega
    have fe0 : ((f : Int) % 16 + 1).toNat = f % 16 + 1 := by omega
    have ga3 : (0 : Int) ≤ (g : Int) / 4096 := by omega
    have gb3 : (g : Int) / 4096 ≤ (g : Int) / 4096 + 1 := by omega
    have gc3 : (g : Int) / 4096 + 1 ≤ 16 := by omega
    have gd3 : ((g : Int) / 4096).toNat = g / 4096 := by omega
    have ge3 : ((g : Int) / 4096 + 1).toNat = g / 4096 + 1 := by omega
    have ga2 : (0 : Int) ≤ (g : Int) / 256 % 16 := by omega
    have gb2 : (g : Int) / 256 % 16 ≤ (g : Int) / 256 % 16 + 1 := by omega
    have gc2 : (g : Int) / 256 % 16 + 1 ≤ 16 := by omega
    have gd2 : ((g : Int) / 256 % 16).toNat = g / 256 % 16 := by omega
    have ge2 : ((g : Int) / 256 % 16 + 1).toNat = g / 256 % 16 + 1 := by omega
    have ga1 : (0 : Int) ≤ (g : Int) / 16 % 16 := by omega
    have gb1 : (g : Int) / 16 % 16 ≤ (g : Int) / 16 % 16 + 1 := by omega
    have gc1 : (g : Int) / 16 % 16 + 1 ≤ 16 := by omega
    have gd1 : ((g : Int) / 16 % 16).toNat = g / 16 % 16 := by omega
    have ge1 : ((g : Int) / 16 % 16 + 1).toNat = g / 16 % 16 + 1 := by omega
    have ga0 : (0 : Int) ≤ (g : Int) % 16 := by omega
    have gb0 : (g : Int) % 16 ≤ (g : Int) % 16 + 1 := by omega
    have gc0 : (g : Int) % 16 + 1 ≤ 16 := by omega
    have gd0 : ((g : Int) % 16).toNat = g % 16 := by omega
    have ge0 : ((g : Int) % 16 + 1).toNat = g % 16 + 1 := by omega
    have fm2 := and15i ((f : Int) / 256)
    have fm1 := and15i ((f : Int) / 16)
    have fm0 := and15i (f : Int)
    have gm2 := and15i ((g : Int) / 256)
    have gm1 := and15i ((g : Int) / 16)
    have gm0 := and15i (g : Int)
    go_wp2_with fail
    dsimp only [List.append]
    refine wp_region_quiet_lit (by kernel_rfl) (by kernel_rfl) ?_
    skip
    repeat (go_big_quiet_step (fail))
    refine wpQuiet_nil ?_
    intro _ hw'
    obtain ⟨nq2, hw''⟩ := hw'
    subst hw''
    have hL : ((⟨#[115, 97, 118, 101, 32]⟩ : ByteArray) ++ x3 ++ x2 ++ x1 ++ x0 ++ ⟨#[45]⟩ ++ y3 ++ y2 ++ y1 ++ y0).data.toList = saveLine f g := by
      simp only [ByteArray.data_append, Array.toList_append, LX.out.1, LX.out.2.1, LX.out.2.2.1, LX.out.2.2.2, LY.out.1, LY.out.2.1, LY.out.2.2.1, LY.out.2.2.2]
      rfl
    have hS : ((⟨#[115, 97, 118, 101, 32]⟩ : ByteArray) ++ x3 ++ x2 ++ x1 ++ x0 ++ ⟨#[45]⟩ ++ y3 ++ y2 ++ y1 ++ y0).size ≤ 4096 := by
      simp only [ByteArray.size_append, sx3, sx2, sx1, sx0, sy3, sy2, sy1, sy0]
      decide
    generalize (⟨#[115, 97, 118, 101, 32]⟩ : ByteArray) ++ x3 ++ x2 ++ x1 ++ x0 ++ ⟨#[45]⟩ ++ y3 ++ y2 ++ y1 ++ y0 = ln at hL hS ⊢
    have KP := Lib.hid (fun wr h => KPs.out ln f g wr h hS hL g1 fg)
    clear fa0 fa1 fa2 fa3 fb0 fb1 fb2 fb3 fc0 fc1 fc2 fc3 fd0 fd1 fd2 fd3 fe0 fe1 fe2 fe3 ga0 ga1 ga2 ga3 gb0 gb1 gb2 gb3 gc0 gc1 gc2 gc3 gd0 gd1 gd2 gd3 ge0 ge1 ge2 ge3 fm0 fm1 fm2 gm0 gm1 gm2 hx3 hx2 hx1 hx0 hy3 hy2 hy1 hy0 sx3 sx2 sx1 sx0 sy3 sy2 sy1 sy0 LX LY hL hS KPr KPs
    go_wp2_with fail
    ((with_reducible refine (KP.out _ (by repeat' (first | exact Below.refl _ _ | (refine Below.setCell ?_ (by first | (simp; done) | (simp; omega) | omega) _) | (refine Below.drew ?_) | (refine Below.drewN ?_ _) | (refine Below.alloc ?_ (by first | (simp; done) | (simp; omega) | omega) _)))).mono ?_))
    rintro e w1 ⟨sv, tv, rfl, hr, ht, hB⟩
    have B : Below w.heap.size w w1 := (by repeat' (first | exact Below.refl _ _ | (refine Below.setCell ?_ (by first | (simp; done) | (simp; omega) | omega) _) | (refine Below.drew ?_) | (refine Below.drewN ?_ _) | (refine Below.alloc ?_ (by first | (simp; done) | (simp; omega) | omega) _) | (refine Below.trans ?_ (Below.mono hB (by first | (simp; done) | (simp; omega) | omega)))))
    clear hB
    have HR : Hid (∀ wr, Below w1.heap.size w1 wr → Rg wr sv []) := fun wr h => hr.below h
    have HT : Hid (∀ wr, Below w1.heap.size w1 wr → Rg wr tv [((f : Int), (g : Int))]) := fun wr h => ht.below h
    obtain ⟨a1, c1, rfl, _⟩ := hr
    obtain ⟨a2, c2, rfl, _⟩ := ht
    simp only [List.length_cons, List.length_nil, Nat.zero_add] at HR HT ⊢
    unfold polV
    obtain ⟨k, hk⟩ : ∃ k : Nat, (at_ : Int) % 8192 = k := ⟨at_ % 8192, by omega⟩
    obtain ⟨j, hj⟩ : ∃ j : Nat, (at_ : Int) % 2 = j := ⟨at_ % 2, by omega⟩
    have j2 : j < 2 := by omega
    have D := Below.refl w1.heap.size w1
    have KS1 := Lib.hid (fun wr (h : Below w1.heap.size w1 wr) => psecsave_ct false false (.slice a1 0 c1) (.slice a2 1 c2) [((f : Int), (g : Int))] (k : Int) wr (HT.out wr h) ⟨_, _, _, rfl⟩)
    have KS2 := Lib.hid (fun wr (h : Below w1.heap.size w1 wr) => psecram_ct false false (.slice a1 0 c1) (.slice a2 1 c2) [] (k : Int) wr (HR.out wr h) ⟨_, _, _, rfl⟩)
    have KS3 := Lib.hid (fun wr => psecport_ct false false (.slice a1 0 c1) (.slice a2 1 c2) j j2 wr)
    have KS4 := Lib.hid (fun wr (h : Below w1.heap.size w1 wr) => psecsave_ct false false (.slice a1 0 c1) (.slice a2 1 c2) [((f : Int), (g : Int))] 8192 wr (HT.out wr h) ⟨_, _, _, rfl⟩)
    rw [show inB ([] : List (Int × Int)) (k : Int) = false from rfl] at KS2
    rw [show (if j = 0 then false else false) = false by simp] at KS3
    rw [inB_pair, decide_eq_false (show ¬ (8192 : Int) ≤ (g : Int) by omega), Bool.and_false] at KS4
    rw [inB_pair] at KS1
    unfold polV at KS1 KS2 KS3 KS4
    clear HR HT KP
    by_cases ka : (f : Int) ≤ (k : Int)
    · rw [decide_eq_true ka, Bool.true_and] at KS1
      by_cases kb : (k : Int) ≤ (g : Int)
      · rw [decide_eq_true kb] at KS1
        go_wp2_with fail
        ((with_reducible refine (KS1.out _ (D.alloc D.size _)).mono ?_))
        rintro e w2 ⟨rfl, hB⟩
        have X := (BX.new w1 29 (.bool false) (.bool false) (.slice a1 0 c1) (.slice a2 1 c2)).next hB
        replace B := (B.alloc B.size _).next hB
        replace D := (D.alloc D.size _).next hB
        clear hB
        (skip); have Xz := X.lt; have X0 := X.c0; have X1 := X.c1; have X2 := X.c2; have X3 := X.c3
        go_wp2_with fail
        ((with_reducible refine (KS2.out _ D).mono ?_))
        rintro e w3 ⟨rfl, hB⟩
        replace D := D.next hB
        replace B := B.next hB; replace X := X.next hB; clear hB Xz X0 X1 X2 X3; have Xz := X.lt; have X0 := X.c0; have X1 := X.c1; have X2 := X.c2; have X3 := X.c3
        go_wp2_with fail
        ((with_reducible refine (KS3.out _).mono ?_))
        rintro e w4 ⟨rfl, hB⟩
        replace D := D.next hB
        replace B := B.next hB; replace X := X.next hB; clear hB Xz X0 X1 X2 X3; have Xz := X.lt; have X0 := X.c0; have X1 := X.c1; have X2 := X.c2; have X3 := X.c3
        go_wp2_with fail
        ((with_reducible refine (KS4.out _ D).mono ?_))
        rintro e w5 ⟨rfl, hB⟩
        replace D := D.next hB
        replace B := B.next hB; replace X := X.next hB; clear hB Xz X0 X1 X2 X3; have Xz := X.lt; have X0 := X.c0; have X1 := X.c1; have X2 := X.c2; have X3 := X.c3
        go_wp2_with fail
        ((with_reducible refine (KA.out _ B).mono ?_))
        rintro e w6 ⟨rfl, hB⟩
        replace B := B.next hB
        go_wp2
        go_ret
        exact ⟨rfl, B⟩
      · rw [decide_eq_false kb] at KS1
        go_wp2_with fail
        ((with_reducible refine (KS1.out _ (D.alloc D.size _)).mono ?_))
        rintro e w2 ⟨rfl, hB⟩
        have X := (BX.new w1 29 (.bool false) (.bool false) (.slice a1 0 c1) (.slice a2 1 c2)).next hB
        replace B := (B.alloc B.size _).next hB
        replace D := (D.alloc D.size _).next hB
        clear hB
        (skip); have Xz := X.lt; have X0 := X.c0; have X1 := X.c1; have X2 := X.c2; have X3 := X.c3
        go_wp2_with fail
        ((with_reducible refine (KS2.out _ D).mono ?_))
        rintro e w3 ⟨rfl, hB⟩
        replace D := D.next hB
        replace B := B.next hB; replace X := X.next hB; clear hB Xz X0 X1 X2 X3; have Xz := X.lt; have X0 := X.c0; have X1 := X.c1; have X2 := X.c2; have X3 := X.c3
        go_wp2_with fail
        ((with_reducible refine (KS3.out _).mono ?_))
        rintro e w4 ⟨rfl, hB⟩
        replace D := D.next hB
        replace B := B.next hB; replace X := X.next hB; clear hB Xz X0 X1 X2 X3; have Xz := X.lt; have X0 := X.c0; have X1 := X.c1; have X2 := X.c2; have X3 := X.c3
        go_wp2_with fail
        ((with_reducible refine (KS4.out _ D).mono ?_))
        rintro e w5 ⟨rfl, hB⟩
        replace D := D.next hB
        replace B := B.next hB; replace X := X.next hB; clear hB Xz X0 X1 X2 X3; have Xz := X.lt; have X0 := X.c0; have X1 := X.c1; have X2 := X.c2; have X3 := X.c3
        go_wp2_with fail
        ((with_reducible refine (KA.out _ B).mono ?_))
        rintro e w6 ⟨rfl, hB⟩
        replace B := B.next hB
        go_wp2
        go_ret
        exact ⟨by show Ending.returned (.bool (!decide (k ≤ g))) = _; rw [decide_eq_false (show ¬ k ≤ g by omega)]; rfl, B⟩
    · rw [decide_eq_false ka, Bool.false_and] at KS1
      go_wp2_with fail
      ((with_reducible refine (KS1.out _ (D.alloc D.size _)).mono ?_))
      rintro e w2 ⟨rfl, hB⟩
      have X := (BX.new w1 29 (.bool false) (.bool false) (.slice a1 0 c1) (.slice a2 1 c2)).next hB
      replace B := (B.alloc B.size _).next hB
      replace D := (D.alloc D.size _).next hB
      clear hB
      (skip); have Xz := X.lt; have X0 := X.c0; have X1 := X.c1; have X2 := X.c2; have X3 := X.c3
      go_wp2_with fail
      ((with_reducible refine (KS2.out _ D).mono ?_))
      rintro e w3 ⟨rfl, hB⟩
      replace D := D.next hB
      replace B := B.next hB; replace X := X.next hB; clear hB Xz X0 X1 X2 X3; have Xz := X.lt; have X0 := X.c0; have X1 := X.c1; have X2 := X.c2; have X3 := X.c3
      go_wp2_with fail
      ((with_reducible refine (KS3.out _).mono ?_))
      rintro e w4 ⟨rfl, hB⟩
      replace D := D.next hB
      replace B := B.next hB; replace X := X.next hB; clear hB Xz X0 X1 X2 X3; have Xz := X.lt; have X0 := X.c0; have X1 := X.c1; have X2 := X.c2; have X3 := X.c3
      go_wp2_with fail
      ((with_reducible refine (KS4.out _ D).mono ?_))
      rintro e w5 ⟨rfl, hB⟩
      replace D := D.next hB
      replace B := B.next hB; replace X := X.next hB; clear hB Xz X0 X1 X2 X3; have Xz := X.lt; have X0 := X.c0; have X1 := X.c1; have X2 := X.c2; have X3 := X.c3
      go_wp2_with fail
      ((with_reducible refine (KA.out _ B).mono ?_))
      rintro e w6 ⟨rfl, hB⟩
      replace B := B.next hB
      go_wp2
      go_ret
      exact ⟨rfl, B⟩
end Go.Proofs.YtjiilcnbajcdhaaDoor
