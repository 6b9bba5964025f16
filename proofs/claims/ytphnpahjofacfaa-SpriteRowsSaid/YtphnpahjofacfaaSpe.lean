/-
  Package sprite's Find; lines are from 0 to 255, or it refuses. Over this seat's translation; no condition. (Written by gen_sp.py.)
-/
import Derived.Test.YtphnpahjofacfaaSpd
namespace Go.Proofs.Ytphnpahjofacfaa
open Go.RowKit Go.Sort
set_option linter.unusedSimpArgs false
set_option linter.unusedVariables false
set_option maxRecDepth 20000

theorem sp_tmp4 {fn : Func} {t u v x : Tmp} (h : fn.results = #[.tmp t, .tmp u, .tmp v, .tmp x]) (tmps : Array Value) (P : Program) (w : World) :
    (results fn tmps).run P w = .ok (.tuple #[tmps.getD t undef, tmps.getD u undef, tmps.getD v undef, tmps.getD x undef]) w := by
  simp [results, h]
/-- A row of numbers. -/
def icl (n : Nat) : List Value := [.int .i64 (n : Int)]
theorem icl_len (n : Nat) : (icl n).length = 1 := rfl
theorem icl_one (n : Nat) : ∀ u ∈ icl n, u.oneCell' = true := by
  intro u hu
  simp only [icl, List.mem_cons, List.not_mem_nil, or_false] at hu
  subst hu
  rfl
theorem info_s64 : (Try.prog.info? 3).map (fun i => (i.zero, i.size, i.bytes)) = some (some (.int .i64 0), 1, 8) := by kernel_rfl
theorem kI64 : ElemK Try.prog 28 3 1 where
  sl := Try.underlying28
  inf := by
    obtain ⟨i, hi, he⟩ := Option.map_eq_some_iff.1 info_s64
    simp only [Prod.mk.injEq] at he
    exact ⟨i, _, hi, he.1, he.2.1, rfl, by rw [he.2.2]; decide⟩
theorem build_s64 (x : Int) (w : World) : (Instr.buildSlice 28 1 #[(0, .int .i64 x)]).run Try.prog w = .ok (.slice (some ⟨w.heap.size, 0, none⟩) 1 1) (w.alloc (.cells #[.int .i64 x] 3)) := by kernel_rfl
def slN (v : Value) : Nat := match v with
  | .slice _ n _ => n
  | _ => 0
/-- What Find has found when one more, or none, was told. -/
def FoundI (A : List Nat) (l : List (Int × Bool)) (line : Int) (t : Bool) (R : List Nat) (i : Int) (m : Bool) (k : Nat) : Prop :=
  k ≤ 64 ∧ R.length ≤ 8 ∧ ((m = false ∧ A = R) ∨ (m = true ∧ ∃ n : Nat, i = (n : Int) ∧ A = R ++ n :: fromS l line t (64 - k) k))
theorem FoundI.start {l : List (Int × Bool)} {line : Int} {t : Bool} {i : Int} {m : Bool} {k' : Nat} (h : NextQ l line t 0 i m k') : FoundI (onL l line t) l line t [] i m k' := by
  obtain ⟨h1, h2⟩ := h
  refine ⟨h1, by simp, ?_⟩
  rcases h2 with ⟨h3, _, h4⟩ | ⟨h3, n, h4, _, h5⟩
  · exact .inl ⟨h3, h4⟩
  · exact .inr ⟨h3, n, h4, by rw [List.nil_append]; exact h5⟩
theorem FoundI.next {A R : List Nat} {l : List (Int × Bool)} {line : Int} {t : Bool} {n : Nat} {k : Nat} {i : Int} {m : Bool} {k' : Nat} (hR : R.length < 8) (h : A = R ++ n :: fromS l line t (64 - k) k) (hq : NextQ l line t k i m k') : FoundI A l line t (R ++ [n]) i m k' := by
  obtain ⟨h1, h2⟩ := hq
  refine ⟨h1, by simp; omega, ?_⟩
  rcases h2 with ⟨h3, _, h4⟩ | ⟨h3, n', h4, _, h5⟩
  · exact .inl ⟨h3, by rw [h, h4]⟩
  · exact .inr ⟨h3, n', h4, by rw [h, h5, List.append_assoc]; rfl⟩
theorem FoundI.end_ {A R : List Nat} {l : List (Int × Bool)} {line : Int} {t : Bool} {k : Nat} {i : Int} {m : Bool} (h : FoundI A l line t R i m k) (he : m = false ∨ R.length = 8) : R = A.take 8 ∧ m = decide (8 < A.length) := by
  obtain ⟨_, h2, h3⟩ := h
  rcases h3 with ⟨rfl, rfl⟩ | ⟨rfl, n, _, rfl⟩
  · exact ⟨(List.take_of_length_le h2).symm, by symm; exact decide_eq_false (by omega)⟩
  · have h8 : R.length = 8 := by
      rcases he with h | h
      · cases h
      · exact h
    exact ⟨by rw [← h8]; simp, by symm; rw [decide_eq_true_iff]; simp; omega⟩
/-- What Find answers. -/
def FindP (l : List (Int × Bool)) (line : Int) (t : Bool) (w : World) (e : Ending) (w' : World) : Prop :=
  ∃ v blk, e = .returned (.tuple #[v, .bool (decide (8 < (onL l line t).length)), .bool (secY l), .int .i64 0]) ∧ RowAt icl 1 v ((onL l line t).take 8) blk ∧ Mem w.heap.size [] w w' blk
attribute [local irreducible] wpList
set_option maxHeartbeats 2000000 in
theorem sfind_no1 (a : Option Addr) (n cap : Nat) (line : Int) (t : Bool) (hn : n ≠ 256) (w : World) : Calls Try.prog 9 #[.slice a n cap, .int .i64 line, .bool t] w fun e w' => e = .returned (.tuple #[.slice none 0 0, .bool false, .bool false, .int .i64 1]) ∧ Below w.heap.size w w' := by
  have Q1 := isall_ct a n cap
  rw [decide_eq_false hn] at Q1
  have H := Mem.start w
  go_enter Try.func9, Try.ntmps9
  go_wp2_with (first | (go_at_call 22; (with_reducible refine (Q1 _).mono ?_); rintro e w2 ⟨rfl, hB⟩; replace H := H.next hB; clear hB) | fail)
  (try simp only [Exit.inBlock, Exit.then]); refine bodyPost_ret (sp_tmp4 rfl _ _ _) rfl ?_
  exact ⟨rfl, H.toBelow⟩
set_option maxHeartbeats 2000000 in
theorem sfind_no2 (a : Option Addr) (cap : Nat) (line : Int) (t : Bool) (hn : lineB line = false) (w : World) : Calls Try.prog 9 #[.slice a 256 cap, .int .i64 line, .bool t] w fun e w' => e = .returned (.tuple #[.slice none 0 0, .bool false, .bool false, .int .i64 1]) ∧ Below w.heap.size w w' := by
  have Q1 := isall_ct a 256 cap
  have Q2 := isline_ct line
  rw [decide_eq_true rfl] at Q1
  rw [hn] at Q2
  have H := Mem.start w
  go_enter Try.func9, Try.ntmps9
  go_wp2_with (first | (go_at_call 22; (with_reducible refine (Q1 _).mono ?_); rintro e w2 ⟨rfl, hB⟩; replace H := H.next hB; clear hB) | (go_at_call 23; (with_reducible refine (Q2 _).mono ?_); rintro e w2 ⟨rfl, hB⟩; replace H := H.next hB; clear hB) | fail)
  (try simp only [Exit.inBlock, Exit.then]); refine bodyPost_ret (sp_tmp4 rfl _ _ _) rfl ?_
  exact ⟨rfl, H.toBelow⟩
set_option maxHeartbeats 8000000 in
theorem sfind_ct (b off cap : Nat) (line : Int) (t : Bool) (l : List (Int × Bool)) (w : World) (hL : Ls w b off l) (hl : l.length = 256) (hb : bytS l) (hc : 256 ≤ cap) (hm : cap ≤ maxLen) (l0 : 0 ≤ line) (l1 : line < 256) :
    Calls Try.prog 9 #[.slice (some ⟨b, off, none⟩) 256 cap, .int .i64 line, .bool t] w (FindP l line t w) := by
  have Q1 := isall_ct (some ⟨b, off, none⟩) 256 cap
  have Q2 := isline_ct line
  rw [decide_eq_true rfl] at Q1
  rw [show lineB line = true by simp [lineB, l0, l1]] at Q2
  have QO := Lib.hid (fun wr => online_ct (some ⟨b, off, none⟩) 256 cap line t wr)
  have QY := Lib.hid (fun wr h => anysec_ct b off cap l wr h hl hc hm)
  have HL := Lib.hid hL
  have QN : Hid (∀ (Bn Bt Bi Bl k : Nat) (wr : World) (blk : List (Nat × Array Value)), Mem w.heap.size [] w wr ((Bn, #[.int .i64 (k : Int)]) :: (Bt, #[.bool t]) :: (Bi, #[.int .i64 line]) :: (Bl, #[.slice (some ⟨b, off, none⟩) 256 cap]) :: blk) → k ≤ 64 →
      Calls Try.prog 35 #[.pointer (some ⟨Bn, 0, none⟩), .pointer (some ⟨Bl, 0, none⟩), .pointer (some ⟨Bi, 0, none⟩), .pointer (some ⟨Bt, 0, none⟩)] wr (NextP l line t Bn k wr)) := by
    intro Bn Bt Bi Bl k wr blk H hk
    obtain ⟨T, hT⟩ := H.get (i := 0) rfl
    have hnd := H.nodup
    simp only [List.map_cons, List.nodup_cons, List.mem_cons, not_or] at hnd
    have hmn := H.mine (Bn, #[.int .i64 (k : Int)]) (by simp)
    have hb0 : b < w.heap.size := hL.lt
    refine online_next Bn Bl Bi Bt b off cap k line t l wr T (hL.mem H hb0 (by simp)) hl hb hc hm l0 l1 hk hT (H.cell (i := 3) (j := 0) rfl rfl) (H.cell (i := 2) (j := 0) rfl rfl) (H.cell (i := 1) (j := 0) rfl rfl) (H.lt (List.mem_of_getElem? (i := 3) rfl)) (H.lt (List.mem_of_getElem? (i := 2) rfl)) (H.lt (List.mem_of_getElem? (i := 1) rfl)) ?_ (fun e => hnd.1.2.2.1 e.symm) (fun e => hnd.1.2.1 e.symm) (fun e => hnd.1.1 e.symm)
    rcases hmn with h | h
    · simp at h; omega
    · simp at h
  clear hL hb hm
  have H := Mem.start w
  have M1 : True := trivial
  have M2 : True := trivial
  go_enter Try.func9, Try.ntmps9
  go_wp2_with (first | (go_at_call 22; (with_reducible refine (Q1 _).mono ?_); rintro e w2 ⟨rfl, hB⟩; replace H := H.next hB; clear hB) | (go_at_call 23; (with_reducible refine (Q2 _).mono ?_); rintro e w2 ⟨rfl, hB⟩; replace H := H.next hB; clear hB) | (go_at_call 24; (with_reducible refine (QO.out _).mono ?_); rintro e w2 ⟨Bn, Bt, Bi, Bl, rfl, hM⟩; replace H := H.join hM; rw [List.append_nil] at H; clear hM) | (go_at_call 35; (with_reducible refine (QN.out _ _ _ _ 0 _ _ H (by decide)).mono ?_); rintro e w2 ⟨i2, m2, k2, rfl, hM, hq⟩; replace H := H.call (i := 0) rfl hM; simp only [List.set_cons_zero, List.set_cons_succ] at H; clear hM; have HQ := Lib.hid hq; clear hq) | fail)
  go_loopw [10, 12, 13] (fun f ii mm wr => ∃ (k : Nat) (R : List Nat) (i : Int) (m : Bool) (blk : List (Nat × Array Value)), RowAt icl 1 f R blk ∧ ii = .int .i64 i ∧ mm = .bool m ∧ Hid (FoundI (onL l line t) l line t R i m k) ∧
      Mem w.heap.size [] w wr ((Bn, #[.int .i64 (k : Int)]) :: (Bt, #[.bool t]) :: (Bi, #[.int .i64 line]) :: (Bl, #[.slice (some ⟨b, off, none⟩) 256 cap]) :: blk)) (fun f _ _ _ => 8 - slN f)
  case atStart => exact ⟨_, [], _, _, [], RowAt.nil, rfl, rfl, FoundI.start HQ.out, H⟩
  case round =>
    clear H HQ
    obtain ⟨k, R, i, m, blk, hA, rfl, rfl, hI, H⟩ := hrel
    have hk := hI.out.1
    have hR8 := hI.out.2.1
    obtain ⟨ba, bc, rfl, hbc⟩ := hA.shape
    have HA := Lib.hid hA
    clear hA
    cases m
    · obtain ⟨e1, e2⟩ := hI.out.end_ (.inl rfl)
      have E1 := Lib.hid e1
      have E2 := Lib.hid e2
      have HLw := Lib.hid (HL.out.mem H HL.out.lt (by simp))
      clear hI e1 e2
      go_wp2_with (first | (go_at_call 25; (with_reducible refine (QY.out _ HLw.out).mono ?_); rintro e w2 ⟨rfl, hB⟩; replace H := H.next hB; clear hB) | fail)
      (try simp only [Exit.inBlock, Exit.then]); refine bodyPost_ret (sp_tmp4 rfl _ _ _) rfl ?_
      exact ⟨_, blk, by rw [← E2.out]; rfl, by rw [← E1.out]; exact HA.out, H.sub (List.Sublist.cons _ (List.Sublist.cons _ (List.Sublist.cons _ (List.Sublist.cons _ (List.Sublist.refl _)))))⟩
    · by_cases h8 : R.length < 8
      · obtain ⟨n, hin, hAn⟩ : ∃ n : Nat, i = (n : Int) ∧ onL l line t = R ++ n :: fromS l line t (64 - k) k := by
          rcases hI.out.2.2 with ⟨h, _⟩ | ⟨_, h⟩
          · cases h
          · exact h
        subst hin
        have HN := Lib.hid hAn
        clear hI hAn
        go_wp2_with (first | (clear M1; refine wpList_mrow rfl _ _ _ rfl H _ (by simp only [List.map_toArray, List.map_cons, List.map_nil, Act.eval]; rfl) _ _ (build_s64 n) ?_; clear H; intro R1 w1 H) | (clear M2; refine wpList_mappG rfl _ _ rfl kI64 icl_len icl_one HA.out [n] 1 rfl (by decide) (by omega) _ (H.perm (List.Perm.cons _ (List.perm_append_comm (l₁ := [_, _, _, _])))) rfl rfl rfl ?_; clear H HA; intro v' blk' w1 hA H; replace H := H.perm List.perm_append_comm; simp only [List.cons_append, List.nil_append] at H; obtain ⟨ba2, bc2, rfl, hbc2⟩ := hA.shape; have HA := Lib.hid hA; clear hA) | (go_at_call 35; (with_reducible refine (QN.out _ _ _ _ k _ _ H hk).mono ?_); rintro e w2 ⟨i2, m2, k2, rfl, hM, hq⟩; replace H := H.call (i := 0) rfl hM; simp only [List.set_cons_zero, List.set_cons_succ] at H; clear hM; have HQ := Lib.hid hq; clear hq) | fail)
        go_roundw
        case rel => exact ⟨_, R ++ [n], _, _, blk', by have h := HA.out; rw [List.length_append] at h; exact h, rfl, rfl, FoundI.next h8 HN.out HQ.out, H⟩
        case measure => simp [slN]; omega
      · obtain ⟨e1, e2⟩ := hI.out.end_ (.inr (by omega))
        have E1 := Lib.hid e1
        have E2 := Lib.hid e2
        have HLw := Lib.hid (HL.out.mem H HL.out.lt (by simp))
        clear hI e1 e2
        go_wp2_with (first | (go_at_call 25; (with_reducible refine (QY.out _ HLw.out).mono ?_); rintro e w2 ⟨rfl, hB⟩; replace H := H.next hB; clear hB) | fail)
        (try simp only [Exit.inBlock, Exit.then]); refine bodyPost_ret (sp_tmp4 rfl _ _ _) rfl ?_
        exact ⟨_, blk, by rw [← E2.out]; rfl, by rw [← E1.out]; exact HA.out, H.sub (List.Sublist.cons _ (List.Sublist.cons _ (List.Sublist.cons _ (List.Sublist.cons _ (List.Sublist.refl _)))))⟩
end Go.Proofs.Ytphnpahjofacfaa
