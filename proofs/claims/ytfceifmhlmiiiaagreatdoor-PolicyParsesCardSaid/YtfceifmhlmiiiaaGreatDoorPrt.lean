/-
  Package policy's Print: a policy's text, or why it has none. Over this seat's translation, where the variables hold what their texts lay; of at most 1000 ranges each.
-/
import Derived.Test.YtfceifmhlmiiiaaGreatDoorPck
import Derived.Test.YtfceifmhlmiiiaaGreatDoorGlb
import Derived.Test.YtfceifmhlmiiiaaGreatDoorBld
import Derived.Test.YtfceifmhlmiiiaaGreatDoorTal
namespace Go.Proofs.YtfceifmhlmiiiaaGreatDoor
open Go.RowKit Go.Shelf

def fourB (n : Int) : List UInt8 := (strOfNums (fourI n.toNat)).data.toList
def lineP (word : List UInt8) (r : Int × Int) : List UInt8 := word ++ fourB r.1 ++ [45] ++ fourB r.2 ++ [10]
def linesP (word : List UInt8) (l : List (Int × Int)) : List UInt8 := (l.map (lineP word)).flatten
def ports1P (p : Bool) : List UInt8 := if p then port1W ++ [10] else []
def ports2P (q : Bool) : List UInt8 := if q then port2W ++ [10] else []
def printL (p q : Bool) (ra sa : List (Int × Int)) : List UInt8 := ((ports1P p ++ ports2P q) ++ linesP ramW ra) ++ linesP saveW sa
theorem linesP_take (word : List UInt8) (l : List (Int × Int)) (k : Nat) (h : k < l.length) : linesP word (l.take (k + 1)) = linesP word (l.take k) ++ lineP word (nthR l k) := by
  unfold linesP
  rw [take_snoc' l k (0, 0) h, List.map_append, List.flatten_append]
  simp [nthR]
theorem fourB_length (n : Int) : (fourB n).length = 4 := by simp [fourB, strOfNums, fourI]
theorem lineP_length (word : List UInt8) (r : Int × Int) : (lineP word r).length = word.length + 10 := by simp [lineP, fourB_length]
theorem linesP_length (word : List UInt8) : ∀ (l : List (Int × Int)), (linesP word l).length = l.length * (word.length + 10)
  | [] => by simp [linesP]
  | r :: l => by
    have ih := linesP_length word l
    unfold linesP at ih ⊢
    rw [List.map_cons, List.flatten_cons, List.length_append, ih, lineP_length, List.length_cons, Nat.succ_mul]
    omega
set_option maxRecDepth 100000 in
set_option maxHeartbeats 1000000 in
theorem print_no (p q : Bool) (sv tv : Value) (ra sa : List (Int × Int)) (w : World) (hr : Rg w sv ra) (hs : Rg w tv sa) (hm : polMay ra sa = false) :
    Calls Tryz.prog 15 #[polV p q sv tv] w fun e w' => e = .returned (.tuple #[.string ⟨#[]⟩, .int .i64 1]) ∧ Below w.heap.size w w' := by
  have hr' := fun o => hr.below (w' := w.alloc o) (by repeat' (first | exact Below.refl _ _ | (refine Below.setCell ?_ (by first | (simp; done) | (simp; omega) | omega) _) | (refine Below.drew ?_) | (refine Below.drewN ?_ _) | (refine Below.alloc ?_ (by first | (simp; done) | (simp; omega) | omega) _)))
  have hs' := fun o => hs.below (w' := w.alloc o) (by repeat' (first | exact Below.refl _ _ | (refine Below.setCell ?_ (by first | (simp; done) | (simp; omega) | omega) _) | (refine Below.drew ?_) | (refine Below.drewN ?_ _) | (refine Below.alloc ?_ (by first | (simp; done) | (simp; omega) | omega) _)))
  have hc := fun o => pcheck_ct p q sv tv ra sa (w.alloc o) (hr' o) (hs' o)
  obtain ⟨a1, c1, rfl, _⟩ := hr
  obtain ⟨a2, c2, rfl, _⟩ := hs
  rw [hm] at hc
  unfold polV at hc ⊢
  have Hc := Lib.hid hc
  clear hc hr' hs' hm
  go_enter Tryz.func15, Tryz.ntmps15
  go_wp2_with fail
  refine (Hc.out _).mono ?_
  rintro e w1 ⟨rfl, hB⟩
  go_wp2
  go_ret2
  exact ⟨rfl, (by repeat' (first | exact Below.refl _ _ | (refine Below.setCell ?_ (by first | (simp; done) | (simp; omega) | omega) _) | (refine Below.drew ?_) | (refine Below.drewN ?_ _) | (refine Below.alloc ?_ (by first | (simp; done) | (simp; omega) | omega) _) | (refine Below.trans ?_ (Below.mono hB (by first | (simp; done) | (simp; omega) | omega)))))⟩
def PortR (W : World) (b : Nat) (p q : Bool) (i : Value) (wr : World) : Prop :=
  (i = .int .i64 0 ∧ Lib.IsBuilder 77 5 b b (Lib.byteCells []) wr ∧ Below b W wr) ∨
  (i = .int .i64 1 ∧ Lib.IsBuilder 77 5 b b (Lib.byteCells (ports1P p)) wr ∧ Below b W wr) ∨
  (i = .int .i64 2 ∧ Lib.IsBuilder 77 5 b b (Lib.byteCells (ports1P p ++ ports2P q)) wr ∧ Below b W wr)
theorem bld_snoc (t : List UInt8) (s : ByteArray) : Lib.byteCells t ++ Lib.strCells s = Lib.byteCells (t ++ s.data.toList) := by rw [Lib.byteCells_append]; rfl
def AreaR (W : World) (b : Nat) (t0 t1 t2 : List UInt8) (i : Value) (wr : World) : Prop :=
  (i = .int .i64 0 ∧ Lib.IsBuilder 77 5 b b (Lib.byteCells t0) wr ∧ Below b W wr) ∨
  (i = .int .i64 1 ∧ Lib.IsBuilder 77 5 b b (Lib.byteCells t1) wr ∧ Below b W wr) ∨
  (i = .int .i64 2 ∧ Lib.IsBuilder 77 5 b b (Lib.byteCells t2) wr ∧ Below b W wr)
theorem t1_few0 (p q : Bool) : (ports1P p ++ ports2P q).length ≤ 100 := by cases p <;> cases q <;> decide
theorem line_str (W : ByteArray) (x y : Nat) : (W ++ strOfNums (fourI x) ++ ⟨#[45]⟩ ++ strOfNums (fourI y) ++ ⟨#[10]⟩).data.toList = lineP W.data.toList ((x : Int), (y : Int)) := by
  simp [lineP, fourB, ByteArray.data_append]
theorem line_size (W : ByteArray) (x y : Nat) : (W ++ strOfNums (fourI x) ++ ⟨#[45]⟩ ++ strOfNums (fourI y) ++ ⟨#[10]⟩).size = W.size + 10 := by
  simp only [ByteArray.size_append, strOfNums_size]
  show W.size + 4 + 1 + 4 + 1 = _
  omega
theorem linesP_few (word : List UInt8) (l : List (Int × Int)) (hw : word.length ≤ 5) (hl : l.length ≤ 1000) : (linesP word l).length ≤ 15000 := by
  rw [linesP_length]
  exact Nat.le_trans (Nat.mul_le_mul hl (show word.length + 10 ≤ 15 by omega)) (by omega)
theorem bld_below {b : Nat} {bs : List Value} {w w' : World} (h : Lib.IsBuilder 77 5 b b bs w) (hb : Below w.heap.size w w') : Lib.IsBuilder 77 5 b b bs w' := by
  have one : ∀ p, Lib.BuilderAt 77 5 b b p bs w → Lib.BuilderAt 77 5 b b p bs w' := fun p h => by
    have hl := h.lt
    obtain ⟨h1, v, h2, h3, h4⟩ := h
    refine ⟨h1, v, (hb.block b hl).trans h2, h3.kept (row := none) ⟨hb.os, hb.tape, hb.output, hb.size, fun k hk _ => hb.block k hk⟩ ?_, h4⟩
    cases h' : v.ownBlock <;> simp
  exact h.elim (fun x => .inl (one _ x)) (fun x => .inr (one _ x))
theorem area_facts {n : Int} {l : List (Int × Int)} (h : areaMay n l = true) (k : Nat) (hk : k < l.length) : ∃ a b : Nat, nthR l k = ((a : Int), (b : Int)) ∧ a < 65536 ∧ b < 65536 := by
  unfold areaMay at h
  simp only [Bool.and_eq_true] at h
  have hm := (mayB_iff l 0).1 h.1
  have hmem : nthR l k ∈ l := mem_getD l k (0, 0) hk
  have h1 := hm.2 _ hmem
  have h2 := rise_mem l hm.1 _ hmem
  exact ⟨(nthR l k).1.toNat, (nthR l k).2.toNat, Prod.ext (by show _ = ((_ : Nat) : Int); omega) (by show _ = ((_ : Nat) : Int); omega), by omega, by omega⟩
theorem t1_few (p q : Bool) (ra : List (Int × Int)) (h : ra.length ≤ 1000) : ((ports1P p ++ ports2P q) ++ linesP ramW ra).length ≤ 20000 := by
  have h1 := linesP_few ramW ra (by decide) h
  have h0 := t1_few0 p q
  rw [List.length_append]
  omega
theorem bld_lt {b : Nat} {bs : List Value} {w : World} (h : Lib.IsBuilder 77 5 b b bs w) : b < w.heap.size := by
  rcases h with h | h <;> exact h.lt
set_option maxRecDepth 100000 in
set_option maxHeartbeats 8000000 in
theorem print_yes (p q : Bool) (sv tv : Value) (ra sa : List (Int × Int)) (w : World) (G : Glob w) (hr : Rg w sv ra) (hs : Rg w tv sa) (hm : polMay ra sa = true) (h1 : ra.length ≤ 1000) (h2 : sa.length ≤ 1000) :
    Calls Tryz.prog 15 #[polV p q sv tv] w fun e w' => e = .returned (.tuple #[.string ⟨(printL p q ra sa).toArray⟩, .int .i64 0]) ∧ Below w.heap.size w w' := by
  have Gb : Hid (∀ w', Below w.heap.size w w' → Glob w') := fun _ hb => G.below hb
  clear G
  have hr' := fun o => hr.below (w' := w.alloc o) (by repeat' (first | exact Below.refl _ _ | (refine Below.setCell ?_ (by first | (simp; done) | (simp; omega) | omega) _) | (refine Below.drew ?_) | (refine Below.drewN ?_ _) | (refine Below.alloc ?_ (by first | (simp; done) | (simp; omega) | omega) _)))
  have hs' := fun o => hs.below (w' := w.alloc o) (by repeat' (first | exact Below.refl _ _ | (refine Below.setCell ?_ (by first | (simp; done) | (simp; omega) | omega) _) | (refine Below.drew ?_) | (refine Below.drewN ?_ _) | (refine Below.alloc ?_ (by first | (simp; done) | (simp; omega) | omega) _)))
  have hc := fun o => pcheck_ct p q sv tv ra sa (w.alloc o) (hr' o) (hs' o)
  have Hr := Lib.hid hr
  have Hs := Lib.hid hs
  obtain ⟨a1, c1, rfl, _⟩ := hr
  obtain ⟨a2, c2, rfl, _⟩ := hs
  rw [hm, show okE true = 0 from rfl] at hc
  unfold polV at hc ⊢
  have Hc := Lib.hid hc
  have Hm := Lib.hid hm
  clear hc hr' hs' hm
  go_enter Tryz.func15, Tryz.ntmps15
  go_wp2_with fail
  refine (Hc.out _).mono ?_
  rintro e w1 ⟨rfl, hB⟩
  obtain ⟨hc1, hf1⟩ := bcell hB
  simp at hc1 hf1
  have hz1 : w.heap.size < w1.heap.size := by have := hB.size; simp at this; omega
  have HB1 : Hid (Below w.heap.size w w1) := (by repeat' (first | exact Below.refl _ _ | (refine Below.setCell ?_ (by first | (simp; done) | (simp; omega) | omega) _) | (refine Below.drew ?_) | (refine Below.drewN ?_ _) | (refine Below.alloc ?_ (by first | (simp; done) | (simp; omega) | omega) _) | (refine Below.trans ?_ (Below.mono hB (by first | (simp; done) | (simp; omega) | omega)))))
  have hp1 := (Gb.out _ HB1.out).port1
  have hp2 := (Gb.out _ HB1.out).port2
  have hpl := (Gb.out _ HB1.out).portL
  have cb0 : w1.cell? ⟨w.heap.size, 0, none⟩ = some (.bool p) := by rw [hc1 _ _ (by omega)]; simp [go_sem]
  have cb1 : w1.cell? ⟨w.heap.size, 1, none⟩ = some (.bool q) := by rw [hc1 _ _ (by omega)]; simp [go_sem]
  have cb2 : w1.cell? ⟨w.heap.size, 2, none⟩ = some (.slice a1 ra.length c1) := by rw [hc1 _ _ (by omega)]; simp [go_sem]
  have cb3 : w1.cell? ⟨w.heap.size, 3, none⟩ = some (.slice a2 sa.length c2) := by rw [hc1 _ _ (by omega)]; simp [go_sem]
  clear hB hc1 hf1
  have hI := Lib.fresh_isBuilder 77 5 w1
  have HB2 : Hid (Below w1.heap.size w1 (w1.alloc (.cells #[.pointer none, .slice none 0 0] 77))) := (by repeat' (first | exact Below.refl _ _ | (refine Below.setCell ?_ (by first | (simp; done) | (simp; omega) | omega) _) | (refine Below.drew ?_) | (refine Below.drewN ?_ _) | (refine Below.alloc ?_ (by first | (simp; done) | (simp; omega) | omega) _)))
  have HI := Lib.hid hI
  clear hI
  go_wp2
  obtain ⟨b, hb⟩ : ∃ b, b = w1.heap.size := ⟨_, rfl⟩
  rw [← hb]
  have HI' : Hid (Lib.IsBuilder 77 5 b b [] (w1.alloc (.cells #[.pointer none, .slice none 0 0] 77))) := by rw [hb]; exact HI.out
  have HB2' : Hid (Below b w1 (w1.alloc (.cells #[.pointer none, .slice none 0 0] 77))) := by rw [hb]; exact HB2.out
  clear HI HB2
  have hbw : w.heap.size < b := by omega
  have hb1 : b ≤ w1.heap.size := by omega
  have hpb : 0 < b := by omega
  have Hbeq := Lib.hid hb
  clear hb
  have cb0' : Hid (∀ wr, Below b w1 wr → wr.cell? ⟨w.heap.size, 0, none⟩ = some (.bool p)) := fun wr h => (h.cell (p := ⟨w.heap.size, 0, none⟩) hbw).trans cb0
  have cb1' : Hid (∀ wr, Below b w1 wr → wr.cell? ⟨w.heap.size, 1, none⟩ = some (.bool q)) := fun wr h => (h.cell (p := ⟨w.heap.size, 1, none⟩) hbw).trans cb1
  have cb2' : Hid (∀ wr, Below b w1 wr → wr.cell? ⟨w.heap.size, 2, none⟩ = some (.slice a1 ra.length c1)) := fun wr h => (h.cell (p := ⟨w.heap.size, 2, none⟩) hbw).trans cb2
  have cb3' : Hid (∀ wr, Below b w1 wr → wr.cell? ⟨w.heap.size, 3, none⟩ = some (.slice a2 sa.length c2)) := fun wr h => (h.cell (p := ⟨w.heap.size, 3, none⟩) hbw).trans cb3
  clear cb0 cb1 cb2 cb3 hp1 hp2
  go_loopw [18] (fun i wr => PortR w1 b p q i wr) (fun i _ => 2 - (intOf i).toNat)
  case atStart => exact .inl ⟨rfl, HI'.out, HB2'.out⟩
  case round =>
    clear HI' HB2'
    have ix0 : ∀ w, (Instr.index 40 (.agg #[.string port1B, .string port2B]) (.int .i64 0)).run Tryz.prog w = .ok (.string port1B) w := fun _ => by kernel_rfl
    have ix1 : ∀ w, (Instr.index 40 (.agg #[.string port1B, .string port2B]) (.int .i64 1)).run Tryz.prog w = .ok (.string port2B) w := fun _ => by kernel_rfl
    have sz1 : port1B.size = 6 := rfl
    have sz2 : port2B.size = 6 := rfl
    rcases hrel with ⟨rfl, hI, hB⟩ | ⟨rfl, hI, hB⟩ | ⟨rfl, hI, hB⟩
    · have c0 := cb0'.out wr hB
      have hz := bld_lt hI
      cases p
      · have HI := Lib.hid hI
        clear hI
        go_wp2
        go_roundw
        case rel => exact .inr (.inl ⟨rfl, HI.out, hB⟩)
        case measure => simp [intOf]
      · go_wp2_with fail
        refine (write_ct b b _ _ wr hI (by simp [Lib.byteCells, ByteArray.size_append, sz1]; decide) (by omega)).mono ?_
        rintro e w2 ⟨rfl, hI2, hB2, _⟩
        have HI2 := Lib.hid hI2
        clear hI hI2
        go_wp2
        go_roundw
        case rel => exact .inr (.inl ⟨rfl, HI2.out, hB.trans hB2⟩)
        case measure => simp [intOf]
    · have c0 := cb1'.out wr hB
      have hz := bld_lt hI
      cases q
      · have HI := Lib.hid hI
        clear hI
        go_wp2
        go_roundw
        case rel => exact .inr (.inr ⟨rfl, by rw [show ports2P false = [] from rfl, List.append_nil]; exact HI.out, hB⟩)
        case measure => simp [intOf]
      · go_wp2_with fail
        refine (write_ct b b _ _ wr hI (by cases p <;> (simp [Lib.byteCells, ByteArray.size_append, sz2, ports1P]; decide)) (by omega)).mono ?_
        rintro e w2 ⟨rfl, hI2, hB2, _⟩
        have HI2 := Lib.hid hI2
        clear hI hI2
        go_wp2
        go_roundw
        case rel => exact .inr (.inr ⟨rfl, by rw [← show Lib.byteCells (ports1P p) ++ Lib.strCells (port2B ++ ⟨#[10]⟩) = Lib.byteCells (ports1P p ++ ports2P true) from bld_snoc _ _]; exact HI2.out, hB.trans hB2⟩)
        case measure => simp [intOf]
    · have c0 := cb0'.out wr hB
      have c1' := cb1'.out wr hB
      have c2' := cb2'.out wr hB
      have c3' := cb3'.out wr hB
      have hz := bld_lt hI
      have HI := Lib.hid hI
      clear hI ix0 ix1 sz1 sz2
      go_wp2_with fail
      refine (areas_ct _ _ _ _ _ _ _ _ _).mono ?_
      rintro e w2 ⟨rfl, hB2⟩
      have hI2 := bld_below HI.out hB2
      have hBw2 := hB.trans (hB2.mono (Nat.le_of_lt hz))
      have HI2 := Lib.hid hI2
      clear hI2 HI hB hB2
      go_wp2
      have ia0 : ∀ w, (Instr.index 36 (.agg #[.string ⟨#[114, 97, 109, 32]⟩, .int .i64 2048, .slice a1 ra.length c1, .string ⟨#[115, 97, 118, 101, 32]⟩, .int .i64 8192, .slice a2 sa.length c2]) (.int .i64 0)).run Tryz.prog w = .ok (.agg #[.string ⟨#[114, 97, 109, 32]⟩, .int .i64 2048, .slice a1 ra.length c1]) w := fun _ => by kernel_rfl
      have ia1 : ∀ w, (Instr.index 36 (.agg #[.string ⟨#[114, 97, 109, 32]⟩, .int .i64 2048, .slice a1 ra.length c1, .string ⟨#[115, 97, 118, 101, 32]⟩, .int .i64 8192, .slice a2 sa.length c2]) (.int .i64 1)).run Tryz.prog w = .ok (.agg #[.string ⟨#[115, 97, 118, 101, 32]⟩, .int .i64 8192, .slice a2 sa.length c2]) w := fun _ => by kernel_rfl
      have hmr : areaMay 2048 ra = true := by have := Hm.out; unfold polMay at this; simp only [Bool.and_eq_true] at this; exact this.1
      have hms : areaMay 8192 sa = true := by have := Hm.out; unfold polMay at this; simp only [Bool.and_eq_true] at this; exact this.2
      have Hmr := Lib.hid hmr
      have Hms := Lib.hid hms
      clear hmr hms
      go_loopw [32] (fun i wi => AreaR w1 b (ports1P p ++ ports2P q) ((ports1P p ++ ports2P q) ++ linesP ramW ra) (printL p q ra sa) i wi) (fun i _ => 2 - (intOf i).toNat)
      case atStart => exact .inl ⟨rfl, HI2.out, hBw2⟩
      case round =>
        clear HI2 hBw2
        rcases hrel with ⟨rfl, hI, hB⟩ | ⟨rfl, hI, hB⟩ | ⟨rfl, hI, hB⟩
        · have hz := bld_lt hI
          have hA1 : (wr.alloc (.cells #[.string ⟨#[114, 97, 109, 32]⟩, .int .i64 2048, .slice a1 ra.length c1] 35)).heap[wr.heap.size]? = some (.cells #[.string ⟨#[114, 97, 109, 32]⟩, .int .i64 2048, .slice a1 ra.length c1] 35 (0, 0)) := World.alloc_heap_new wr _
          have hI1 := bld_below hI (w' := wr.alloc (.cells #[.string ⟨#[114, 97, 109, 32]⟩, .int .i64 2048, .slice a1 ra.length c1] 35)) (by repeat' (first | exact Below.refl _ _ | (refine Below.setCell ?_ (by first | (simp; done) | (simp; omega) | omega) _) | (refine Below.drew ?_) | (refine Below.drewN ?_ _) | (refine Below.alloc ?_ (by first | (simp; done) | (simp; omega) | omega) _)))
          have hB1 : Below b w1 (wr.alloc (.cells #[.string ⟨#[114, 97, 109, 32]⟩, .int .i64 2048, .slice a1 ra.length c1] 35)) := hB.alloc (by omega) _
          have HA1 := Lib.hid hA1
          have HI1 := Lib.hid hI1
          have HBb1 := Lib.hid hB1
          clear hA1 hI1 hB1 hI
          go_wp2
          obtain ⟨A, hA⟩ : ∃ A, A = wr.heap.size := ⟨_, rfl⟩
          rw [← hA] at HA1 ⊢
          have hbA : b < A := by omega
          clear hA
          obtain ⟨t, ht⟩ : ∃ t, t = (ports1P p ++ ports2P q) := ⟨_, rfl⟩
          rw [← ht] at HI1
          have Ht := Lib.hid ht
          clear ht
          obtain ⟨wo, hwo⟩ : ∃ wo, wo = wr.alloc (.cells #[.string ⟨#[114, 97, 109, 32]⟩, .int .i64 2048, .slice a1 ra.length c1] 35) := ⟨_, rfl⟩
          rw [← hwo] at HA1 HI1 HBb1 ⊢
          clear hwo
          have Htl : Hid (t.length ≤ 20000) := by rw [Hid, Ht.out]; cases p <;> cases q <;> decide
          go_loopw [38] (fun i wi => ∃ k : Nat, k ≤ ra.length ∧ i = .int .i64 k ∧ Lib.IsBuilder 77 5 b b (Lib.byteCells (t ++ linesP ramW (ra.take k))) wi ∧ Hid (wi.heap[A]? = some (.cells #[.string ⟨#[114, 97, 109, 32]⟩, .int .i64 2048, .slice a1 ra.length c1] 35 (0, 0))) ∧ Below b w1 wi) (fun i _ => ra.length - (intOf i).toNat)
          case atStart => exact ⟨0, Nat.zero_le _, rfl, by simpa [linesP] using HI1.out, HA1, HBb1.out⟩
          case round =>
            clear HI1 HA1 HBb1
            obtain ⟨k, hk, rfl, hI, hA1, hB1⟩ := hrel
            have hz := bld_lt hI
            by_cases hlt : k < ra.length
            · obtain ⟨x, y, hxy, hx, hy⟩ := area_facts Hmr.out k hlt
              obtain ⟨sb, off, rfl, hbs, hc⟩ : ∃ sb off, a1 = some ⟨sb, off, none⟩ ∧ sb < w.heap.size ∧ ∀ k, k < ra.length → w.cell? ⟨sb, off + k * 2, none⟩ = some (.int .i64 (nthR ra k).1) ∧ w.cell? ⟨sb, off + k * 2 + 1, none⟩ = some (.int .i64 (nthR ra k).2) := by
                obtain ⟨a', c', hv, _, _, hr3⟩ := Hr.out
                injection hv with hv1 _ _
                rcases hr3 with rfl | ⟨sb, off, ha, hbs, hc⟩
                · exact absurd hlt (by simp)
                · exact ⟨sb, off, hv1.trans ha, hbs, hc⟩
              obtain ⟨g1, g2⟩ := hc k hlt
              rw [hxy] at g1 g2
              dsimp only at g1 g2
              have g1' : wr.cell? ⟨sb, off + k * 2, none⟩ = some (.int .i64 (x : Int)) := (hB1.cell (p := ⟨sb, off + k * 2, none⟩) (show sb < b by omega)).trans ((HB1.out.cell (p := ⟨sb, off + k * 2, none⟩) hbs).trans g1)
              have g2' : wr.cell? ⟨sb, off + k * 2 + 1, none⟩ = some (.int .i64 (y : Int)) := (hB1.cell (p := ⟨sb, off + k * 2 + 1, none⟩) (show sb < b by omega)).trans ((HB1.out.cell (p := ⟨sb, off + k * 2 + 1, none⟩) hbs).trans g2)
              have Hl : Hid (linesP ramW (ra.take (k + 1)) = linesP ramW (ra.take k) ++ lineP ramW ((x : Int), (y : Int))) := by rw [Hid, linesP_take _ _ _ hlt, hxy]
              clear g1 g2 hc hxy
              obtain ⟨wq, hwq⟩ : ∃ wq, wq = wr.alloc (.cells #[.int .i64 (x : Int), .int .i64 (y : Int)] 42) := ⟨_, rfl⟩
              have q1 : wq.cell? ⟨wr.heap.size, 0, none⟩ = some (.int .i64 (x : Int)) := by rw [hwq]; simp [go_sem]
              have q2 : wq.cell? ⟨wr.heap.size, 1, none⟩ = some (.int .i64 (y : Int)) := by rw [hwq]; simp [go_sem]
              have hAq : wq.heap[A]? = some (.cells #[.string ⟨#[114, 97, 109, 32]⟩, .int .i64 2048, .slice (some ⟨sb, off, none⟩) ra.length c1] 35 (0, 0)) := by
                rw [hwq, Lib.alloc_old _ _ _ (Array.getElem?_eq_some_iff.1 hA1.out).1]; exact hA1.out
              have q3 : wq.cell? ⟨A, 0, none⟩ = some (.string ⟨#[114, 97, 109, 32]⟩) := by rw [Lib.cell_of_heap hAq]; rfl
              have hIq := bld_below hI (w' := wq) (by rw [hwq]; exact (by repeat' (first | exact Below.refl _ _ | (refine Below.setCell ?_ (by first | (simp; done) | (simp; omega) | omega) _) | (refine Below.drew ?_) | (refine Below.drewN ?_ _) | (refine Below.alloc ?_ (by first | (simp; done) | (simp; omega) | omega) _))))
              have hBq : Below b w1 wq := by rw [hwq]; exact hB1.alloc (by omega) _
              have hGq := Gb.out wq (HB1.out.trans (hBq.mono (by omega)))
              have Hfz : Hid (∀ (z : Nat), z < 65536 → ∀ d os, Calls Tryz.prog 34 #[.int .i64 (z : Int)] (Go.Sort.grow (Go.redrawn wq d) os) fun e w' => e = .returned (.string (strOfNums (fourI z))) ∧ Below (Go.Sort.grow (Go.redrawn wq d) os).heap.size (Go.Sort.grow (Go.redrawn wq d) os) w') := fun z hz d os => four_ct z _ (hGq.below (below_regrown wq d os)) hz
              have sfx : (strOfNums (fourI x)).size = 4 := rfl
              have sfy : (strOfNums (fourI y)).size = 4 := rfl
              have hbq : b ≤ wq.heap.size := by rw [hwq]; simp; omega
              have Q1 := cell_regrown q1
              have Q2 := cell_regrown q2
              have Q3 := cell_regrown q3
              have HIq := Lib.hid hIq
              have HBq := Lib.hid hBq
              have HAq := Lib.hid hAq
              clear hGq hIq hBq hAq hI hA1 hB1
              go_wp2
              rw [← hwq]
              clear hwq
              (refine wp_region_tail_below 12 (by kernel_rfl) (by kernel_rfl) ?_); (simp only [List.take_succ_cons, List.take_zero, List.drop_succ_cons, List.drop_zero]); (repeat (go_big_quiet_step (((go_at_call 34; exact Calls.regrown_of (Hfz.out _ (by assumption) _ _)))))); (refine wpQuiet_nil ?_); intro _ hw'; obtain ⟨⟨dq, osq⟩, hw''⟩ := hw'; (subst hw''); have hq := below_regrown wq dq osq; skip; generalize Go.Sort.grow (redrawn wq dq) osq = wq at *
              have hI2 := bld_below HIq.out hq
              have hz2 := bld_lt hI2
              have hB2 := Below.trans HBq.out (hq.mono (by omega))
              have hA2 := (hq.block A (Array.getElem?_eq_some_iff.1 HAq.out).1).trans HAq.out
              have HA2 := Lib.hid hA2
              have HB2 := Lib.hid hB2
              have htl := Htl.out
              have htk := linesP_few ramW (ra.take k) (by decide) (by rw [List.length_take]; omega)
              clear hA2 hB2 q1 q2 q3 Q1 Q2 Q3 HIq HBq HAq Hfz
              go_wp2_with fail
              refine (write_ct b b _ _ _ hI2 ?hs (by omega)).mono ?_
              case hs =>
                rw [Lib.byteCells_length, List.length_append, line_size]
                have hw : (ByteArray.mk #[114, 97, 109, 32]).size ≤ 5 := by decide
                omega
              rintro e w4 ⟨rfl, hI3, hB3, hK3⟩
              have hA4 := hK3 A _ HA2.out (by simp; omega) (fun c fz h => by injection h with _ h _; revert h; decide)
              have HA4 := Lib.hid hA4
              have HI3 := Lib.hid hI3
              have hB4 := HB2.out.trans hB3
              clear hI2 hI3 hK3 hA4 hB3
              go_wp2
              go_roundw
              case rel => exact ⟨k + 1, by omega, by go_num, by rw [Hl.out, ← List.append_assoc, show lineP ramW ((x : Int), (y : Int)) = _ from (line_str ⟨#[114, 97, 109, 32]⟩ x y).symm, ← bld_snoc]; exact HI3.out, HA4, hB4⟩
              case measure => simp [intOf]; omega
            · obtain rfl : k = ra.length := by omega
              rw [List.take_length] at hI
              have HI := Lib.hid hI
              clear hI hA1
              go_wp2
              go_roundw
              case rel => exact .inr (.inl ⟨rfl, by rw [← Ht.out]; exact HI.out, hB1⟩)
              case measure => simp [intOf]
        · have hz := bld_lt hI
          have hA1 : (wr.alloc (.cells #[.string ⟨#[115, 97, 118, 101, 32]⟩, .int .i64 8192, .slice a2 sa.length c2] 35)).heap[wr.heap.size]? = some (.cells #[.string ⟨#[115, 97, 118, 101, 32]⟩, .int .i64 8192, .slice a2 sa.length c2] 35 (0, 0)) := World.alloc_heap_new wr _
          have hI1 := bld_below hI (w' := wr.alloc (.cells #[.string ⟨#[115, 97, 118, 101, 32]⟩, .int .i64 8192, .slice a2 sa.length c2] 35)) (by repeat' (first | exact Below.refl _ _ | (refine Below.setCell ?_ (by first | (simp; done) | (simp; omega) | omega) _) | (refine Below.drew ?_) | (refine Below.drewN ?_ _) | (refine Below.alloc ?_ (by first | (simp; done) | (simp; omega) | omega) _)))
          have hB1 : Below b w1 (wr.alloc (.cells #[.string ⟨#[115, 97, 118, 101, 32]⟩, .int .i64 8192, .slice a2 sa.length c2] 35)) := hB.alloc (by omega) _
          have HA1 := Lib.hid hA1
          have HI1 := Lib.hid hI1
          have HBb1 := Lib.hid hB1
          clear hA1 hI1 hB1 hI
          go_wp2
          obtain ⟨A, hA⟩ : ∃ A, A = wr.heap.size := ⟨_, rfl⟩
          rw [← hA] at HA1 ⊢
          have hbA : b < A := by omega
          clear hA
          obtain ⟨t, ht⟩ : ∃ t, t = ((ports1P p ++ ports2P q) ++ linesP ramW ra) := ⟨_, rfl⟩
          rw [← ht] at HI1
          have Ht := Lib.hid ht
          clear ht
          obtain ⟨wo, hwo⟩ : ∃ wo, wo = wr.alloc (.cells #[.string ⟨#[115, 97, 118, 101, 32]⟩, .int .i64 8192, .slice a2 sa.length c2] 35) := ⟨_, rfl⟩
          rw [← hwo] at HA1 HI1 HBb1 ⊢
          clear hwo
          have Htl : Hid (t.length ≤ 20000) := by rw [Hid, Ht.out]; exact t1_few p q ra h1
          go_loopw [38] (fun i wi => ∃ k : Nat, k ≤ sa.length ∧ i = .int .i64 k ∧ Lib.IsBuilder 77 5 b b (Lib.byteCells (t ++ linesP saveW (sa.take k))) wi ∧ Hid (wi.heap[A]? = some (.cells #[.string ⟨#[115, 97, 118, 101, 32]⟩, .int .i64 8192, .slice a2 sa.length c2] 35 (0, 0))) ∧ Below b w1 wi) (fun i _ => sa.length - (intOf i).toNat)
          case atStart => exact ⟨0, Nat.zero_le _, rfl, by simpa [linesP] using HI1.out, HA1, HBb1.out⟩
          case round =>
            clear HI1 HA1 HBb1
            obtain ⟨k, hk, rfl, hI, hA1, hB1⟩ := hrel
            have hz := bld_lt hI
            by_cases hlt : k < sa.length
            · obtain ⟨x, y, hxy, hx, hy⟩ := area_facts Hms.out k hlt
              obtain ⟨sb, off, rfl, hbs, hc⟩ : ∃ sb off, a2 = some ⟨sb, off, none⟩ ∧ sb < w.heap.size ∧ ∀ k, k < sa.length → w.cell? ⟨sb, off + k * 2, none⟩ = some (.int .i64 (nthR sa k).1) ∧ w.cell? ⟨sb, off + k * 2 + 1, none⟩ = some (.int .i64 (nthR sa k).2) := by
                obtain ⟨a', c', hv, _, _, hr3⟩ := Hs.out
                injection hv with hv1 _ _
                rcases hr3 with rfl | ⟨sb, off, ha, hbs, hc⟩
                · exact absurd hlt (by simp)
                · exact ⟨sb, off, hv1.trans ha, hbs, hc⟩
              obtain ⟨g1, g2⟩ := hc k hlt
              rw [hxy] at g1 g2
              dsimp only at g1 g2
              have g1' : wr.cell? ⟨sb, off + k * 2, none⟩ = some (.int .i64 (x : Int)) := (hB1.cell (p := ⟨sb, off + k * 2, none⟩) (show sb < b by omega)).trans ((HB1.out.cell (p := ⟨sb, off + k * 2, none⟩) hbs).trans g1)
              have g2' : wr.cell? ⟨sb, off + k * 2 + 1, none⟩ = some (.int .i64 (y : Int)) := (hB1.cell (p := ⟨sb, off + k * 2 + 1, none⟩) (show sb < b by omega)).trans ((HB1.out.cell (p := ⟨sb, off + k * 2 + 1, none⟩) hbs).trans g2)
              have Hl : Hid (linesP saveW (sa.take (k + 1)) = linesP saveW (sa.take k) ++ lineP saveW ((x : Int), (y : Int))) := by rw [Hid, linesP_take _ _ _ hlt, hxy]
              clear g1 g2 hc hxy
              obtain ⟨wq, hwq⟩ : ∃ wq, wq = wr.alloc (.cells #[.int .i64 (x : Int), .int .i64 (y : Int)] 42) := ⟨_, rfl⟩
              have q1 : wq.cell? ⟨wr.heap.size, 0, none⟩ = some (.int .i64 (x : Int)) := by rw [hwq]; simp [go_sem]
              have q2 : wq.cell? ⟨wr.heap.size, 1, none⟩ = some (.int .i64 (y : Int)) := by rw [hwq]; simp [go_sem]
              have hAq : wq.heap[A]? = some (.cells #[.string ⟨#[115, 97, 118, 101, 32]⟩, .int .i64 8192, .slice (some ⟨sb, off, none⟩) sa.length c2] 35 (0, 0)) := by
                rw [hwq, Lib.alloc_old _ _ _ (Array.getElem?_eq_some_iff.1 hA1.out).1]; exact hA1.out
              have q3 : wq.cell? ⟨A, 0, none⟩ = some (.string ⟨#[115, 97, 118, 101, 32]⟩) := by rw [Lib.cell_of_heap hAq]; rfl
              have hIq := bld_below hI (w' := wq) (by rw [hwq]; exact (by repeat' (first | exact Below.refl _ _ | (refine Below.setCell ?_ (by first | (simp; done) | (simp; omega) | omega) _) | (refine Below.drew ?_) | (refine Below.drewN ?_ _) | (refine Below.alloc ?_ (by first | (simp; done) | (simp; omega) | omega) _))))
              have hBq : Below b w1 wq := by rw [hwq]; exact hB1.alloc (by omega) _
              have hGq := Gb.out wq (HB1.out.trans (hBq.mono (by omega)))
              have Hfz : Hid (∀ (z : Nat), z < 65536 → ∀ d os, Calls Tryz.prog 34 #[.int .i64 (z : Int)] (Go.Sort.grow (Go.redrawn wq d) os) fun e w' => e = .returned (.string (strOfNums (fourI z))) ∧ Below (Go.Sort.grow (Go.redrawn wq d) os).heap.size (Go.Sort.grow (Go.redrawn wq d) os) w') := fun z hz d os => four_ct z _ (hGq.below (below_regrown wq d os)) hz
              have sfx : (strOfNums (fourI x)).size = 4 := rfl
              have sfy : (strOfNums (fourI y)).size = 4 := rfl
              have hbq : b ≤ wq.heap.size := by rw [hwq]; simp; omega
              have Q1 := cell_regrown q1
              have Q2 := cell_regrown q2
              have Q3 := cell_regrown q3
              have HIq := Lib.hid hIq
              have HBq := Lib.hid hBq
              have HAq := Lib.hid hAq
              clear hGq hIq hBq hAq hI hA1 hB1
              go_wp2
              rw [← hwq]
              clear hwq
              (refine wp_region_tail_below 12 (by kernel_rfl) (by kernel_rfl) ?_); (simp only [List.take_succ_cons, List.take_zero, List.drop_succ_cons, List.drop_zero]); (repeat (go_big_quiet_step (((go_at_call 34; exact Calls.regrown_of (Hfz.out _ (by assumption) _ _)))))); (refine wpQuiet_nil ?_); intro _ hw'; obtain ⟨⟨dq, osq⟩, hw''⟩ := hw'; (subst hw''); have hq := below_regrown wq dq osq; skip; generalize Go.Sort.grow (redrawn wq dq) osq = wq at *
              have hI2 := bld_below HIq.out hq
              have hz2 := bld_lt hI2
              have hB2 := Below.trans HBq.out (hq.mono (by omega))
              have hA2 := (hq.block A (Array.getElem?_eq_some_iff.1 HAq.out).1).trans HAq.out
              have HA2 := Lib.hid hA2
              have HB2 := Lib.hid hB2
              have htl := Htl.out
              have htk := linesP_few saveW (sa.take k) (by decide) (by rw [List.length_take]; omega)
              clear hA2 hB2 q1 q2 q3 Q1 Q2 Q3 HIq HBq HAq Hfz
              go_wp2_with fail
              refine (write_ct b b _ _ _ hI2 ?hs (by omega)).mono ?_
              case hs =>
                rw [Lib.byteCells_length, List.length_append, line_size]
                have hw : (ByteArray.mk #[115, 97, 118, 101, 32]).size ≤ 5 := by decide
                omega
              rintro e w4 ⟨rfl, hI3, hB3, hK3⟩
              have hA4 := hK3 A _ HA2.out (by simp; omega) (fun c fz h => by injection h with _ h _; revert h; decide)
              have HA4 := Lib.hid hA4
              have HI3 := Lib.hid hI3
              have hB4 := HB2.out.trans hB3
              clear hI2 hI3 hK3 hA4 hB3
              go_wp2
              go_roundw
              case rel => exact ⟨k + 1, by omega, by go_num, by rw [Hl.out, ← List.append_assoc, show lineP saveW ((x : Int), (y : Int)) = _ from (line_str ⟨#[115, 97, 118, 101, 32]⟩ x y).symm, ← bld_snoc]; exact HI3.out, HA4, hB4⟩
              case measure => simp [intOf]; omega
            · obtain rfl : k = sa.length := by omega
              rw [List.take_length] at hI
              have HI := Lib.hid hI
              clear hI hA1
              go_wp2
              go_roundw
              case rel => exact .inr (.inr ⟨rfl, by unfold printL; rw [← Ht.out]; exact HI.out, hB1⟩)
              case measure => simp [intOf]
        · have hz := bld_lt hI
          have HI := Lib.hid hI
          clear hI
          go_wp2_with fail
          refine (Tryz.Builder_String_any b b _ _ HI.out (by omega)).mono ?_
          rintro e w4 ⟨rfl, hB4⟩
          go_wp2
          go_ret2
          exact ⟨rfl, HB1.out.trans ((hB.trans hB4).mono (by omega))⟩
end Go.Proofs.YtfceifmhlmiiiaaGreatDoor
