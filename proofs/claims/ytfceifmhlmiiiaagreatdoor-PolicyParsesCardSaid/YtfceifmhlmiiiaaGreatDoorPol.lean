/-
  What a line of a policy's text tells, and a text's lines: plain words on lists of octets, ranges and numbers. No condition.
-/
import Derived.Test.YtfceifmhlmiiiaaGreatDoorMth
import Derived.Lib.Split
import Derived.Lib.Strings
namespace Go.Proofs.YtfceifmhlmiiiaaGreatDoor
open Go

/-! ### numbers to the base sixteen -/
def hexV (c : UInt8) : Int := if 48 ≤ c.toNat ∧ c.toNat ≤ 57 then (c.toNat : Int) - 48 else if 97 ≤ c.toNat ∧ c.toNat ≤ 102 then (c.toNat : Int) - 87 else -1
def hexN (l : List UInt8) : Int := l.foldl (fun n c => 16 * n + hexV c) 0
def isHex (l : List UInt8) : Bool := l.all fun c => decide (0 ≤ hexV c)
def isNum (l : List UInt8) : Bool := decide (1 ≤ l.length) && (decide (l.length ≤ 4) && isHex l)
def numOf (l : List UInt8) : Int := if isNum l then hexN l else 0
theorem hexV_bd (c : UInt8) : -1 ≤ hexV c ∧ hexV c ≤ 15 := by
  unfold hexV
  split
  · omega
  · split <;> omega
theorem hexN_snoc (l : List UInt8) (c : UInt8) : hexN (l ++ [c]) = 16 * hexN l + hexV c := by simp [hexN]
theorem isHex_snoc (l : List UInt8) (c : UInt8) : isHex (l ++ [c]) = (isHex l && decide (0 ≤ hexV c)) := by simp [isHex]
theorem isHex_take (l : List UInt8) (k : Nat) (h : isHex l = true) : isHex (l.take k) = true :=
  List.all_eq_true.2 fun c hc => List.all_eq_true.1 h c (List.mem_of_mem_take hc)
theorem hexN_bd (l : List UInt8) (h : isHex l = true) (h4 : l.length ≤ 4) : 0 ≤ hexN l ∧ hexN l ≤ 65535 := by
  match l, h, h4 with
  | [], _, _ => simp [hexN]
  | [a], h, _ => have := hexV_bd a; simp [hexN, isHex] at h ⊢; omega
  | [a, b], h, _ => have := hexV_bd a; have := hexV_bd b; simp [hexN, isHex] at h ⊢; omega
  | [a, b, c], h, _ => have := hexV_bd a; have := hexV_bd b; have := hexV_bd c; simp [hexN, isHex] at h ⊢; omega
  | [a, b, c, d], h, _ => have := hexV_bd a; have := hexV_bd b; have := hexV_bd c; have := hexV_bd d; simp [hexN, isHex] at h ⊢; omega
theorem isNum_bd (l : List UInt8) (h : isNum l = true) : 0 ≤ hexN l ∧ hexN l ≤ 65535 := by
  simp only [isNum, Bool.and_eq_true, decide_eq_true_eq] at h
  exact hexN_bd l h.2.2 h.2.1
theorem numOf_bd (l : List UInt8) : 0 ≤ numOf l ∧ numOf l ≤ 65535 := by
  unfold numOf
  split
  · exact isNum_bd l (by assumption)
  · omega

/-! ### a line -/
def fstL (l : List UInt8) : List UInt8 := (Lib.cut l [45]).1
def sndL (l : List UInt8) : List UInt8 := if (Lib.cut l [45]).2.2 then (Lib.cut l [45]).2.1 else (Lib.cut l [45]).1
def spanB (size : Int) (l : List UInt8) : Bool := isNum (fstL l) && (isNum (sndL l) && (decide (hexN (fstL l) ≤ hexN (sndL l)) && decide (hexN (sndL l) < size)))
def spanL (size : Int) (l : List UInt8) : Option (Int × Int) := if spanB size l then some (hexN (fstL l), hexN (sndL l)) else none
def readL (word : List UInt8) (size : Int) (l : List UInt8) : Option (Int × Int) := if Lib.hasPrefix l word then spanL size (Lib.trimPrefix l word) else none
theorem spanL_bd {size : Int} {l : List UInt8} {r : Int × Int} (h : spanL size l = some r) : 0 ≤ r.1 ∧ r.1 ≤ r.2 ∧ r.2 < size ∧ r.2 ≤ 65535 := by
  unfold spanL at h
  by_cases hc : spanB size l = true
  · rw [if_pos hc] at h
    unfold spanB at hc
    simp only [Bool.and_eq_true, decide_eq_true_eq] at hc
    obtain rfl := Option.some.inj h
    have h1 := isNum_bd _ hc.1
    have h2 := isNum_bd _ hc.2.1
    exact ⟨h1.1, hc.2.2.1, hc.2.2.2, h2.2⟩
  · rw [if_neg hc] at h
    cases h
theorem readL_bd {word : List UInt8} {size : Int} {l : List UInt8} {r : Int × Int} (h : readL word size l = some r) : 0 ≤ r.1 ∧ r.1 ≤ r.2 ∧ r.2 < size ∧ r.2 ≤ 65535 := by
  unfold readL at h
  split at h
  · exact spanL_bd h
  · cases h

def ramW : List UInt8 := [114, 97, 109, 32]
def saveW : List UInt8 := [115, 97, 118, 101, 32]
def port1W : List UInt8 := [112, 111, 114, 116, 32, 49]
def port2W : List UInt8 := [112, 111, 114, 116, 32, 50]
inductive Cls where
  | skip
  | port1
  | port2
  | ram (r : Int × Int)
  | save (r : Int × Int)
  | bad
deriving DecidableEq
def isSkip (l : List UInt8) : Bool := match l with | [] => true | c :: _ => c == 35
def cls (l : List UInt8) : Cls :=
  if isSkip l then .skip else if l = port1W then .port1 else if l = port2W then .port2 else
  match readL ramW 2048 l with
  | some r => .ram r
  | none => match readL saveW 8192 l with
    | some r => .save r
    | none => .bad
def ramOf (l : List UInt8) : Option (Int × Int) := match cls l with | .ram r => some r | _ => none
def saveOf (l : List UInt8) : Option (Int × Int) := match cls l with | .save r => some r | _ => none
def isBad (l : List UInt8) : Bool := decide (cls l = .bad)
def anyP1 (ls : List (List UInt8)) : Bool := ls.any fun l => decide (cls l = .port1)
def anyP2 (ls : List (List UInt8)) : Bool := ls.any fun l => decide (cls l = .port2)
def rams (ls : List (List UInt8)) : List (Int × Int) := ls.filterMap ramOf
def saves (ls : List (List UInt8)) : List (Int × Int) := ls.filterMap saveOf
def noBad (ls : List (List UInt8)) : Bool := ls.all fun l => !isBad l
theorem rams_append (a b : List (List UInt8)) : rams (a ++ b) = rams a ++ rams b := by simp [rams]
theorem saves_append (a b : List (List UInt8)) : saves (a ++ b) = saves a ++ saves b := by simp [saves]
theorem anyP1_append (a b : List (List UInt8)) : anyP1 (a ++ b) = (anyP1 a || anyP1 b) := by simp [anyP1]
theorem anyP2_append (a b : List (List UInt8)) : anyP2 (a ++ b) = (anyP2 a || anyP2 b) := by simp [anyP2]
theorem noBad_append (a b : List (List UInt8)) : noBad (a ++ b) = (noBad a && noBad b) := by simp [noBad]
theorem rams_len (ls : List (List UInt8)) : (rams ls).length ≤ ls.length := List.length_filterMap_le _ _
theorem saves_len (ls : List (List UInt8)) : (saves ls).length ≤ ls.length := List.length_filterMap_le _ _
theorem ramOf_bd {l : List UInt8} {r : Int × Int} (h : ramOf l = some r) : 0 ≤ r.1 ∧ r.1 ≤ r.2 ∧ r.2 < 2048 := by
  unfold ramOf cls at h
  split at h <;> try (cases h; done)
  rename_i q hq
  obtain rfl := Option.some.inj h
  split at hq; · cases hq
  split at hq; · cases hq
  split at hq; · cases hq
  split at hq
  · rename_i x hx; obtain rfl := Cls.ram.inj hq; have := readL_bd hx; exact ⟨this.1, this.2.1, this.2.2.1⟩
  · split at hq <;> cases hq
theorem saveOf_bd {l : List UInt8} {r : Int × Int} (h : saveOf l = some r) : 0 ≤ r.1 ∧ r.1 ≤ r.2 ∧ r.2 < 8192 := by
  unfold saveOf cls at h
  split at h <;> try (cases h; done)
  rename_i q hq
  obtain rfl := Option.some.inj h
  split at hq; · cases hq
  split at hq; · cases hq
  split at hq; · cases hq
  split at hq
  · cases hq
  · split at hq
    · rename_i x hx; obtain rfl := Cls.save.inj hq; have := readL_bd hx; exact ⟨this.1, this.2.1, this.2.2.1⟩
    · cases hq
theorem rams_whole (ls : List (List UInt8)) : (rams ls).all wholeB = true := List.all_eq_true.2 fun r hr => by
  obtain ⟨l, _, h⟩ := List.mem_filterMap.1 hr
  have := ramOf_bd h
  exact (wholeB_iff r).2 ⟨this.1, this.2.1, by omega⟩
theorem saves_whole (ls : List (List UInt8)) : (saves ls).all wholeB = true := List.all_eq_true.2 fun r hr => by
  obtain ⟨l, _, h⟩ := List.mem_filterMap.1 hr
  have := saveOf_bd h
  exact (wholeB_iff r).2 ⟨this.1, this.2.1, by omega⟩
theorem rams_top (ls : List (List UInt8)) : ∀ r ∈ rams ls, r.2 < 2048 := fun r hr => by
  obtain ⟨l, _, h⟩ := List.mem_filterMap.1 hr
  exact (ramOf_bd h).2.2
theorem saves_top (ls : List (List UInt8)) : ∀ r ∈ saves ls, r.2 < 8192 := fun r hr => by
  obtain ⟨l, _, h⟩ := List.mem_filterMap.1 hr
  exact (saveOf_bd h).2.2

/-! ### a text's lines -/
def linesOf : List UInt8 → List (List UInt8)
  | [] => [[]]
  | c :: l => if c = 10 then [] :: linesOf l else match linesOf l with
    | h :: t => (c :: h) :: t
    | [] => [[c]]
theorem linesOf_cons (c : UInt8) (l : List UInt8) (h : ¬ c = 10) : linesOf (c :: l) = match linesOf l with
    | h :: t => (c :: h) :: t
    | [] => [[c]] := by
  conv => lhs; unfold linesOf
  rw [if_neg h]
theorem linesOf_ne : ∀ l, linesOf l ≠ []
  | [] => by simp [linesOf]
  | c :: l => by
    unfold linesOf
    split
    · simp
    · split <;> simp
theorem linesOf_none : ∀ (a : List UInt8), 10 ∉ a → linesOf a = [a]
  | [], _ => rfl
  | c :: l, h => by
    have h1 : ¬ c = 10 := fun e => h (by simp [e])
    have h2 := linesOf_none l (fun e => h (by simp [e]))
    unfold linesOf
    rw [if_neg h1, h2]
theorem linesOf_append : ∀ (s t : List UInt8), linesOf (s ++ 10 :: t) = linesOf s ++ linesOf t
  | [], t => by simp [linesOf]
  | c :: s, t => by
    have ih := linesOf_append s t
    rw [List.cons_append]
    by_cases h1 : c = 10
    · simp [linesOf, h1, ih]
    · have hn := linesOf_ne s
      rw [linesOf_cons c _ h1, linesOf_cons c _ h1, ih]
      cases hs : linesOf s with
      | nil => exact absurd hs hn
      | cons h u => simp
theorem linesOf_first (a b : List UInt8) (h : 10 ∉ a) : linesOf (a ++ 10 :: b) = a :: linesOf b := by
  rw [linesOf_append, linesOf_none a h]; rfl
theorem occAt_one (s : List UInt8) (i : Nat) : Lib.occAt s [10] i = true ↔ s[i]? = some 10 := by
  unfold Lib.occAt
  cases hd : s.drop i with
  | nil => simp only [List.isPrefixOf]; have : s.length ≤ i := by simpa using hd
           simp [List.getElem?_eq_none this]
  | cons c u =>
    have h1 : s[i]? = some c := by
      have := congrArg (fun l => l[0]?) hd
      simpa using this
    rw [h1]
    show ((10 == c) && true) = true ↔ _
    rw [Bool.and_true, beq_iff_eq, Option.some_inj]
    exact eq_comm
theorem linesOf_splitK : ∀ (fuel : Nat) (s : List UInt8), s.length < fuel → Lib.splitK [10] 0 (Lib.countFrom [10] fuel s) s = linesOf s
  | 0, s, h => by omega
  | fuel + 1, s, h => by
    unfold Lib.countFrom
    rcases Lib.index_spec s [10] with ⟨h1, h2⟩ | ⟨i, h1, h2, h3, h4⟩
    · rw [h1]
      simp only [beq_self_eq_true, if_true]
      unfold Lib.splitK
      refine (linesOf_none s fun hm => ?_).symm
      obtain ⟨j, hj⟩ := List.mem_iff_getElem?.1 hm
      have hl : j < s.length := (List.getElem?_eq_some_iff.1 hj).1
      have := h2 j (by omega)
      rw [(occAt_one s j).2 hj] at this
      cases this
    · have hb : (Lib.index s [10] == -1) = false := by rw [h1]; simp
      rw [hb]
      simp only [if_false, Bool.false_eq_true, Nat.add_comm 1]
      unfold Lib.splitK
      rw [hb]
      have hi : (Lib.index s [10]).toNat = i := by rw [h1]; simp
      have hat := (occAt_one s i).1 h3
      have hl : i < s.length := (List.getElem?_eq_some_iff.1 hat).1
      simp only [if_false, Bool.false_eq_true, hi, Nat.add_zero, List.length_singleton]
      rw [linesOf_splitK fuel (s.drop (i + 1)) (by simp; omega)]
      have hs : s = s.take i ++ 10 :: s.drop (i + 1) := by
        conv => lhs; rw [← List.take_append_drop i s]
        rw [List.drop_eq_getElem_cons hl]
        have : s[i] = 10 := by rw [List.getElem?_eq_getElem hl] at hat; exact Option.some.inj hat
        rw [this]
      conv => rhs; rw [hs]
      rw [linesOf_first]
      intro hm
      obtain ⟨j, hj⟩ := List.mem_iff_getElem?.1 hm
      have hjl : j < (s.take i).length := (List.getElem?_eq_some_iff.1 hj).1
      have hji : j < i := by simp at hjl; omega
      have := h4 j hji
      rw [List.getElem?_take_of_lt hji] at hj
      rw [(occAt_one s j).2 hj] at this
      cases this
theorem split_lines (s : List UInt8) : Lib.split s [10] = linesOf s := linesOf_splitK (s.length + 1) s (by omega)
theorem linesOf_len : ∀ l, (linesOf l).length ≤ l.length + 1
  | [] => by simp [linesOf]
  | c :: l => by
    have ih := linesOf_len l
    unfold linesOf
    split
    · simp; omega
    · split
      · rename_i h t e; rw [e] at ih; simp at ih ⊢; omega
      · simp
theorem linesOf_mem_len : ∀ l, ∀ x ∈ linesOf l, x.length ≤ l.length
  | [], x, hx => by simp [linesOf] at hx; simp [hx]
  | c :: l, x, hx => by
    have ih := linesOf_mem_len l
    unfold linesOf at hx
    split at hx
    · rcases List.mem_cons.1 hx with rfl | h
      · simp
      · have := ih x h; simp; omega
    · split at hx
      · rename_i h t e
        rcases List.mem_cons.1 hx with rfl | hm
        · have := ih h (by rw [e]; simp); simp; omega
        · have := ih x (by rw [e]; simp [hm]); simp; omega
      · simp at hx; simp [hx]
end Go.Proofs.YtfceifmhlmiiiaaGreatDoor
