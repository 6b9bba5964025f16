/-
  No cell of these rows narrows 'for every input' (looked for: loops, veiled, ifaces, maps, wideKeys, modest, calm, conditions, laid).
  DERIVED. THE GIVEN ROWS OF THIS SEAT. 3 by the template 'for every input the law returns true; each argument reads behind the call as it read before'; 0 by the template 'total and deterministic' (their statements: YtaljenjnedijgaaTotals.lean).
  GIVEN WITH THE SEED: the statements are not yours to turn. If you find one false, say at which input.
  Laid BY PROGRAM, IN A SANDBOX (cutbox-rows.mjs): the forced cells as the released guide's own fill.sh prints them over the translation 99cedcf0b17aacc9… (all of the seat's roots in one cut). By AI agents, Wed Nov 11 2026. No macro, syntax, notation, axiom, sorry.
-/
import Derived.Test.YtaljenjnedijgaaChecked
import GoSem.Claim
import GoSem.ClaimJoined
import GoSem.ClaimMapViews
import Derived.JoinedTies
import Derived.KernelRfl
namespace Go.Proofs.Ytaljenjnedijgaa
/- THE CELL 'sum', in the pinned program and in every row, IS THE sha256 OF THE DUMP (.gsa) THAT YtaljenjnedijgaaProg.lean LOADS. Nothing in Lean hashes anything: it is a label: what it is worth is what the hold of that sum in a sandbox is worth. -/
noncomputable def Try.pinned : Pinned := { name := "ytaljenjnedijgaa", sum := "99cedcf0b17aacc9015fb34e96c3b59ad8abc433ed11374c31d37e6b950abf42", checked := Try.checked }
namespace Rows
def none {H : Type} : Left H := { results := [], args := [] }

/-- 'seepagelaw05.HeaderBack': WHATEVER THE INPUT: true; the input reads as it did. -/
def headerBackSpec : ChangeSpec := { name := "headerBack", fn := fun _ => fun
  | [d1, d2] => { results := [.lit (.bool true)], args := [d1, d2] }
  | _ => none }
def headerBackRow : OpenClaim := { program := "ytaljenjnedijgaa", sum := "99cedcf0b17aacc9015fb34e96c3b59ad8abc433ed11374c31d37e6b950abf42", func := "seepage/seepagelaw05.HeaderBack", spec := "headerBack", apart := false }
def HeaderBackSaid : Prop := headerBackRow.holds Try.pinned (OpenSpec.ofChange headerBackSpec)

/-- ITS FALSE NEIGHBOUR: 'it returns false'. Refute it at one input. -/
def headerBackWrong : ChangeSpec := { name := "headerBack", fn := fun _ => fun
  | [d1, d2] => { results := [.lit (.bool false)], args := [d1, d2] }
  | _ => none }
def HeaderBackWrongFalsely : Prop := headerBackRow.holds Try.pinned (OpenSpec.ofChange headerBackWrong)

/-- 'seepagelaw05.HeaderParts': WHATEVER THE INPUT: true; the input reads as it did. -/
def headerPartsSpec : ChangeSpec := { name := "headerParts", fn := fun _ => fun
  | [d] => { results := [.lit (.bool true)], args := [d] }
  | _ => none }
def headerPartsRow : OpenClaim := { program := "ytaljenjnedijgaa", sum := "99cedcf0b17aacc9015fb34e96c3b59ad8abc433ed11374c31d37e6b950abf42", func := "seepage/seepagelaw05.HeaderParts", spec := "headerParts", apart := false }
def HeaderPartsSaid : Prop := headerPartsRow.holds Try.pinned (OpenSpec.ofChange headerPartsSpec)

/-- ITS FALSE NEIGHBOUR: 'it returns false'. Refute it at one input. -/
def headerPartsWrong : ChangeSpec := { name := "headerParts", fn := fun _ => fun
  | [d] => { results := [.lit (.bool false)], args := [d] }
  | _ => none }
def HeaderPartsWrongFalsely : Prop := headerPartsRow.holds Try.pinned (OpenSpec.ofChange headerPartsWrong)

/-- 'seepagelaw05.HeaderMagic': WHATEVER THE INPUT: true; the input reads as it did. -/
def headerMagicSpec : ChangeSpec := { name := "headerMagic", fn := fun _ => fun
  | [d] => { results := [.lit (.bool true)], args := [d] }
  | _ => none }
def headerMagicRow : OpenClaim := { program := "ytaljenjnedijgaa", sum := "99cedcf0b17aacc9015fb34e96c3b59ad8abc433ed11374c31d37e6b950abf42", func := "seepage/seepagelaw05.HeaderMagic", spec := "headerMagic", apart := false }
def HeaderMagicSaid : Prop := headerMagicRow.holds Try.pinned (OpenSpec.ofChange headerMagicSpec)

/-- ITS FALSE NEIGHBOUR: 'it returns false'. Refute it at one input. -/
def headerMagicWrong : ChangeSpec := { name := "headerMagic", fn := fun _ => fun
  | [d] => { results := [.lit (.bool false)], args := [d] }
  | _ => none }
def HeaderMagicWrongFalsely : Prop := headerMagicRow.holds Try.pinned (OpenSpec.ofChange headerMagicWrong)

/- THE SECOND FORM. 'bulk': how many values and letters a reading holds, each counted each time it is reached (what is shared counts as often as it is met; a slice's spare places count too). A statement '..UptoSaid' is the law's where the arguments, and the package variables that the reading takes, are together of bulk at most 1048576: NARROWER than '..Said'. Prove '..Said' where nothing that the law and all that it calls make is longer than what came in: it says more and counts as full. Else prove '..UptoSaid'. A law counts once. -/
mutual
def uptoBulk {H : Type} : DataW H → Nat
  | .lit (.string bytes) => bytes.length + 1
  | .lit _ => 1
  | .nil => 1
  | .ptr d => uptoBulk d + 1
  | .slice elems spare => uptoBulkAll elems + uptoBulkAll spare + 1
  | .agg parts => uptoBulkAll parts + 1
  | .iface _ d => uptoBulk d + 1
  | .map entries => uptoBulkEntries entries + 1
  | .held _ => 1
def uptoBulkAll {H : Type} : List (DataW H) → Nat
  | [] => 0
  | d :: r => uptoBulk d + uptoBulkAll r
def uptoBulkEntries {H : Type} : List (Lit × DataW H) → Nat
  | [] => 0
  | x :: r => uptoBulkEntry x + uptoBulkEntries r
def uptoBulkEntry {H : Type} : Lit × DataW H → Nat
  | (.string bytes, d) => bytes.length + uptoBulk d + 1
  | (_, d) => uptoBulk d + 1
 end
def uptoSmall : (H : Type) → List (DataW H) → Bool := fun _ ds => decide (uptoBulkAll ds ≤ 1048576)
def OpenSpec.upto (s : _root_.Go.ChangeSpec) : _root_.Go.OpenSpec := { _root_.Go.OpenSpec.ofChange s with cond := some uptoSmall }

/-- 'seepagelaw05.HeaderBack', WHERE WHAT IT READS IS OF BULK AT MOST 1048576: true; the input reads as it did. -/
def headerBackUptoRow : OpenClaim := { program := "ytaljenjnedijgaa", sum := "99cedcf0b17aacc9015fb34e96c3b59ad8abc433ed11374c31d37e6b950abf42", func := "seepage/seepagelaw05.HeaderBack", spec := "headerBack", apart := false, narrowed := true }
def HeaderBackUptoSaid : Prop := headerBackUptoRow.holds Try.pinned (OpenSpec.upto headerBackSpec)

/-- 'seepagelaw05.HeaderParts', WHERE WHAT IT READS IS OF BULK AT MOST 1048576: true; the input reads as it did. -/
def headerPartsUptoRow : OpenClaim := { program := "ytaljenjnedijgaa", sum := "99cedcf0b17aacc9015fb34e96c3b59ad8abc433ed11374c31d37e6b950abf42", func := "seepage/seepagelaw05.HeaderParts", spec := "headerParts", apart := false, narrowed := true }
def HeaderPartsUptoSaid : Prop := headerPartsUptoRow.holds Try.pinned (OpenSpec.upto headerPartsSpec)

/-- 'seepagelaw05.HeaderMagic', WHERE WHAT IT READS IS OF BULK AT MOST 1048576: true; the input reads as it did. -/
def headerMagicUptoRow : OpenClaim := { program := "ytaljenjnedijgaa", sum := "99cedcf0b17aacc9015fb34e96c3b59ad8abc433ed11374c31d37e6b950abf42", func := "seepage/seepagelaw05.HeaderMagic", spec := "headerMagic", apart := false, narrowed := true }
def HeaderMagicUptoSaid : Prop := headerMagicUptoRow.holds Try.pinned (OpenSpec.upto headerMagicSpec)

end Rows
end Go.Proofs.Ytaljenjnedijgaa
