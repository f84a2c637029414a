/-
  No cell of these rows narrows 'for every input' (looked for: loops, veiled, ifaces, maps, wideKeys, modest, calm, conditions, laid).
  DERIVED. THE GIVEN ROWS OF THIS SEAT. 6 by the template 'for every input the law returns true; each argument reads behind the call as it read before'; 0 by the template 'total and deterministic' (their statements: YtfpoiikhhjdpdaaTotals.lean).
  GIVEN WITH THE SEED: the statements are not yours to turn. If you find one false, say at which input.
  Laid BY PROGRAM, IN A SANDBOX (cutbox-rows.mjs): the forced cells as the released guide's own fill.sh prints them over the translation be73e3fcebe1239f… (all of the seat's roots in one cut). By AI agents, Wed Nov 11 2026. No macro, syntax, notation, axiom, sorry.
-/
import Derived.Test.YtfpoiikhhjdpdaaChecked
import GoSem.Claim
import GoSem.ClaimJoined
import GoSem.ClaimMapViews
import Derived.JoinedTies
import Derived.KernelRfl
namespace Go.Proofs.Ytfpoiikhhjdpdaa
/- THE CELL 'sum', in the pinned program and in every row, IS THE sha256 OF THE DUMP (.gsa) THAT YtfpoiikhhjdpdaaProg.lean LOADS. Nothing in Lean hashes anything: it is a label: what it is worth is what the hold of that sum in a sandbox is worth. -/
noncomputable def Try.pinned : Pinned := { name := "ytfpoiikhhjdpdaa", sum := "be73e3fcebe1239fd08c13d116334112347582552242097bf86253dfe9f8c184", checked := Try.checked }
namespace Rows
def none {H : Type} : Left H := { results := [], args := [] }

/-- 'hoardkeep.Field': WHATEVER THE INPUT: true; the input reads as it did. -/
def fieldSpec : ChangeSpec := { name := "field", fn := fun _ => fun
  | [d1, d2, d3] => { results := [.lit (.bool true)], args := [d1, d2, d3] }
  | _ => none }
def fieldRow : OpenClaim := { program := "ytfpoiikhhjdpdaa", sum := "be73e3fcebe1239fd08c13d116334112347582552242097bf86253dfe9f8c184", func := "hoard/hoardkeep.Field", spec := "field", apart := false }
def FieldSaid : Prop := fieldRow.holds Try.pinned (OpenSpec.ofChange fieldSpec)

/-- ITS FALSE NEIGHBOUR: 'it returns false'. Refute it at one input. -/
def fieldWrong : ChangeSpec := { name := "field", fn := fun _ => fun
  | [d1, d2, d3] => { results := [.lit (.bool false)], args := [d1, d2, d3] }
  | _ => none }
def FieldWrongFalsely : Prop := fieldRow.holds Try.pinned (OpenSpec.ofChange fieldWrong)

/-- 'hoardkeep.Lean': WHATEVER THE INPUT: true; the input reads as it did. -/
def leanSpec : ChangeSpec := { name := "lean", fn := fun _ => fun
  | [d1, d2, d3, d4, d5] => { results := [.lit (.bool true)], args := [d1, d2, d3, d4, d5] }
  | _ => none }
def leanRow : OpenClaim := { program := "ytfpoiikhhjdpdaa", sum := "be73e3fcebe1239fd08c13d116334112347582552242097bf86253dfe9f8c184", func := "hoard/hoardkeep.Lean", spec := "lean", apart := false }
def LeanSaid : Prop := leanRow.holds Try.pinned (OpenSpec.ofChange leanSpec)

/-- ITS FALSE NEIGHBOUR: 'it returns false'. Refute it at one input. -/
def leanWrong : ChangeSpec := { name := "lean", fn := fun _ => fun
  | [d1, d2, d3, d4, d5] => { results := [.lit (.bool false)], args := [d1, d2, d3, d4, d5] }
  | _ => none }
def LeanWrongFalsely : Prop := leanRow.holds Try.pinned (OpenSpec.ofChange leanWrong)

/-- 'hoardkeep.Coded': WHATEVER THE INPUT: true; the input reads as it did. -/
def codedSpec : ChangeSpec := { name := "coded", fn := fun _ => fun
  | [d1, d2, d3, d4, d5] => { results := [.lit (.bool true)], args := [d1, d2, d3, d4, d5] }
  | _ => none }
def codedRow : OpenClaim := { program := "ytfpoiikhhjdpdaa", sum := "be73e3fcebe1239fd08c13d116334112347582552242097bf86253dfe9f8c184", func := "hoard/hoardkeep.Coded", spec := "coded", apart := false }
def CodedSaid : Prop := codedRow.holds Try.pinned (OpenSpec.ofChange codedSpec)

/-- ITS FALSE NEIGHBOUR: 'it returns false'. Refute it at one input. -/
def codedWrong : ChangeSpec := { name := "coded", fn := fun _ => fun
  | [d1, d2, d3, d4, d5] => { results := [.lit (.bool false)], args := [d1, d2, d3, d4, d5] }
  | _ => none }
def CodedWrongFalsely : Prop := codedRow.holds Try.pinned (OpenSpec.ofChange codedWrong)

/-- 'hoardkeep.Kept': WHATEVER THE INPUT: true; the input reads as it did. -/
def keptSpec : ChangeSpec := { name := "kept", fn := fun _ => fun
  | [d1, d2, d3, d4, d5] => { results := [.lit (.bool true)], args := [d1, d2, d3, d4, d5] }
  | _ => none }
def keptRow : OpenClaim := { program := "ytfpoiikhhjdpdaa", sum := "be73e3fcebe1239fd08c13d116334112347582552242097bf86253dfe9f8c184", func := "hoard/hoardkeep.Kept", spec := "kept", apart := false }
def KeptSaid : Prop := keptRow.holds Try.pinned (OpenSpec.ofChange keptSpec)

/-- ITS FALSE NEIGHBOUR: 'it returns false'. Refute it at one input. -/
def keptWrong : ChangeSpec := { name := "kept", fn := fun _ => fun
  | [d1, d2, d3, d4, d5] => { results := [.lit (.bool false)], args := [d1, d2, d3, d4, d5] }
  | _ => none }
def KeptWrongFalsely : Prop := keptRow.holds Try.pinned (OpenSpec.ofChange keptWrong)

/-- 'hoardkeep.Later': WHATEVER THE INPUT: true; the input reads as it did. -/
def laterSpec : ChangeSpec := { name := "later", fn := fun _ => fun
  | [d1, d2, d3, d4, d5] => { results := [.lit (.bool true)], args := [d1, d2, d3, d4, d5] }
  | _ => none }
def laterRow : OpenClaim := { program := "ytfpoiikhhjdpdaa", sum := "be73e3fcebe1239fd08c13d116334112347582552242097bf86253dfe9f8c184", func := "hoard/hoardkeep.Later", spec := "later", apart := false }
def LaterSaid : Prop := laterRow.holds Try.pinned (OpenSpec.ofChange laterSpec)

/-- ITS FALSE NEIGHBOUR: 'it returns false'. Refute it at one input. -/
def laterWrong : ChangeSpec := { name := "later", fn := fun _ => fun
  | [d1, d2, d3, d4, d5] => { results := [.lit (.bool false)], args := [d1, d2, d3, d4, d5] }
  | _ => none }
def LaterWrongFalsely : Prop := laterRow.holds Try.pinned (OpenSpec.ofChange laterWrong)

/-- 'hoardkeep.Merged': WHATEVER THE INPUT: true; the input reads as it did. -/
def mergedSpec : ChangeSpec := { name := "merged", fn := fun _ => fun
  | [d1, d2, d3, d4, d5, d6, d7] => { results := [.lit (.bool true)], args := [d1, d2, d3, d4, d5, d6, d7] }
  | _ => none }
def mergedRow : OpenClaim := { program := "ytfpoiikhhjdpdaa", sum := "be73e3fcebe1239fd08c13d116334112347582552242097bf86253dfe9f8c184", func := "hoard/hoardkeep.Merged", spec := "merged", apart := false }
def MergedSaid : Prop := mergedRow.holds Try.pinned (OpenSpec.ofChange mergedSpec)

/-- ITS FALSE NEIGHBOUR: 'it returns false'. Refute it at one input. -/
def mergedWrong : ChangeSpec := { name := "merged", fn := fun _ => fun
  | [d1, d2, d3, d4, d5, d6, d7] => { results := [.lit (.bool false)], args := [d1, d2, d3, d4, d5, d6, d7] }
  | _ => none }
def MergedWrongFalsely : Prop := mergedRow.holds Try.pinned (OpenSpec.ofChange mergedWrong)

/- THE SECOND FORM. 'bulk': how many values and letters a reading holds, each counted each time it is reached (what is shared counts as often as it is met; a slice's spare places count too). A statement '..UptoSaid' is the law's where the arguments, and the package variables that the reading takes, are together of bulk at most 1048576: NARROWER than '..Said'. Prove '..Said' where nothing that the law and all that it calls make is longer than what came in: it says more and counts as full. Else prove '..UptoSaid'. A law counts once. -/
mutual
def uptoBulk {H : Type} : DataW H → Nat
  | .lit (.string bytes) => bytes.length + 1
  | .lit _ => 1
  | .nil => 1
  | .ptr d => uptoBulk d + 1
  | .slice elems spare => uptoBulkAll elems + uptoBulkAll spare + 1
  | .agg parts => uptoBulkAll parts + 1
  | .iface _ d => uptoBulk d + 1
  | .map entries => uptoBulkEntries entries + 1
  | .held _ => 1
def uptoBulkAll {H : Type} : List (DataW H) → Nat
  | [] => 0
  | d :: r => uptoBulk d + uptoBulkAll r
def uptoBulkEntries {H : Type} : List (Lit × DataW H) → Nat
  | [] => 0
  | x :: r => uptoBulkEntry x + uptoBulkEntries r
def uptoBulkEntry {H : Type} : Lit × DataW H → Nat
  | (.string bytes, d) => bytes.length + uptoBulk d + 1
  | (_, d) => uptoBulk d + 1
 end
def uptoSmall : (H : Type) → List (DataW H) → Bool := fun _ ds => decide (uptoBulkAll ds ≤ 1048576)
def OpenSpec.upto (s : _root_.Go.ChangeSpec) : _root_.Go.OpenSpec := { _root_.Go.OpenSpec.ofChange s with cond := some uptoSmall }

/-- 'hoardkeep.Field', WHERE WHAT IT READS IS OF BULK AT MOST 1048576: true; the input reads as it did. -/
def fieldUptoRow : OpenClaim := { program := "ytfpoiikhhjdpdaa", sum := "be73e3fcebe1239fd08c13d116334112347582552242097bf86253dfe9f8c184", func := "hoard/hoardkeep.Field", spec := "field", apart := false, narrowed := true }
def FieldUptoSaid : Prop := fieldUptoRow.holds Try.pinned (OpenSpec.upto fieldSpec)

/-- 'hoardkeep.Lean', WHERE WHAT IT READS IS OF BULK AT MOST 1048576: true; the input reads as it did. -/
def leanUptoRow : OpenClaim := { program := "ytfpoiikhhjdpdaa", sum := "be73e3fcebe1239fd08c13d116334112347582552242097bf86253dfe9f8c184", func := "hoard/hoardkeep.Lean", spec := "lean", apart := false, narrowed := true }
def LeanUptoSaid : Prop := leanUptoRow.holds Try.pinned (OpenSpec.upto leanSpec)

/-- 'hoardkeep.Coded', WHERE WHAT IT READS IS OF BULK AT MOST 1048576: true; the input reads as it did. -/
def codedUptoRow : OpenClaim := { program := "ytfpoiikhhjdpdaa", sum := "be73e3fcebe1239fd08c13d116334112347582552242097bf86253dfe9f8c184", func := "hoard/hoardkeep.Coded", spec := "coded", apart := false, narrowed := true }
def CodedUptoSaid : Prop := codedUptoRow.holds Try.pinned (OpenSpec.upto codedSpec)

/-- 'hoardkeep.Kept', WHERE WHAT IT READS IS OF BULK AT MOST 1048576: true; the input reads as it did. -/
def keptUptoRow : OpenClaim := { program := "ytfpoiikhhjdpdaa", sum := "be73e3fcebe1239fd08c13d116334112347582552242097bf86253dfe9f8c184", func := "hoard/hoardkeep.Kept", spec := "kept", apart := false, narrowed := true }
def KeptUptoSaid : Prop := keptUptoRow.holds Try.pinned (OpenSpec.upto keptSpec)

/-- 'hoardkeep.Later', WHERE WHAT IT READS IS OF BULK AT MOST 1048576: true; the input reads as it did. -/
def laterUptoRow : OpenClaim := { program := "ytfpoiikhhjdpdaa", sum := "be73e3fcebe1239fd08c13d116334112347582552242097bf86253dfe9f8c184", func := "hoard/hoardkeep.Later", spec := "later", apart := false, narrowed := true }
def LaterUptoSaid : Prop := laterUptoRow.holds Try.pinned (OpenSpec.upto laterSpec)

/-- 'hoardkeep.Merged', WHERE WHAT IT READS IS OF BULK AT MOST 1048576: true; the input reads as it did. -/
def mergedUptoRow : OpenClaim := { program := "ytfpoiikhhjdpdaa", sum := "be73e3fcebe1239fd08c13d116334112347582552242097bf86253dfe9f8c184", func := "hoard/hoardkeep.Merged", spec := "merged", apart := false, narrowed := true }
def MergedUptoSaid : Prop := mergedUptoRow.holds Try.pinned (OpenSpec.upto mergedSpec)

end Rows
end Go.Proofs.Ytfpoiikhhjdpdaa
