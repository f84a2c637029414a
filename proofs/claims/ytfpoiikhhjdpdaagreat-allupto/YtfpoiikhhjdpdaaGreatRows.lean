/-
  No cell of these rows narrows 'for every input' (looked for: loops, veiled, ifaces, maps, wideKeys, modest, calm, conditions, laid).
  DERIVED. THE GIVEN ROWS OF THIS SEAT. 6 by the template 'for every input the law returns true; each argument reads behind the call as it read before'; 0 by the template 'total and deterministic' (their statements: YtfpoiikhhjdpdaaGreatTotals.lean).
  GIVEN WITH THE SEED: the statements are not yours to turn. If you find one false, say at which input.
  Laid BY PROGRAM, IN A SANDBOX (cutbox-rows.mjs): the forced cells as the released guide's own fill.sh prints them over the translation d4ea7ca14c6114c5… (all of the seat's roots in one cut). By AI agents, Wed Nov 11 2026. No macro, syntax, notation, axiom, sorry.
-/
import Derived.Test.YtfpoiikhhjdpdaaGreatChecked
import GoSem.Claim
import GoSem.ClaimJoined
import GoSem.ClaimMapViews
import Derived.JoinedTies
import Derived.KernelRfl
namespace Go.Proofs.YtfpoiikhhjdpdaaGreat
/- THE CELL 'sum', in the pinned program and in every row, IS THE sha256 OF THE DUMP (.gsa) THAT YtfpoiikhhjdpdaaGreatProg.lean LOADS. Nothing in Lean hashes anything: it is a label: what it is worth is what the hold of that sum in a sandbox is worth. -/
noncomputable def Tryz.pinned : Pinned := { name := "ytfpoiikhhjdpdaagreat", sum := "d4ea7ca14c6114c5b153472c8492f0fd3d12a634c72e99c57787acf8e8bf001a", checked := Tryz.checked }
namespace Rows
def none {H : Type} : Left H := { results := [], args := [] }

/-- 'hoardlaw.Fields': WHATEVER THE INPUT: true; the input reads as it did. -/
def fieldsSpec : ChangeSpec := { name := "fields", fn := fun _ => fun
  | [d] => { results := [.lit (.bool true)], args := [d] }
  | _ => none }
def fieldsRow : OpenClaim := { program := "ytfpoiikhhjdpdaagreat", sum := "d4ea7ca14c6114c5b153472c8492f0fd3d12a634c72e99c57787acf8e8bf001a", func := "hoard/hoardlaw.Fields", spec := "fields", apart := false }
def FieldsSaid : Prop := fieldsRow.holds Tryz.pinned (OpenSpec.ofChange fieldsSpec)

/-- ITS FALSE NEIGHBOUR: 'it returns false'. Refute it at one input. -/
def fieldsWrong : ChangeSpec := { name := "fields", fn := fun _ => fun
  | [d] => { results := [.lit (.bool false)], args := [d] }
  | _ => none }
def FieldsWrongFalsely : Prop := fieldsRow.holds Tryz.pinned (OpenSpec.ofChange fieldsWrong)

/-- 'hoardlaw.Writes': WHATEVER THE INPUT: true; the input reads as it did. -/
def writesSpec : ChangeSpec := { name := "writes", fn := fun _ => fun
  | [d] => { results := [.lit (.bool true)], args := [d] }
  | _ => none }
def writesRow : OpenClaim := { program := "ytfpoiikhhjdpdaagreat", sum := "d4ea7ca14c6114c5b153472c8492f0fd3d12a634c72e99c57787acf8e8bf001a", func := "hoard/hoardlaw.Writes", spec := "writes", apart := false }
def WritesSaid : Prop := writesRow.holds Tryz.pinned (OpenSpec.ofChange writesSpec)

/-- ITS FALSE NEIGHBOUR: 'it returns false'. Refute it at one input. -/
def writesWrong : ChangeSpec := { name := "writes", fn := fun _ => fun
  | [d] => { results := [.lit (.bool false)], args := [d] }
  | _ => none }
def WritesWrongFalsely : Prop := writesRow.holds Tryz.pinned (OpenSpec.ofChange writesWrong)

/-- 'hoardlaw.Losses': WHATEVER THE INPUT: true; the input reads as it did. -/
def lossesSpec : ChangeSpec := { name := "losses", fn := fun _ => fun
  | [d] => { results := [.lit (.bool true)], args := [d] }
  | _ => none }
def lossesRow : OpenClaim := { program := "ytfpoiikhhjdpdaagreat", sum := "d4ea7ca14c6114c5b153472c8492f0fd3d12a634c72e99c57787acf8e8bf001a", func := "hoard/hoardlaw.Losses", spec := "losses", apart := false }
def LossesSaid : Prop := lossesRow.holds Tryz.pinned (OpenSpec.ofChange lossesSpec)

/-- ITS FALSE NEIGHBOUR: 'it returns false'. Refute it at one input. -/
def lossesWrong : ChangeSpec := { name := "losses", fn := fun _ => fun
  | [d] => { results := [.lit (.bool false)], args := [d] }
  | _ => none }
def LossesWrongFalsely : Prop := lossesRow.holds Tryz.pinned (OpenSpec.ofChange lossesWrong)

/-- 'hoardlaw.Downs': WHATEVER THE INPUT: true; the input reads as it did. -/
def downsSpec : ChangeSpec := { name := "downs", fn := fun _ => fun
  | [d] => { results := [.lit (.bool true)], args := [d] }
  | _ => none }
def downsRow : OpenClaim := { program := "ytfpoiikhhjdpdaagreat", sum := "d4ea7ca14c6114c5b153472c8492f0fd3d12a634c72e99c57787acf8e8bf001a", func := "hoard/hoardlaw.Downs", spec := "downs", apart := false }
def DownsSaid : Prop := downsRow.holds Tryz.pinned (OpenSpec.ofChange downsSpec)

/-- ITS FALSE NEIGHBOUR: 'it returns false'. Refute it at one input. -/
def downsWrong : ChangeSpec := { name := "downs", fn := fun _ => fun
  | [d] => { results := [.lit (.bool false)], args := [d] }
  | _ => none }
def DownsWrongFalsely : Prop := downsRow.holds Tryz.pinned (OpenSpec.ofChange downsWrong)

/-- 'hoardlaw.Scrubs': WHATEVER THE INPUT: true; the input reads as it did. -/
def scrubsSpec : ChangeSpec := { name := "scrubs", fn := fun _ => fun
  | [d] => { results := [.lit (.bool true)], args := [d] }
  | _ => none }
def scrubsRow : OpenClaim := { program := "ytfpoiikhhjdpdaagreat", sum := "d4ea7ca14c6114c5b153472c8492f0fd3d12a634c72e99c57787acf8e8bf001a", func := "hoard/hoardlaw.Scrubs", spec := "scrubs", apart := false }
def ScrubsSaid : Prop := scrubsRow.holds Tryz.pinned (OpenSpec.ofChange scrubsSpec)

/-- ITS FALSE NEIGHBOUR: 'it returns false'. Refute it at one input. -/
def scrubsWrong : ChangeSpec := { name := "scrubs", fn := fun _ => fun
  | [d] => { results := [.lit (.bool false)], args := [d] }
  | _ => none }
def ScrubsWrongFalsely : Prop := scrubsRow.holds Tryz.pinned (OpenSpec.ofChange scrubsWrong)

/-- 'hoardlaw.All': WHATEVER THE INPUT: true; the input reads as it did. -/
def allSpec : ChangeSpec := { name := "all", fn := fun _ => fun
  | [d] => { results := [.lit (.bool true)], args := [d] }
  | _ => none }
def allRow : OpenClaim := { program := "ytfpoiikhhjdpdaagreat", sum := "d4ea7ca14c6114c5b153472c8492f0fd3d12a634c72e99c57787acf8e8bf001a", func := "hoard/hoardlaw.All", spec := "all", apart := false }
def AllSaid : Prop := allRow.holds Tryz.pinned (OpenSpec.ofChange allSpec)

/-- ITS FALSE NEIGHBOUR: 'it returns false'. Refute it at one input. -/
def allWrong : ChangeSpec := { name := "all", fn := fun _ => fun
  | [d] => { results := [.lit (.bool false)], args := [d] }
  | _ => none }
def AllWrongFalsely : Prop := allRow.holds Tryz.pinned (OpenSpec.ofChange allWrong)

/- THE SECOND FORM. 'bulk': how many values and letters a reading holds, each counted each time it is reached (what is shared counts as often as it is met; a slice's spare places count too). A statement '..UptoSaid' is the law's where the arguments, and the package variables that the reading takes, are together of bulk at most 1048576: NARROWER than '..Said'. Prove '..Said' where nothing that the law and all that it calls make is longer than what came in: it says more and counts as full. Else prove '..UptoSaid'. A law counts once. -/
mutual
def uptoBulk {H : Type} : DataW H → Nat
  | .lit (.string bytes) => bytes.length + 1
  | .lit _ => 1
  | .nil => 1
  | .ptr d => uptoBulk d + 1
  | .slice elems spare => uptoBulkAll elems + uptoBulkAll spare + 1
  | .agg parts => uptoBulkAll parts + 1
  | .iface _ d => uptoBulk d + 1
  | .map entries => uptoBulkEntries entries + 1
  | .held _ => 1
def uptoBulkAll {H : Type} : List (DataW H) → Nat
  | [] => 0
  | d :: r => uptoBulk d + uptoBulkAll r
def uptoBulkEntries {H : Type} : List (Lit × DataW H) → Nat
  | [] => 0
  | x :: r => uptoBulkEntry x + uptoBulkEntries r
def uptoBulkEntry {H : Type} : Lit × DataW H → Nat
  | (.string bytes, d) => bytes.length + uptoBulk d + 1
  | (_, d) => uptoBulk d + 1
 end
def uptoSmall : (H : Type) → List (DataW H) → Bool := fun _ ds => decide (uptoBulkAll ds ≤ 1048576)
def OpenSpec.upto (s : _root_.Go.ChangeSpec) : _root_.Go.OpenSpec := { _root_.Go.OpenSpec.ofChange s with cond := some uptoSmall }

/-- 'hoardlaw.Fields', WHERE WHAT IT READS IS OF BULK AT MOST 1048576: true; the input reads as it did. -/
def fieldsUptoRow : OpenClaim := { program := "ytfpoiikhhjdpdaagreat", sum := "d4ea7ca14c6114c5b153472c8492f0fd3d12a634c72e99c57787acf8e8bf001a", func := "hoard/hoardlaw.Fields", spec := "fields", apart := false, narrowed := true }
def FieldsUptoSaid : Prop := fieldsUptoRow.holds Tryz.pinned (OpenSpec.upto fieldsSpec)

/-- 'hoardlaw.Writes', WHERE WHAT IT READS IS OF BULK AT MOST 1048576: true; the input reads as it did. -/
def writesUptoRow : OpenClaim := { program := "ytfpoiikhhjdpdaagreat", sum := "d4ea7ca14c6114c5b153472c8492f0fd3d12a634c72e99c57787acf8e8bf001a", func := "hoard/hoardlaw.Writes", spec := "writes", apart := false, narrowed := true }
def WritesUptoSaid : Prop := writesUptoRow.holds Tryz.pinned (OpenSpec.upto writesSpec)

/-- 'hoardlaw.Losses', WHERE WHAT IT READS IS OF BULK AT MOST 1048576: true; the input reads as it did. -/
def lossesUptoRow : OpenClaim := { program := "ytfpoiikhhjdpdaagreat", sum := "d4ea7ca14c6114c5b153472c8492f0fd3d12a634c72e99c57787acf8e8bf001a", func := "hoard/hoardlaw.Losses", spec := "losses", apart := false, narrowed := true }
def LossesUptoSaid : Prop := lossesUptoRow.holds Tryz.pinned (OpenSpec.upto lossesSpec)

/-- 'hoardlaw.Downs', WHERE WHAT IT READS IS OF BULK AT MOST 1048576: true; the input reads as it did. -/
def downsUptoRow : OpenClaim := { program := "ytfpoiikhhjdpdaagreat", sum := "d4ea7ca14c6114c5b153472c8492f0fd3d12a634c72e99c57787acf8e8bf001a", func := "hoard/hoardlaw.Downs", spec := "downs", apart := false, narrowed := true }
def DownsUptoSaid : Prop := downsUptoRow.holds Tryz.pinned (OpenSpec.upto downsSpec)

/-- 'hoardlaw.Scrubs', WHERE WHAT IT READS IS OF BULK AT MOST 1048576: true; the input reads as it did. -/
def scrubsUptoRow : OpenClaim := { program := "ytfpoiikhhjdpdaagreat", sum := "d4ea7ca14c6114c5b153472c8492f0fd3d12a634c72e99c57787acf8e8bf001a", func := "hoard/hoardlaw.Scrubs", spec := "scrubs", apart := false, narrowed := true }
def ScrubsUptoSaid : Prop := scrubsUptoRow.holds Tryz.pinned (OpenSpec.upto scrubsSpec)

/-- 'hoardlaw.All', WHERE WHAT IT READS IS OF BULK AT MOST 1048576: true; the input reads as it did. -/
def allUptoRow : OpenClaim := { program := "ytfpoiikhhjdpdaagreat", sum := "d4ea7ca14c6114c5b153472c8492f0fd3d12a634c72e99c57787acf8e8bf001a", func := "hoard/hoardlaw.All", spec := "all", apart := false, narrowed := true }
def AllUptoSaid : Prop := allUptoRow.holds Tryz.pinned (OpenSpec.upto allSpec)

end Rows
end Go.Proofs.YtfpoiikhhjdpdaaGreat
