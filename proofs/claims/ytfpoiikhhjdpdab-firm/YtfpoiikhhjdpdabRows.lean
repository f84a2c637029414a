/-
  No cell of these rows narrows 'for every input' (looked for: loops, veiled, ifaces, maps, wideKeys, modest, calm, conditions, laid).
  DERIVED. THE GIVEN ROWS OF THIS SEAT. 5 by the template 'for every input the law returns true; each argument reads behind the call as it read before'; 0 by the template 'total and deterministic' (their statements: YtfpoiikhhjdpdabTotals.lean).
  GIVEN WITH THE SEED: the statements are not yours to turn. If you find one false, say at which input.
  Laid BY PROGRAM, IN A SANDBOX (cutbox-rows.mjs): the forced cells as the released guide's own fill.sh prints them over the translation ebc5a0d4622162d1… (all of the seat's roots in one cut). By AI agents, Wed Nov 11 2026. No macro, syntax, notation, axiom, sorry.
-/
import Derived.Test.YtfpoiikhhjdpdabChecked
import GoSem.Claim
import GoSem.ClaimJoined
import GoSem.ClaimMapViews
import Derived.JoinedTies
import Derived.KernelRfl
namespace Go.Proofs.Ytfpoiikhhjdpdab
/- THE CELL 'sum', in the pinned program and in every row, IS THE sha256 OF THE DUMP (.gsa) THAT YtfpoiikhhjdpdabProg.lean LOADS. Nothing in Lean hashes anything: it is a label: what it is worth is what the hold of that sum in a sandbox is worth. -/
noncomputable def Try.pinned : Pinned := { name := "ytfpoiikhhjdpdab", sum := "ebc5a0d4622162d1fc670a8af4e3e1cfb0e2fa0a8643de6819129f333e22710c", checked := Try.checked }
namespace Rows
def none {H : Type} : Left H := { results := [], args := [] }

/-- 'hoardkeep.Returned': WHATEVER THE INPUT: true; the input reads as it did. -/
def returnedSpec : ChangeSpec := { name := "returned", fn := fun _ => fun
  | [d1, d2, d3, d4, d5, d6, d7] => { results := [.lit (.bool true)], args := [d1, d2, d3, d4, d5, d6, d7] }
  | _ => none }
def returnedRow : OpenClaim := { program := "ytfpoiikhhjdpdab", sum := "ebc5a0d4622162d1fc670a8af4e3e1cfb0e2fa0a8643de6819129f333e22710c", func := "hoard/hoardkeep.Returned", spec := "returned", apart := false }
def ReturnedSaid : Prop := returnedRow.holds Try.pinned (OpenSpec.ofChange returnedSpec)

/-- ITS FALSE NEIGHBOUR: 'it returns false'. Refute it at one input. -/
def returnedWrong : ChangeSpec := { name := "returned", fn := fun _ => fun
  | [d1, d2, d3, d4, d5, d6, d7] => { results := [.lit (.bool false)], args := [d1, d2, d3, d4, d5, d6, d7] }
  | _ => none }
def ReturnedWrongFalsely : Prop := returnedRow.holds Try.pinned (OpenSpec.ofChange returnedWrong)

/-- 'hoardkeep.Beyond': WHATEVER THE INPUT: true; the input reads as it did. -/
def beyondSpec : ChangeSpec := { name := "beyond", fn := fun _ => fun
  | [d1, d2, d3, d4, d5, d6] => { results := [.lit (.bool true)], args := [d1, d2, d3, d4, d5, d6] }
  | _ => none }
def beyondRow : OpenClaim := { program := "ytfpoiikhhjdpdab", sum := "ebc5a0d4622162d1fc670a8af4e3e1cfb0e2fa0a8643de6819129f333e22710c", func := "hoard/hoardkeep.Beyond", spec := "beyond", apart := false }
def BeyondSaid : Prop := beyondRow.holds Try.pinned (OpenSpec.ofChange beyondSpec)

/-- ITS FALSE NEIGHBOUR: 'it returns false'. Refute it at one input. -/
def beyondWrong : ChangeSpec := { name := "beyond", fn := fun _ => fun
  | [d1, d2, d3, d4, d5, d6] => { results := [.lit (.bool false)], args := [d1, d2, d3, d4, d5, d6] }
  | _ => none }
def BeyondWrongFalsely : Prop := beyondRow.holds Try.pinned (OpenSpec.ofChange beyondWrong)

/-- 'hoardkeep.Downed': WHATEVER THE INPUT: true; the input reads as it did. -/
def downedSpec : ChangeSpec := { name := "downed", fn := fun _ => fun
  | [d1, d2, d3, d4, d5, d6, d7, d8] => { results := [.lit (.bool true)], args := [d1, d2, d3, d4, d5, d6, d7, d8] }
  | _ => none }
def downedRow : OpenClaim := { program := "ytfpoiikhhjdpdab", sum := "ebc5a0d4622162d1fc670a8af4e3e1cfb0e2fa0a8643de6819129f333e22710c", func := "hoard/hoardkeep.Downed", spec := "downed", apart := false }
def DownedSaid : Prop := downedRow.holds Try.pinned (OpenSpec.ofChange downedSpec)

/-- ITS FALSE NEIGHBOUR: 'it returns false'. Refute it at one input. -/
def downedWrong : ChangeSpec := { name := "downed", fn := fun _ => fun
  | [d1, d2, d3, d4, d5, d6, d7, d8] => { results := [.lit (.bool false)], args := [d1, d2, d3, d4, d5, d6, d7, d8] }
  | _ => none }
def DownedWrongFalsely : Prop := downedRow.holds Try.pinned (OpenSpec.ofChange downedWrong)

/-- 'hoardkeep.Healed': WHATEVER THE INPUT: true; the input reads as it did. -/
def healedSpec : ChangeSpec := { name := "healed", fn := fun _ => fun
  | [d1, d2, d3, d4, d5, d6, d7, d8] => { results := [.lit (.bool true)], args := [d1, d2, d3, d4, d5, d6, d7, d8] }
  | _ => none }
def healedRow : OpenClaim := { program := "ytfpoiikhhjdpdab", sum := "ebc5a0d4622162d1fc670a8af4e3e1cfb0e2fa0a8643de6819129f333e22710c", func := "hoard/hoardkeep.Healed", spec := "healed", apart := false }
def HealedSaid : Prop := healedRow.holds Try.pinned (OpenSpec.ofChange healedSpec)

/-- ITS FALSE NEIGHBOUR: 'it returns false'. Refute it at one input. -/
def healedWrong : ChangeSpec := { name := "healed", fn := fun _ => fun
  | [d1, d2, d3, d4, d5, d6, d7, d8] => { results := [.lit (.bool false)], args := [d1, d2, d3, d4, d5, d6, d7, d8] }
  | _ => none }
def HealedWrongFalsely : Prop := healedRow.holds Try.pinned (OpenSpec.ofChange healedWrong)

/-- 'hoardkeep.Firm': WHATEVER THE INPUT: true; the input reads as it did. -/
def firmSpec : ChangeSpec := { name := "firm", fn := fun _ => fun
  | [d1, d2, d3, d4, d5, d6] => { results := [.lit (.bool true)], args := [d1, d2, d3, d4, d5, d6] }
  | _ => none }
def firmRow : OpenClaim := { program := "ytfpoiikhhjdpdab", sum := "ebc5a0d4622162d1fc670a8af4e3e1cfb0e2fa0a8643de6819129f333e22710c", func := "hoard/hoardkeep.Firm", spec := "firm", apart := false }
def FirmSaid : Prop := firmRow.holds Try.pinned (OpenSpec.ofChange firmSpec)

/-- ITS FALSE NEIGHBOUR: 'it returns false'. Refute it at one input. -/
def firmWrong : ChangeSpec := { name := "firm", fn := fun _ => fun
  | [d1, d2, d3, d4, d5, d6] => { results := [.lit (.bool false)], args := [d1, d2, d3, d4, d5, d6] }
  | _ => none }
def FirmWrongFalsely : Prop := firmRow.holds Try.pinned (OpenSpec.ofChange firmWrong)

/- THE SECOND FORM. 'bulk': how many values and letters a reading holds, each counted each time it is reached (what is shared counts as often as it is met; a slice's spare places count too). A statement '..UptoSaid' is the law's where the arguments, and the package variables that the reading takes, are together of bulk at most 1048576: NARROWER than '..Said'. Prove '..Said' where nothing that the law and all that it calls make is longer than what came in: it says more and counts as full. Else prove '..UptoSaid'. A law counts once. -/
mutual
def uptoBulk {H : Type} : DataW H → Nat
  | .lit (.string bytes) => bytes.length + 1
  | .lit _ => 1
  | .nil => 1
  | .ptr d => uptoBulk d + 1
  | .slice elems spare => uptoBulkAll elems + uptoBulkAll spare + 1
  | .agg parts => uptoBulkAll parts + 1
  | .iface _ d => uptoBulk d + 1
  | .map entries => uptoBulkEntries entries + 1
  | .held _ => 1
def uptoBulkAll {H : Type} : List (DataW H) → Nat
  | [] => 0
  | d :: r => uptoBulk d + uptoBulkAll r
def uptoBulkEntries {H : Type} : List (Lit × DataW H) → Nat
  | [] => 0
  | x :: r => uptoBulkEntry x + uptoBulkEntries r
def uptoBulkEntry {H : Type} : Lit × DataW H → Nat
  | (.string bytes, d) => bytes.length + uptoBulk d + 1
  | (_, d) => uptoBulk d + 1
 end
def uptoSmall : (H : Type) → List (DataW H) → Bool := fun _ ds => decide (uptoBulkAll ds ≤ 1048576)
def OpenSpec.upto (s : _root_.Go.ChangeSpec) : _root_.Go.OpenSpec := { _root_.Go.OpenSpec.ofChange s with cond := some uptoSmall }

/-- 'hoardkeep.Returned', WHERE WHAT IT READS IS OF BULK AT MOST 1048576: true; the input reads as it did. -/
def returnedUptoRow : OpenClaim := { program := "ytfpoiikhhjdpdab", sum := "ebc5a0d4622162d1fc670a8af4e3e1cfb0e2fa0a8643de6819129f333e22710c", func := "hoard/hoardkeep.Returned", spec := "returned", apart := false, narrowed := true }
def ReturnedUptoSaid : Prop := returnedUptoRow.holds Try.pinned (OpenSpec.upto returnedSpec)

/-- 'hoardkeep.Beyond', WHERE WHAT IT READS IS OF BULK AT MOST 1048576: true; the input reads as it did. -/
def beyondUptoRow : OpenClaim := { program := "ytfpoiikhhjdpdab", sum := "ebc5a0d4622162d1fc670a8af4e3e1cfb0e2fa0a8643de6819129f333e22710c", func := "hoard/hoardkeep.Beyond", spec := "beyond", apart := false, narrowed := true }
def BeyondUptoSaid : Prop := beyondUptoRow.holds Try.pinned (OpenSpec.upto beyondSpec)

/-- 'hoardkeep.Downed', WHERE WHAT IT READS IS OF BULK AT MOST 1048576: true; the input reads as it did. -/
def downedUptoRow : OpenClaim := { program := "ytfpoiikhhjdpdab", sum := "ebc5a0d4622162d1fc670a8af4e3e1cfb0e2fa0a8643de6819129f333e22710c", func := "hoard/hoardkeep.Downed", spec := "downed", apart := false, narrowed := true }
def DownedUptoSaid : Prop := downedUptoRow.holds Try.pinned (OpenSpec.upto downedSpec)

/-- 'hoardkeep.Healed', WHERE WHAT IT READS IS OF BULK AT MOST 1048576: true; the input reads as it did. -/
def healedUptoRow : OpenClaim := { program := "ytfpoiikhhjdpdab", sum := "ebc5a0d4622162d1fc670a8af4e3e1cfb0e2fa0a8643de6819129f333e22710c", func := "hoard/hoardkeep.Healed", spec := "healed", apart := false, narrowed := true }
def HealedUptoSaid : Prop := healedUptoRow.holds Try.pinned (OpenSpec.upto healedSpec)

/-- 'hoardkeep.Firm', WHERE WHAT IT READS IS OF BULK AT MOST 1048576: true; the input reads as it did. -/
def firmUptoRow : OpenClaim := { program := "ytfpoiikhhjdpdab", sum := "ebc5a0d4622162d1fc670a8af4e3e1cfb0e2fa0a8643de6819129f333e22710c", func := "hoard/hoardkeep.Firm", spec := "firm", apart := false, narrowed := true }
def FirmUptoSaid : Prop := firmUptoRow.holds Try.pinned (OpenSpec.upto firmSpec)

end Rows
end Go.Proofs.Ytfpoiikhhjdpdab
