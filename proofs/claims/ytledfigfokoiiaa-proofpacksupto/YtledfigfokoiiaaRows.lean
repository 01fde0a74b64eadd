/-
  No cell of these rows narrows 'for every input' (looked for: loops, veiled, ifaces, maps, wideKeys, modest, calm, conditions, laid).
  DERIVED. THE GIVEN ROWS OF THIS SEAT. 3 by the template 'for every input the law returns true; each argument reads behind the call as it read before'; 0 by the template 'total and deterministic' (their statements: YtledfigfokoiiaaTotals.lean).
  GIVEN WITH THE SEED: the statements are not yours to turn. If you find one false, say at which input.
  Laid BY PROGRAM, IN A SANDBOX (cutbox-rows.mjs): the forced cells as the released guide's own fill.sh prints them over the translation 9c8d3e8d374bfd79… (all of the seat's roots in one cut). By AI agents, Wed Nov 11 2026. No macro, syntax, notation, axiom, sorry.
-/
import Derived.Test.YtledfigfokoiiaaChecked
import GoSem.Claim
import GoSem.ClaimJoined
import GoSem.ClaimMapViews
import Derived.JoinedTies
import Derived.KernelRfl
namespace Go.Proofs.Ytledfigfokoiiaa
/- THE CELL 'sum', in the pinned program and in every row, IS THE sha256 OF THE DUMP (.gsa) THAT YtledfigfokoiiaaProg.lean LOADS. Nothing in Lean hashes anything: it is a label: what it is worth is what the hold of that sum in a sandbox is worth. -/
noncomputable def Try.pinned : Pinned := { name := "ytledfigfokoiiaa", sum := "9c8d3e8d374bfd7964d21b6451aced33fcd4da463e15d7222c52254c5de58b9e", checked := Try.checked }
namespace Rows
def none {H : Type} : Left H := { results := [], args := [] }

/-- 'cairnlaw15.ProofRound': WHATEVER THE INPUT: true; the input reads as it did. -/
def proofRoundSpec : ChangeSpec := { name := "proofRound", fn := fun _ => fun
  | [d1, d2] => { results := [.lit (.bool true)], args := [d1, d2] }
  | _ => none }
def proofRoundRow : OpenClaim := { program := "ytledfigfokoiiaa", sum := "9c8d3e8d374bfd7964d21b6451aced33fcd4da463e15d7222c52254c5de58b9e", func := "cairn/cairnlaw15.ProofRound", spec := "proofRound", unfollowed := true, recurses := true, apart := false }
def ProofRoundSaid : Prop := proofRoundRow.holds Try.pinned (OpenSpec.ofChange proofRoundSpec)

/-- ITS FALSE NEIGHBOUR: 'it returns false'. Refute it at one input. -/
def proofRoundWrong : ChangeSpec := { name := "proofRound", fn := fun _ => fun
  | [d1, d2] => { results := [.lit (.bool false)], args := [d1, d2] }
  | _ => none }
def ProofRoundWrongFalsely : Prop := proofRoundRow.holds Try.pinned (OpenSpec.ofChange proofRoundWrong)

/-- 'cairnlaw15.ProofPacks': WHATEVER THE INPUT: true; the input reads as it did. -/
def proofPacksSpec : ChangeSpec := { name := "proofPacks", fn := fun _ => fun
  | [d1, d2] => { results := [.lit (.bool true)], args := [d1, d2] }
  | _ => none }
def proofPacksRow : OpenClaim := { program := "ytledfigfokoiiaa", sum := "9c8d3e8d374bfd7964d21b6451aced33fcd4da463e15d7222c52254c5de58b9e", func := "cairn/cairnlaw15.ProofPacks", spec := "proofPacks", unfollowed := true, recurses := true, apart := false }
def ProofPacksSaid : Prop := proofPacksRow.holds Try.pinned (OpenSpec.ofChange proofPacksSpec)

/-- ITS FALSE NEIGHBOUR: 'it returns false'. Refute it at one input. -/
def proofPacksWrong : ChangeSpec := { name := "proofPacks", fn := fun _ => fun
  | [d1, d2] => { results := [.lit (.bool false)], args := [d1, d2] }
  | _ => none }
def ProofPacksWrongFalsely : Prop := proofPacksRow.holds Try.pinned (OpenSpec.ofChange proofPacksWrong)

/-- 'cairnlaw15.ProofUnpacks': WHATEVER THE INPUT: true; the input reads as it did. -/
def proofUnpacksSpec : ChangeSpec := { name := "proofUnpacks", fn := fun _ => fun
  | [d] => { results := [.lit (.bool true)], args := [d] }
  | _ => none }
def proofUnpacksRow : OpenClaim := { program := "ytledfigfokoiiaa", sum := "9c8d3e8d374bfd7964d21b6451aced33fcd4da463e15d7222c52254c5de58b9e", func := "cairn/cairnlaw15.ProofUnpacks", spec := "proofUnpacks", unfollowed := true, recurses := true, apart := false }
def ProofUnpacksSaid : Prop := proofUnpacksRow.holds Try.pinned (OpenSpec.ofChange proofUnpacksSpec)

/-- ITS FALSE NEIGHBOUR: 'it returns false'. Refute it at one input. -/
def proofUnpacksWrong : ChangeSpec := { name := "proofUnpacks", fn := fun _ => fun
  | [d] => { results := [.lit (.bool false)], args := [d] }
  | _ => none }
def ProofUnpacksWrongFalsely : Prop := proofUnpacksRow.holds Try.pinned (OpenSpec.ofChange proofUnpacksWrong)

/- THE SECOND FORM. 'bulk': how many values and letters a reading holds, each counted each time it is reached (what is shared counts as often as it is met; a slice's spare places count too). A statement '..UptoSaid' is the law's where the arguments, and the package variables that the reading takes, are together of bulk at most 1048576: NARROWER than '..Said'. Prove '..Said' where nothing that the law and all that it calls make is longer than what came in: it says more and counts as full. Else prove '..UptoSaid'. A law counts once. -/
mutual
def uptoBulk {H : Type} : DataW H → Nat
  | .lit (.string bytes) => bytes.length + 1
  | .lit _ => 1
  | .nil => 1
  | .ptr d => uptoBulk d + 1
  | .slice elems spare => uptoBulkAll elems + uptoBulkAll spare + 1
  | .agg parts => uptoBulkAll parts + 1
  | .iface _ d => uptoBulk d + 1
  | .map entries => uptoBulkEntries entries + 1
  | .held _ => 1
def uptoBulkAll {H : Type} : List (DataW H) → Nat
  | [] => 0
  | d :: r => uptoBulk d + uptoBulkAll r
def uptoBulkEntries {H : Type} : List (Lit × DataW H) → Nat
  | [] => 0
  | x :: r => uptoBulkEntry x + uptoBulkEntries r
def uptoBulkEntry {H : Type} : Lit × DataW H → Nat
  | (.string bytes, d) => bytes.length + uptoBulk d + 1
  | (_, d) => uptoBulk d + 1
 end
def uptoSmall : (H : Type) → List (DataW H) → Bool := fun _ ds => decide (uptoBulkAll ds ≤ 1048576)
def OpenSpec.upto (s : _root_.Go.ChangeSpec) : _root_.Go.OpenSpec := { _root_.Go.OpenSpec.ofChange s with cond := some uptoSmall }

/-- 'cairnlaw15.ProofRound', WHERE WHAT IT READS IS OF BULK AT MOST 1048576: true; the input reads as it did. -/
def proofRoundUptoRow : OpenClaim := { program := "ytledfigfokoiiaa", sum := "9c8d3e8d374bfd7964d21b6451aced33fcd4da463e15d7222c52254c5de58b9e", func := "cairn/cairnlaw15.ProofRound", spec := "proofRound", unfollowed := true, recurses := true, apart := false, narrowed := true }
def ProofRoundUptoSaid : Prop := proofRoundUptoRow.holds Try.pinned (OpenSpec.upto proofRoundSpec)

/-- 'cairnlaw15.ProofPacks', WHERE WHAT IT READS IS OF BULK AT MOST 1048576: true; the input reads as it did. -/
def proofPacksUptoRow : OpenClaim := { program := "ytledfigfokoiiaa", sum := "9c8d3e8d374bfd7964d21b6451aced33fcd4da463e15d7222c52254c5de58b9e", func := "cairn/cairnlaw15.ProofPacks", spec := "proofPacks", unfollowed := true, recurses := true, apart := false, narrowed := true }
def ProofPacksUptoSaid : Prop := proofPacksUptoRow.holds Try.pinned (OpenSpec.upto proofPacksSpec)

/-- 'cairnlaw15.ProofUnpacks', WHERE WHAT IT READS IS OF BULK AT MOST 1048576: true; the input reads as it did. -/
def proofUnpacksUptoRow : OpenClaim := { program := "ytledfigfokoiiaa", sum := "9c8d3e8d374bfd7964d21b6451aced33fcd4da463e15d7222c52254c5de58b9e", func := "cairn/cairnlaw15.ProofUnpacks", spec := "proofUnpacks", unfollowed := true, recurses := true, apart := false, narrowed := true }
def ProofUnpacksUptoSaid : Prop := proofUnpacksUptoRow.holds Try.pinned (OpenSpec.upto proofUnpacksSpec)

end Rows
end Go.Proofs.Ytledfigfokoiiaa
