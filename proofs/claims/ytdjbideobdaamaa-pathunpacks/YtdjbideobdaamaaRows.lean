/-
  No cell of these rows narrows 'for every input' (looked for: loops, veiled, ifaces, maps, wideKeys, modest, calm, conditions, laid).
  DERIVED. THE GIVEN ROWS OF THIS SEAT. 3 by the template 'for every input the law returns true; each argument reads behind the call as it read before'; 0 by the template 'total and deterministic' (their statements: YtdjbideobdaamaaTotals.lean).
  GIVEN WITH THE SEED: the statements are not yours to turn. If you find one false, say at which input.
  Laid BY PROGRAM, IN A SANDBOX (cutbox-rows.mjs): the forced cells as the released guide's own fill.sh prints them over the translation 6ff50d34df88662c… (all of the seat's roots in one cut). By AI agents, Wed Nov 11 2026. No macro, syntax, notation, axiom, sorry.
-/
import Derived.Test.YtdjbideobdaamaaChecked
import GoSem.Claim
import GoSem.ClaimJoined
import GoSem.ClaimMapViews
import Derived.JoinedTies
import Derived.KernelRfl
namespace Go.Proofs.Ytdjbideobdaamaa
/- THE CELL 'sum', in the pinned program and in every row, IS THE sha256 OF THE DUMP (.gsa) THAT YtdjbideobdaamaaProg.lean LOADS. Nothing in Lean hashes anything: it is a label: what it is worth is what the hold of that sum in a sandbox is worth. -/
noncomputable def Try.pinned : Pinned := { name := "ytdjbideobdaamaa", sum := "6ff50d34df88662cf2e10e5c930eed87d8b9e9042ed9dd36965f6cde699ec080", checked := Try.checked }
namespace Rows
def none {H : Type} : Left H := { results := [], args := [] }

/-- 'cairnlaw06.PathBack': WHATEVER THE INPUT: true; the input reads as it did. -/
def pathBackSpec : ChangeSpec := { name := "pathBack", fn := fun _ => fun
  | [d1, d2] => { results := [.lit (.bool true)], args := [d1, d2] }
  | _ => none }
def pathBackRow : OpenClaim := { program := "ytdjbideobdaamaa", sum := "6ff50d34df88662cf2e10e5c930eed87d8b9e9042ed9dd36965f6cde699ec080", func := "cairn/cairnlaw06.PathBack", spec := "pathBack", apart := false }
def PathBackSaid : Prop := pathBackRow.holds Try.pinned (OpenSpec.ofChange pathBackSpec)

/-- ITS FALSE NEIGHBOUR: 'it returns false'. Refute it at one input. -/
def pathBackWrong : ChangeSpec := { name := "pathBack", fn := fun _ => fun
  | [d1, d2] => { results := [.lit (.bool false)], args := [d1, d2] }
  | _ => none }
def PathBackWrongFalsely : Prop := pathBackRow.holds Try.pinned (OpenSpec.ofChange pathBackWrong)

/-- 'cairnlaw06.PathPacks': WHATEVER THE INPUT: true; the input reads as it did. -/
def pathPacksSpec : ChangeSpec := { name := "pathPacks", fn := fun _ => fun
  | [d1, d2] => { results := [.lit (.bool true)], args := [d1, d2] }
  | _ => none }
def pathPacksRow : OpenClaim := { program := "ytdjbideobdaamaa", sum := "6ff50d34df88662cf2e10e5c930eed87d8b9e9042ed9dd36965f6cde699ec080", func := "cairn/cairnlaw06.PathPacks", spec := "pathPacks", apart := false }
def PathPacksSaid : Prop := pathPacksRow.holds Try.pinned (OpenSpec.ofChange pathPacksSpec)

/-- ITS FALSE NEIGHBOUR: 'it returns false'. Refute it at one input. -/
def pathPacksWrong : ChangeSpec := { name := "pathPacks", fn := fun _ => fun
  | [d1, d2] => { results := [.lit (.bool false)], args := [d1, d2] }
  | _ => none }
def PathPacksWrongFalsely : Prop := pathPacksRow.holds Try.pinned (OpenSpec.ofChange pathPacksWrong)

/-- 'cairnlaw06.PathUnpacks': WHATEVER THE INPUT: true; the input reads as it did. -/
def pathUnpacksSpec : ChangeSpec := { name := "pathUnpacks", fn := fun _ => fun
  | [d] => { results := [.lit (.bool true)], args := [d] }
  | _ => none }
def pathUnpacksRow : OpenClaim := { program := "ytdjbideobdaamaa", sum := "6ff50d34df88662cf2e10e5c930eed87d8b9e9042ed9dd36965f6cde699ec080", func := "cairn/cairnlaw06.PathUnpacks", spec := "pathUnpacks", apart := false }
def PathUnpacksSaid : Prop := pathUnpacksRow.holds Try.pinned (OpenSpec.ofChange pathUnpacksSpec)

/-- ITS FALSE NEIGHBOUR: 'it returns false'. Refute it at one input. -/
def pathUnpacksWrong : ChangeSpec := { name := "pathUnpacks", fn := fun _ => fun
  | [d] => { results := [.lit (.bool false)], args := [d] }
  | _ => none }
def PathUnpacksWrongFalsely : Prop := pathUnpacksRow.holds Try.pinned (OpenSpec.ofChange pathUnpacksWrong)

/- THE SECOND FORM. 'bulk': how many values and letters a reading holds, each counted each time it is reached (what is shared counts as often as it is met; a slice's spare places count too). A statement '..UptoSaid' is the law's where the arguments, and the package variables that the reading takes, are together of bulk at most 1048576: NARROWER than '..Said'. Prove '..Said' where nothing that the law and all that it calls make is longer than what came in: it says more and counts as full. Else prove '..UptoSaid'. A law counts once. -/
mutual
def uptoBulk {H : Type} : DataW H → Nat
  | .lit (.string bytes) => bytes.length + 1
  | .lit _ => 1
  | .nil => 1
  | .ptr d => uptoBulk d + 1
  | .slice elems spare => uptoBulkAll elems + uptoBulkAll spare + 1
  | .agg parts => uptoBulkAll parts + 1
  | .iface _ d => uptoBulk d + 1
  | .map entries => uptoBulkEntries entries + 1
  | .held _ => 1
def uptoBulkAll {H : Type} : List (DataW H) → Nat
  | [] => 0
  | d :: r => uptoBulk d + uptoBulkAll r
def uptoBulkEntries {H : Type} : List (Lit × DataW H) → Nat
  | [] => 0
  | x :: r => uptoBulkEntry x + uptoBulkEntries r
def uptoBulkEntry {H : Type} : Lit × DataW H → Nat
  | (.string bytes, d) => bytes.length + uptoBulk d + 1
  | (_, d) => uptoBulk d + 1
 end
def uptoSmall : (H : Type) → List (DataW H) → Bool := fun _ ds => decide (uptoBulkAll ds ≤ 1048576)
def OpenSpec.upto (s : _root_.Go.ChangeSpec) : _root_.Go.OpenSpec := { _root_.Go.OpenSpec.ofChange s with cond := some uptoSmall }

/-- 'cairnlaw06.PathBack', WHERE WHAT IT READS IS OF BULK AT MOST 1048576: true; the input reads as it did. -/
def pathBackUptoRow : OpenClaim := { program := "ytdjbideobdaamaa", sum := "6ff50d34df88662cf2e10e5c930eed87d8b9e9042ed9dd36965f6cde699ec080", func := "cairn/cairnlaw06.PathBack", spec := "pathBack", apart := false, narrowed := true }
def PathBackUptoSaid : Prop := pathBackUptoRow.holds Try.pinned (OpenSpec.upto pathBackSpec)

/-- 'cairnlaw06.PathPacks', WHERE WHAT IT READS IS OF BULK AT MOST 1048576: true; the input reads as it did. -/
def pathPacksUptoRow : OpenClaim := { program := "ytdjbideobdaamaa", sum := "6ff50d34df88662cf2e10e5c930eed87d8b9e9042ed9dd36965f6cde699ec080", func := "cairn/cairnlaw06.PathPacks", spec := "pathPacks", apart := false, narrowed := true }
def PathPacksUptoSaid : Prop := pathPacksUptoRow.holds Try.pinned (OpenSpec.upto pathPacksSpec)

/-- 'cairnlaw06.PathUnpacks', WHERE WHAT IT READS IS OF BULK AT MOST 1048576: true; the input reads as it did. -/
def pathUnpacksUptoRow : OpenClaim := { program := "ytdjbideobdaamaa", sum := "6ff50d34df88662cf2e10e5c930eed87d8b9e9042ed9dd36965f6cde699ec080", func := "cairn/cairnlaw06.PathUnpacks", spec := "pathUnpacks", apart := false, narrowed := true }
def PathUnpacksUptoSaid : Prop := pathUnpacksUptoRow.holds Try.pinned (OpenSpec.upto pathUnpacksSpec)

end Rows
end Go.Proofs.Ytdjbideobdaamaa
