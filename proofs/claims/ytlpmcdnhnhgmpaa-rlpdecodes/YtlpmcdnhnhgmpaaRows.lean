/-
  NARROWER THAN 'FOR EVERY INPUT', by the rows' own cells (each row's printed sentence says how): RlpCut: loops · RlpRound: loops · RlpEncodes: loops.
  DERIVED. THE GIVEN ROWS OF THIS SEAT. 5 by the template 'for every input the law returns true; each argument reads behind the call as it read before'; 0 by the template 'total and deterministic' (their statements: YtlpmcdnhnhgmpaaTotals.lean).
  GIVEN WITH THE SEED: the statements are not yours to turn. If you find one false, say at which input.
  Laid BY PROGRAM, IN A SANDBOX (cutbox-rows.mjs): the forced cells as the released guide's own fill.sh prints them over the translation 4633e4781ecfce02… (all of the seat's roots in one cut). By AI agents, Wed Nov 11 2026. No macro, syntax, notation, axiom, sorry.
-/
import Derived.Test.YtlpmcdnhnhgmpaaChecked
import GoSem.Claim
import GoSem.ClaimJoined
import GoSem.ClaimMapViews
import Derived.JoinedTies
import Derived.KernelRfl
namespace Go.Proofs.Ytlpmcdnhnhgmpaa
/- THE CELL 'sum', in the pinned program and in every row, IS THE sha256 OF THE DUMP (.gsa) THAT YtlpmcdnhnhgmpaaProg.lean LOADS. Nothing in Lean hashes anything: it is a label: what it is worth is what the hold of that sum in a sandbox is worth. -/
noncomputable def Try.pinned : Pinned := { name := "ytlpmcdnhnhgmpaa", sum := "4633e4781ecfce02f2e5194a9d2ac5197a7312d9cb65b3f9f216642cdf487b24", checked := Try.checked }
namespace Rows
def none {H : Type} : Left H := { results := [], args := [] }

/-- 'cairnlaw05.RlpLimits': WHATEVER THE INPUT: true; the input reads as it did. -/
def rlpLimitsSpec : ChangeSpec := { name := "rlpLimits", fn := fun _ => fun
  | [] => { results := [.lit (.bool true)], args := [] }
  | _ => none }
def rlpLimitsRow : OpenClaim := { program := "ytlpmcdnhnhgmpaa", sum := "4633e4781ecfce02f2e5194a9d2ac5197a7312d9cb65b3f9f216642cdf487b24", func := "cairn/cairnlaw05.RlpLimits", spec := "rlpLimits", unfollowed := true, recurses := true, apart := false }
def RlpLimitsSaid : Prop := rlpLimitsRow.holds Try.pinned (OpenSpec.ofChange rlpLimitsSpec)

/-- ITS FALSE NEIGHBOUR: 'it returns false'. Refute it at one input. -/
def rlpLimitsWrong : ChangeSpec := { name := "rlpLimits", fn := fun _ => fun
  | [] => { results := [.lit (.bool false)], args := [] }
  | _ => none }
def RlpLimitsWrongFalsely : Prop := rlpLimitsRow.holds Try.pinned (OpenSpec.ofChange rlpLimitsWrong)

/-- 'cairnlaw05.RlpCut': WHATEVER THE INPUT: true; the input reads as it did. -/
def rlpCutSpec : ChangeSpec := { name := "rlpCut", fn := fun _ => fun
  | [d1, d2, d3] => { results := [.lit (.bool true)], args := [d1, d2, d3] }
  | _ => none }
def rlpCutRow : OpenClaim := { program := "ytlpmcdnhnhgmpaa", sum := "4633e4781ecfce02f2e5194a9d2ac5197a7312d9cb65b3f9f216642cdf487b24", func := "cairn/cairnlaw05.RlpCut", spec := "rlpCut", unfollowed := true, recurses := true, loops := true, apart := false }
def RlpCutSaid : Prop := rlpCutRow.holds Try.pinned (OpenSpec.ofChange rlpCutSpec)

/-- ITS FALSE NEIGHBOUR: 'it returns false'. Refute it at one input. -/
def rlpCutWrong : ChangeSpec := { name := "rlpCut", fn := fun _ => fun
  | [d1, d2, d3] => { results := [.lit (.bool false)], args := [d1, d2, d3] }
  | _ => none }
def RlpCutWrongFalsely : Prop := rlpCutRow.holds Try.pinned (OpenSpec.ofChange rlpCutWrong)

/-- 'cairnlaw05.RlpRound': WHATEVER THE INPUT: true; the input reads as it did. -/
def rlpRoundSpec : ChangeSpec := { name := "rlpRound", fn := fun _ => fun
  | [d1, d2] => { results := [.lit (.bool true)], args := [d1, d2] }
  | _ => none }
def rlpRoundRow : OpenClaim := { program := "ytlpmcdnhnhgmpaa", sum := "4633e4781ecfce02f2e5194a9d2ac5197a7312d9cb65b3f9f216642cdf487b24", func := "cairn/cairnlaw05.RlpRound", spec := "rlpRound", unfollowed := true, recurses := true, loops := true, apart := false }
def RlpRoundSaid : Prop := rlpRoundRow.holds Try.pinned (OpenSpec.ofChange rlpRoundSpec)

/-- ITS FALSE NEIGHBOUR: 'it returns false'. Refute it at one input. -/
def rlpRoundWrong : ChangeSpec := { name := "rlpRound", fn := fun _ => fun
  | [d1, d2] => { results := [.lit (.bool false)], args := [d1, d2] }
  | _ => none }
def RlpRoundWrongFalsely : Prop := rlpRoundRow.holds Try.pinned (OpenSpec.ofChange rlpRoundWrong)

/-- 'cairnlaw05.RlpDecodes': WHATEVER THE INPUT: true; the input reads as it did. -/
def rlpDecodesSpec : ChangeSpec := { name := "rlpDecodes", fn := fun _ => fun
  | [d] => { results := [.lit (.bool true)], args := [d] }
  | _ => none }
def rlpDecodesRow : OpenClaim := { program := "ytlpmcdnhnhgmpaa", sum := "4633e4781ecfce02f2e5194a9d2ac5197a7312d9cb65b3f9f216642cdf487b24", func := "cairn/cairnlaw05.RlpDecodes", spec := "rlpDecodes", unfollowed := true, recurses := true, apart := false }
def RlpDecodesSaid : Prop := rlpDecodesRow.holds Try.pinned (OpenSpec.ofChange rlpDecodesSpec)

/-- ITS FALSE NEIGHBOUR: 'it returns false'. Refute it at one input. -/
def rlpDecodesWrong : ChangeSpec := { name := "rlpDecodes", fn := fun _ => fun
  | [d] => { results := [.lit (.bool false)], args := [d] }
  | _ => none }
def RlpDecodesWrongFalsely : Prop := rlpDecodesRow.holds Try.pinned (OpenSpec.ofChange rlpDecodesWrong)

/-- 'cairnlaw05.RlpEncodes': WHATEVER THE INPUT: true; the input reads as it did. -/
def rlpEncodesSpec : ChangeSpec := { name := "rlpEncodes", fn := fun _ => fun
  | [d1, d2] => { results := [.lit (.bool true)], args := [d1, d2] }
  | _ => none }
def rlpEncodesRow : OpenClaim := { program := "ytlpmcdnhnhgmpaa", sum := "4633e4781ecfce02f2e5194a9d2ac5197a7312d9cb65b3f9f216642cdf487b24", func := "cairn/cairnlaw05.RlpEncodes", spec := "rlpEncodes", unfollowed := true, recurses := true, loops := true, apart := false }
def RlpEncodesSaid : Prop := rlpEncodesRow.holds Try.pinned (OpenSpec.ofChange rlpEncodesSpec)

/-- ITS FALSE NEIGHBOUR: 'it returns false'. Refute it at one input. -/
def rlpEncodesWrong : ChangeSpec := { name := "rlpEncodes", fn := fun _ => fun
  | [d1, d2] => { results := [.lit (.bool false)], args := [d1, d2] }
  | _ => none }
def RlpEncodesWrongFalsely : Prop := rlpEncodesRow.holds Try.pinned (OpenSpec.ofChange rlpEncodesWrong)

/- THE SECOND FORM. 'bulk': how many values and letters a reading holds, each counted each time it is reached (what is shared counts as often as it is met; a slice's spare places count too). A statement '..UptoSaid' is the law's where the arguments, and the package variables that the reading takes, are together of bulk at most 1048576: NARROWER than '..Said'. Prove '..Said' where nothing that the law and all that it calls make is longer than what came in: it says more and counts as full. Else prove '..UptoSaid'. A law counts once. -/
mutual
def uptoBulk {H : Type} : DataW H → Nat
  | .lit (.string bytes) => bytes.length + 1
  | .lit _ => 1
  | .nil => 1
  | .ptr d => uptoBulk d + 1
  | .slice elems spare => uptoBulkAll elems + uptoBulkAll spare + 1
  | .agg parts => uptoBulkAll parts + 1
  | .iface _ d => uptoBulk d + 1
  | .map entries => uptoBulkEntries entries + 1
  | .held _ => 1
def uptoBulkAll {H : Type} : List (DataW H) → Nat
  | [] => 0
  | d :: r => uptoBulk d + uptoBulkAll r
def uptoBulkEntries {H : Type} : List (Lit × DataW H) → Nat
  | [] => 0
  | x :: r => uptoBulkEntry x + uptoBulkEntries r
def uptoBulkEntry {H : Type} : Lit × DataW H → Nat
  | (.string bytes, d) => bytes.length + uptoBulk d + 1
  | (_, d) => uptoBulk d + 1
 end
def uptoSmall : (H : Type) → List (DataW H) → Bool := fun _ ds => decide (uptoBulkAll ds ≤ 1048576)
def OpenSpec.upto (s : _root_.Go.ChangeSpec) : _root_.Go.OpenSpec := { _root_.Go.OpenSpec.ofChange s with cond := some uptoSmall }

/-- 'cairnlaw05.RlpLimits', WHERE WHAT IT READS IS OF BULK AT MOST 1048576: true; the input reads as it did. -/
def rlpLimitsUptoRow : OpenClaim := { program := "ytlpmcdnhnhgmpaa", sum := "4633e4781ecfce02f2e5194a9d2ac5197a7312d9cb65b3f9f216642cdf487b24", func := "cairn/cairnlaw05.RlpLimits", spec := "rlpLimits", unfollowed := true, recurses := true, apart := false, narrowed := true }
def RlpLimitsUptoSaid : Prop := rlpLimitsUptoRow.holds Try.pinned (OpenSpec.upto rlpLimitsSpec)

/-- 'cairnlaw05.RlpCut', WHERE WHAT IT READS IS OF BULK AT MOST 1048576: true; the input reads as it did. -/
def rlpCutUptoRow : OpenClaim := { program := "ytlpmcdnhnhgmpaa", sum := "4633e4781ecfce02f2e5194a9d2ac5197a7312d9cb65b3f9f216642cdf487b24", func := "cairn/cairnlaw05.RlpCut", spec := "rlpCut", unfollowed := true, recurses := true, loops := true, apart := false, narrowed := true }
def RlpCutUptoSaid : Prop := rlpCutUptoRow.holds Try.pinned (OpenSpec.upto rlpCutSpec)

/-- 'cairnlaw05.RlpRound', WHERE WHAT IT READS IS OF BULK AT MOST 1048576: true; the input reads as it did. -/
def rlpRoundUptoRow : OpenClaim := { program := "ytlpmcdnhnhgmpaa", sum := "4633e4781ecfce02f2e5194a9d2ac5197a7312d9cb65b3f9f216642cdf487b24", func := "cairn/cairnlaw05.RlpRound", spec := "rlpRound", unfollowed := true, recurses := true, loops := true, apart := false, narrowed := true }
def RlpRoundUptoSaid : Prop := rlpRoundUptoRow.holds Try.pinned (OpenSpec.upto rlpRoundSpec)

/-- 'cairnlaw05.RlpDecodes', WHERE WHAT IT READS IS OF BULK AT MOST 1048576: true; the input reads as it did. -/
def rlpDecodesUptoRow : OpenClaim := { program := "ytlpmcdnhnhgmpaa", sum := "4633e4781ecfce02f2e5194a9d2ac5197a7312d9cb65b3f9f216642cdf487b24", func := "cairn/cairnlaw05.RlpDecodes", spec := "rlpDecodes", unfollowed := true, recurses := true, apart := false, narrowed := true }
def RlpDecodesUptoSaid : Prop := rlpDecodesUptoRow.holds Try.pinned (OpenSpec.upto rlpDecodesSpec)

/-- 'cairnlaw05.RlpEncodes', WHERE WHAT IT READS IS OF BULK AT MOST 1048576: true; the input reads as it did. -/
def rlpEncodesUptoRow : OpenClaim := { program := "ytlpmcdnhnhgmpaa", sum := "4633e4781ecfce02f2e5194a9d2ac5197a7312d9cb65b3f9f216642cdf487b24", func := "cairn/cairnlaw05.RlpEncodes", spec := "rlpEncodes", unfollowed := true, recurses := true, loops := true, apart := false, narrowed := true }
def RlpEncodesUptoSaid : Prop := rlpEncodesUptoRow.holds Try.pinned (OpenSpec.upto rlpEncodesSpec)

end Rows
end Go.Proofs.Ytlpmcdnhnhgmpaa
