import Derived.Test.YtdigimobicfabaaGreatDoorHkzz
/-
  errors.As, where the error's own type is the target's, at a stroke: a hook for the evaluator.
-/
namespace Go.Ev
open Go
/-- Is it this handle of a type? -/
def isHnd (rt gb te : Nat) (o : Option (List Value)) : Bool := match o with
  | some [.iface r (.agg ⟨[.pointer (some ⟨b, o, none⟩)]⟩)] => Nat.beq r rt && Nat.beq b gb && Nat.beq o te
  | _ => false
def asOut (o : Option St) : Rv := match o with
  | some s => .ok (.bool true) s
  | none => .no
/-- errors.As(a struct of one number, a pointer to such a one). -/
def asH (G rt gb te tf tp : Nat) (args : List Value) (s : St) : Rv := match args with
  | [.iface t (.agg ⟨[.int k n]⟩), .iface u (.pointer (some ⟨b, o, none⟩))] => cond (Nat.beq t tf && Nat.beq u tp && isHnd rt gb te (readAt s G 0 1)) (asOut (writeAt s b o [.int k n])) .no
  | _ => .no
end Go.Ev
