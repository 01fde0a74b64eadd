/-
  NodeRound: the law.
-/
import Derived.Test.YtmblfmcckejlmaaRn1
import Derived.Test.YtmblfmcckejlmaaRn2
import Derived.Test.YtmblfmcckejlmaaRn3
namespace Go.Proofs.Ytmblfmcckejlmaa
open Go.RowKit

theorem nround_any (w : World) (n : Nd) (u : Nv) (h : Nin w n u) (o : Nd) (t : Nv) (h' : Nin w o t) (v : Value) (s : List Nat) (hs : Vb w v s) : Calls Try.prog 4 #[.agg (nc n u).toArray, .agg (nc o t).toArray, v] w fun e w' => e = .returned (.bool true) ∧ Below w.heap.size w w' := by
  cases hm : mayN KD n with
  | false =>
    cases hd : decN KD s with
    | none => exact rnd_no1 w n u h o t h' v s hs hm hd
    | some q => exact rnd_no2 w n u h o t h' v s hs hm hd
  | true =>
    cases hm2 : mayN KD o with
    | false =>
      cases hd : decN KD s with
      | none => exact rnd_yn1 w n u h o t h' v s hs hm hm2 hd
      | some q => exact rnd_yn2 w n u h o t h' v s hs hm hm2 hd
    | true =>
      cases hd : decN KD s with
      | none => exact rnd_yy1 w n u h o t h' v s hs hm hm2 hd
      | some q => exact rnd_yy2 w n u h o t h' v s hs hm hm2 hd
end Go.Proofs.Ytmblfmcckejlmaa
