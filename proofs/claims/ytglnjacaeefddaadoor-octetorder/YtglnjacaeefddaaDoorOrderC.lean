import Derived.Test.YtglnjacaeefddaaDoorOrderW
namespace Go.Proofs.YtglnjacaeefddaaDoor
open Go.RowKit

/-- WHAT THE WALKS LEAN ON: the calls of the law, at every world that keeps what was there. -/
structure OrderCalls (w : World) (a b c : Option Addr) (n ca m cb l cc : Nat) (A B : Nat → Int) (ab ao bb bo K : Nat) (x y z : Int) : Prop where
  tab : Tab w
  kab : ∀ w', Below w.heap.size w w' → Calls Tryd.prog 12 #[.slice a n ca, .slice b m cb] w' fun e w'' => e = .returned (.int .i64 x) ∧ ∃ q, w'' = w'.drewN q
  kbc : ∀ w', Below w.heap.size w w' → Calls Tryd.prog 12 #[.slice b m cb, .slice c l cc] w' fun e w'' => e = .returned (.int .i64 y) ∧ ∃ q, w'' = w'.drewN q
  kac : ∀ w', Below w.heap.size w w' → Calls Tryd.prog 12 #[.slice a n ca, .slice c l cc] w' fun e w'' => e = .returned (.int .i64 z) ∧ ∃ q, w'' = w'.drewN q
  kba : ∀ w', Below w.heap.size w w' → Calls Tryd.prog 12 #[.slice b m cb, .slice a n ca] w' fun e w'' => e = .returned (.int .i64 (-x)) ∧ ∃ q, w'' = w'.drewN q
  kaa : ∀ w', Below w.heap.size w w' → Calls Tryd.prog 12 #[.slice a n ca, .slice a n ca] w' fun e w'' => e = .returned (.int .i64 0) ∧ ∃ q, w'' = w'.drewN q
  com : ∀ w', Below w.heap.size w w' → Calls Tryd.prog 13 #[.slice a n ca, .slice b m cb] w' fun e w'' => e = .returned (.int .i64 K) ∧ ∃ q, w'' = w'.drewN q
  low : ∀ w', Below w.heap.size w w' → Calls Tryd.prog 14 #[.slice c l cc, .agg #[.slice a n ca, .slice b m cb, .bool false]] w' fun e w'' => e = .returned (.bool (decide (z ≤ 0) && decide (0 < y))) ∧ Below w'.heap.size w' w''
  upp : ∀ w', Below w.heap.size w w' → Calls Tryd.prog 14 #[.slice c l cc, .agg #[.slice b m cb, .slice none 0 0, .bool true]] w' fun e w'' => e = .returned (.bool (decide (y ≤ 0))) ∧ Below w'.heap.size w' w''
  all : ∀ w', Below w.heap.size w w' → Calls Tryd.prog 14 #[.slice c l cc, .agg #[.slice a n ca, .slice none 0 0, .bool true]] w' fun e w'' => e = .returned (.bool (decide (z ≤ 0))) ∧ Below w'.heap.size w' w''
  cva : ∀ w', Below w.heap.size w w' → (convert 22 9 (.slice a n ca)).run Tryd.prog w' = .ok (.string (str n A)) w'
  cvb : ∀ w', Below w.heap.size w w' → (convert 22 9 (.slice b m cb)).run Tryd.prog w' = .ok (.string (str m B)) w'
  cka : ∀ w', Below w.heap.size w w' → (convert 22 9 (.slice a K ca)).run Tryd.prog w' = .ok (.string (str K A)) w'
  ckb : ∀ w', Below w.heap.size w w' → (convert 22 9 (.slice b K cb)).run Tryd.prog w' = .ok (.string (str K A)) w'
  lena : n ≤ 281474976710656
  lenb : m ≤ 281474976710656
  capa : n ≤ ca
  capb : m ≤ cb

end Go.Proofs.YtglnjacaeefddaaDoor
