import Derived.Test.YtemcneddbhgadaaGreatDoorQLibAzz
import Derived.Test.YtemcneddbhgadaaGreatDoorQRSumzz
import Derived.Lib.SliceRun
namespace Go.Proofs.YtemcneddbhgadaaGreatDoor.Dg
open Go.RowKit
theorem vals_bv (s:List Nat):vals (fun i=>((gd s i:Nat):Int)) s.length=bv s:=by
 apply List.ext_getElem?
 intro i
 by_cases hi:i<s.length
 ·rw [bv_at hi]
  unfold vals
  rw [List.getElem?_map,List.getElem?_range hi]
  rfl
 ·rw [List.getElem?_eq_none (by rw [qle];omega),List.getElem?_eq_none (by rw [bv_len];omega)]
set_option maxRecDepth 100000 in
theorem clone_any (w:World) (a:Option Addr) (b off c:Nat) (s:List Nat) (h:Vw w a b off s) (hs:s.length≤140737488355328) :
 Calls Tryz.prog 36 #[.slice a s.length c] w fun e w'=>∃v,e=.returned v∧w'.ownsRow w.heap.size 5 1 v s.length (bv s)∧Below w.heap.size w w':=by
 have q22:∀(w:World) (a:Option Addr) (n c n' c':Nat),(binOp .eql 33 (.slice a n c) (.slice none n' c')).run Tryz.prog w=.ok (.bool a.isNone) w:=fun w a n c n' c'=>Lib.run_eql_slice_nil w _ _ a n c n' c' Tryz.underlying33
 cases a with
 | none =>
  have h0:s.length=0:=by
   rcases Nat.eq_zero_or_pos s.length with e | e
   ·exact e
   ·cases h.at_ e
  obtain rfl:s=[]:=List.length_eq_zero_iff.1 h0
  clear h
  go_enter Tryz.func36,Tryz.ntmps36
  go_wp2
  go_ret
  exact ⟨_,rfl,World.ownsRow_nil _ _ _ _,Below.refl _ _⟩
 | some p =>
  obtain ⟨n,hn⟩:∃n,n=s.length:=⟨_,rfl⟩
  have h':View w (some p) b off n (fun i=>((gd s i:Nat):Int)):=by rw [hn];exact h
  have HV:Hid (View (w.alloc (.cells #[] 5)) (some p) b off n (fun i=>((gd s i:Nat):Int))):=h'.below ((Below.refl _ _).alloc (Nat.le_refl _) _)
  have HB:Hid (vals (fun i=>((gd s i:Nat):Int)) n=bv s):=by rw [hn];exact vals_bv s
  rw [←hn] at hs ⊢
  clear h h' hn
  go_enter Tryz.func36,Tryz.ntmps36
  go_wp2_with (at_builtin;refine wpList_append_bytes (by rfl) _ _ (by rfl) w.heap.size _ 0 [] (by rfl) (World.ownsRow_made w #[] 0 (Nat.le_refl _) (by decide) rfl) (some p) b off n c (fun i=>((gd s i:Nat):Int)) (by rfl) HV.out (fun k=>by cases k) (by omega) (by simp) ?_;intro v' w1 ho hg hnn)
  go_ret
  rw [List.nil_append,HB.out,Nat.zero_add] at ho
  exact ⟨v',rfl,ho,Below.trans ((Below.refl _ _).alloc (Nat.le_refl _) _) ⟨hg.os,hg.tape,hg.output,hg.size,fun k hk=>hg.block k (by simp;omega) (fun e=>by simp [Value.ownBlock] at e;omega)⟩⟩
end Go.Proofs.YtemcneddbhgadaaGreatDoor.Dg
