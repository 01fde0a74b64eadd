import Derived.Test.YtemcneddbhgadaaGreatDoorSazz
import Derived.Lib.SlBytesConst
import Derived.Test.YtemcneddbhgadaaGreatDoorFizz
import Derived.Test.YtemcneddbhgadaaGreatDoorZvzz
import Derived.Test.YtemcneddbhgadaaGreatDoorFlozz
import Derived.Test.YtemcneddbhgadaaGreatDoorFupzz
namespace Go.Proofs.YtemcneddbhgadaaGreatDoor
open Go.RowKit
open Go.RowKit
theorem qwp {s:List Nat} {n:Nd} (h:decN KD s=some n):dE s=0∧dN s=n:=by unfold dE dN;rw [h];exact ⟨rfl,rfl⟩
theorem qdb {w w':World} (h:w.grownBy w' none):Below w.heap.size w w':=⟨h.os,h.tape,h.output,h.size,fun k hk=>h.block k hk (fun e=>by cases e)⟩
open Go.RowKit
section
variable {ops:Array Oper} {S:World→Prop} {o:Oper} {a:Act}
theorem qbi (x y:Operand) (ho:o.op=.binOp .eql 3 x y 3) (d d':Int) (hx:a.eval x=.int .i64 d) (hy:a.eval y=.int .i64 d') (r:Bool) (hr:(d == d')=r) (hw:Region.wanted o (yielded ops a.tmps)=true:=by kernel_rfl):YieldsIf Tryz.prog ops S o (.bool r) a :=
 .inl ⟨hw,fun w _=>by
  unfold execOp
  simp only [ho,hx,hy]
  subst hr
  go_simp⟩
end
open Go.RowKit
section
variable {ops:Array Oper} {S:World→Prop} {o:Oper} {a:Act}
theorem qbp (x:Operand) (ho:o.op=.call { callee:=.builtin .len,args:=#[x],argTypes:=#[33] }) (p:Option Addr) (n c:Nat) (hx:a.eval x=.slice p n c) (hw:Region.wanted o (yielded ops a.tmps)=true:=by kernel_rfl):YieldsIf Tryz.prog ops S o (.int .i64 (n:Int)) a :=
 .inl ⟨hw,fun w _=>by
  unfold execOp
  simp only [ho,resolve,List.map_toArray,List.map_cons,List.map_nil,hx]
  go_simp⟩
theorem y_lssIr (x y:Operand) (ho:o.op=.binOp .lss 3 x y 3) (d d':Int) (hx:a.eval x=.int .i64 d) (hy:a.eval y=.int .i64 d') (r:Bool) (hr:decide (d<d')=r) (hw:Region.wanted o (yielded ops a.tmps)=true:=by kernel_rfl):YieldsIf Tryz.prog ops S o (.bool r) a :=
 .inl ⟨hw,fun w _=>by
  unfold execOp
  simp only [ho,hx,hy]
  subst hr
  go_simp⟩
theorem qdr (x y:Operand) (ho:o.op=.binOp .geq 3 x y 3) (d d':Int) (hx:a.eval x=.int .i64 d) (hy:a.eval y=.int .i64 d') (r:Bool) (hr:decide (d'≤d)=r) (hw:Region.wanted o (yielded ops a.tmps)=true:=by kernel_rfl):YieldsIf Tryz.prog ops S o (.bool r) a :=
 .inl ⟨hw,fun w _=>by
  unfold execOp
  simp only [ho,hx,hy]
  subst hr
  go_simp⟩
theorem qhs (x y:Operand) (ho:o.op=.binOp .eql 4 x y 4) (d d':Bool) (hx:a.eval x=.bool d) (hy:a.eval y=.bool d') (r:Bool) (hr:(d == d')=r) (hw:Region.wanted o (yielded ops a.tmps)=true:=by kernel_rfl):YieldsIf Tryz.prog ops S o (.bool r) a :=
 .inl ⟨hw,fun w _=>by
  unfold execOp
  simp only [ho,hx,hy]
  subst hr
  go_simp⟩
theorem ql0 (x y:Operand) (ho:o.op=.binOp .eql 31 x y 31) (u v:Array Value) (hx:a.eval x=.agg u) (hy:a.eval y=.agg v) (r:Bool) (he:∀w0:World,(Op.equalIn 10000 31 (.agg u) (.agg v)).run Tryz.prog w0=.ok r w0) (hw:Region.wanted o (yielded ops a.tmps)=true:=by kernel_rfl):YieldsIf Tryz.prog ops S o (.bool r) a :=
 .inl ⟨hw,fun w _=>by
  have e:=he w
  unfold execOp
  simp only [ho,hx,hy]
  go_simp⟩
end
open Go.RowKit
def qzj (s:List Nat) (w:World) (e:Ending) (w':World):Prop :=
 ∃u,e=.returned (.tuple #[.agg (nc (dN s) u).toArray,.int .i64 ((dE s:Nat):Int)])∧Nin w' (dN s) u∧Below w.heap.size w w'
def DecR (s:List Nat):Prop:=∀(w:World) (v:Value),Vb w v s→Calls Tryz.prog 71 #[v] w (qzj s w)
def rkd (r:Rf):Int:=if r.k=2 then (dN r.b).k else 0
theorem qbq {ops : Array Oper} {rest : List Oper} {op : Oper} {a : Act} {w : World} {Q : Exit → Act → World → Prop} (x y : Operand) (ho : op.op = .store 31 x y) (s t : List Nat) (hs : s.length = 32) (ht : t.length = 32) (g : Nat) (hg : w.heap.size = g)
    (hx:a.eval x=.pointer (some ⟨g,0,none⟩)) (hy:a.eval y=.agg (bv s).toArray) (h:wpList Tryz.prog ops Q rest (a.put op.dst undef) (w.alloc (.cells (bv s).toArray 31))) (hw:Region.wanted op (yielded ops a.tmps)=true:=by kernel_rfl) :
    wpList Tryz.prog ops Q (op::rest) a (w.alloc (.cells (bv t).toArray 31)):=by
  subst hg
  refine qbs hw (wp_store_row 31 x y ho w.heap.size (bv s).toArray hx hy 31 (bv t).toArray (heap_alloc_new _ _) (by rw [List.size_toArray];exact qdi hs) (by rw [List.size_toArray,List.size_toArray,bv_len,bv_len,hs,ht]) (all_oneCell_toArray (qgn _)) ?_)
  rw [World.setRow_alloc_new]
  exact h
theorem qnc {r:Rf} (hW:r.W) (h2:r.k=2):isRf KD r=(decide (dE r.b=0) && (decide (r.b.length<32) && decide (r.h=z32))):=by
 have hk:=qsf hW.2.2
 unfold isRf
 rw [if_neg (by omega),if_neg (by omega),if_pos h2,hk]
 unfold dE
 by_cases h32:32≤r.b.length
 ·rw [if_pos h32,decide_eq_false (show ¬r.b.length<32 by omega)]
  simp
 ·rw [if_neg h32,decide_eq_true (show r.b.length<32 by omega)]
  cases hd:decN KD r.b with
  | none=>simp
  | some n =>
   have hm:=((qfh hW.2.2).1 hd).2.1
   have:n.k≠0:=by
    intro e
    unfold mayN at hm
    rw [if_neg (by omega),if_neg (by omega),if_neg (by omega)] at hm
    cases hm
   simp [this]
set_option maxRecDepth 100000 in
set_option maxHeartbeats 3200000 in
theorem qf0 {w:World} {r:Rf} {v:Value} (hW:r.W) (hb:Vb w v r.b) (hD:r.k=2→DecR r.b):Calls Tryz.prog 102 #[.agg (rcs r v).toArray] w fun e w'=>e=.returned (.tuple #[.int .i64 (rkd r),.bool (isRf KD r)])∧Below w.heap.size w w':=by
 have heq:=fun w0=>qf4 w0 r.h z32 hW.1 hW.2.1 qac qco
 have hz24:=zv24
 have B2:Below w.heap.size w ((w.alloc (.cells (rcs r v).toArray 107)).alloc (.cells (bv z32).toArray 31)):=(qaa _ _).alloc (by simp) _
 have hvn:Vb ((w.alloc (.cells (rcs r v).toArray 107)).alloc (.cells (bv z32).toArray 31)) v r.b:=Rel.keep hb B2
 obtain ⟨c0,c1,c2⟩:=qbm hW.1 (qay (qbd w r v 107) (qaa (w.alloc (.cells (rcs r v).toArray 107)) (.cells (bv z32).toArray 31)))
 have cz:((w.alloc (.cells (rcs r v).toArray 107)).alloc (.cells (bv z32).toArray 31)).rangeAt (w.heap.size+1) 0 (bv z32):=by
  have:=qa1 (w.alloc (.cells (rcs r v).toArray 107)) (bv z32) 31
  rw [World.size_alloc] at this
  exact this
 rw [Nat.zero_add] at c1 c2
 obtain ⟨a,b,off,c,rfl,hv,hc,hnil,hl⟩:=hb
 obtain ⟨n,en⟩:∃n,n=r.b.length:=⟨_,rfl⟩
 rw [←en] at hl hc c2 B2 hvn ⊢ c0 c1 cz
 have HN:Hid (n=r.b.length∧r.W):=⟨en,hW⟩
 have HB:Hid (Below w.heap.size w ((w.alloc (.cells (rcs r (.slice a n c)).toArray 107)).alloc (.cells (bv z32).toArray 31))):=B2
 have hh:=hW.1
 obtain ⟨b0,eb0⟩:∃b0,b0=decide (n=0):=⟨_,rfl⟩
 have j0:(((n:Nat):Int) == 0)=b0:=by rw [eb0];by_cases q:n=0 <;> simp [q]
 have HB0:Hid (b0=decide (n=0)):=eb0
 have HI:Hid (isRf KD r=if r.k=0 then decide (r.h=z32) && decide (r.b.length=0) else if r.k=1 then decide (r.b.length=0) else if r.k=2 then decide (r.h=z32) && decide (KD r.b≠0) else false):=rfl
 have HQ:Hid (∀w',w'=((w.alloc (.cells (rcs r (.slice a n c)).toArray 107)).alloc (.cells (bv z32).toArray 31)).drew→w'.cell? ⟨w.heap.size,0,none⟩=some (.int .i64 r.k)∧w'.rangeAt w.heap.size 1 (bv r.h)∧w'.cell? ⟨w.heap.size,33,none⟩=some (.slice a n c)∧w'.rangeAt (w.heap.size+1) 0 (bv z32)):=fun w' e=>by subst e;exact ⟨c0,qbj c1 rfl,c2,qbj cz rfl⟩
 clear en hv hnil eb0
 by_cases k0:r.k=0
 ·rw [k0] at c0
  have HK:Hid (r.k=0):=k0
  clear hD hvn
  by_cases hz:r.h=z32
  ·rw [decide_eq_true hz] at heq
   have HZ:Hid (r.h=z32):=hz
   clear hz k0 hW
   go_enter Tryz.func102,Tryz.ntmps102
   go_upto_region 4 with (first | refine qan (by rfl) ?_ | refine qbq _ _ (by rfl) z32 z32 qac qac (w.heap.size+1) (by simp) (by rfl) (by rfl) ?_)
   refine wp_region_held_drew (S:=fun w'=>w'=((w.alloc (.cells (rcs r (.slice a n c)).toArray 107)).alloc (.cells (bv z32).toArray 31)).drew) (by kernel_rfl) (rfl) ?_
   intro hS
   change wpAnyH _ _ _ _ _ 12 _ _ _
   refine Z.tk 0 (.pointer (some ⟨w.heap.size,1,none⟩)) (y:=qqw _ 1 rfl _ _ rfl (by omega)) (s:=hS) (h:=?_)
   refine Z.tk 1 (.agg (bv r.h).toArray) (y:=qif _ rfl _ _ rfl r.h hh (fun w' hs=>(HQ.out w' hs).2.1)) (s:=hS) (h:=?_)
   refine Z.tk 2 (.agg (bv z32).toArray) (y:=qif _ rfl _ _ rfl z32 qac (fun w' hs=>(HQ.out w' hs).2.2.2)) (s:=hS) (h:=?_)
   refine Z.tk 3 (.bool true) (y:=ql0 _ _ rfl _ _ rfl rfl true heq) (s:=hS) (h:=?_)
   refine Z.tk 4 (.bool true) (y:=y_move _ rfl _ rfl) (s:=hS) (h:=?_)
   refine Z.ly ?_
   refine Z.tk 5 (.pointer (some ⟨w.heap.size,33,none⟩)) (y:=qmz _ rfl _ _ rfl) (s:=hS) (h:=?_)
   refine Z.tk 6 (.slice a n c) (y:=qax _ rfl _ _ rfl _ (fun w' hs=>(HQ.out w' hs).2.2.1)) (s:=hS) (h:=?_)
   refine Z.tk 7 (.int .i64 ((n:Nat):Int)) (y:=qbp _ rfl _ _ _ rfl) (s:=hS) (h:=?_)
   refine Z.tk 8 (.bool b0) (y:=qbi _ _ rfl _ _ rfl rfl b0 j0) (s:=hS) (h:=?_)
   refine Z.tk 9 (.bool b0) (y:=qap _ _ _ rfl _ rfl rfl) (s:=hS) (h:=?_)
   refine Z.ly ?_
   refine Z.tk 10 (.int .i64 0) (y:=y_assign _ rfl _ rfl) (s:=hS) (h:=?_)
   refine Z.tk 11 (.bool b0) (y:=y_assign _ rfl _ rfl) (s:=hS) (h:=?_)
   refine Z.ly ?_
   refine wpAnyH_done (by kernel_rfl) ?_ _
   clear hS
   go_wp2_with fail
   go_ret2
   rw [HI.out,if_pos HK.out,decide_eq_true HZ.out,←HN.out.1,←HB0.out,show rkd r=0 from if_neg (by rw [HK.out];decide)]
   exact ⟨rfl,Below.drew HB.out⟩
  ·rw [decide_eq_false hz] at heq
   have HZ:Hid (decide (r.h=z32)=false):=decide_eq_false hz
   clear hz k0 hW
   go_enter Tryz.func102,Tryz.ntmps102
   go_upto_region 4 with (first | refine qan (by rfl) ?_ | refine qbq _ _ (by rfl) z32 z32 qac qac (w.heap.size+1) (by simp) (by rfl) (by rfl) ?_)
   refine wp_region_held_drew (S:=fun w'=>w'=((w.alloc (.cells (rcs r (.slice a n c)).toArray 107)).alloc (.cells (bv z32).toArray 31)).drew) (by kernel_rfl) (rfl) ?_
   intro hS
   change wpAnyH _ _ _ _ _ 12 _ _ _
   refine Z.tk 0 (.pointer (some ⟨w.heap.size,1,none⟩)) (y:=qqw _ 1 rfl _ _ rfl (by omega)) (s:=hS) (h:=?_)
   refine Z.tk 1 (.agg (bv r.h).toArray) (y:=qif _ rfl _ _ rfl r.h hh (fun w' hs=>(HQ.out w' hs).2.1)) (s:=hS) (h:=?_)
   refine Z.tk 2 (.agg (bv z32).toArray) (y:=qif _ rfl _ _ rfl z32 qac (fun w' hs=>(HQ.out w' hs).2.2.2)) (s:=hS) (h:=?_)
   refine Z.tk 3 (.bool false) (y:=ql0 _ _ rfl _ _ rfl rfl false heq) (s:=hS) (h:=?_)
   refine Z.tk 4 (.bool false) (y:=y_move _ rfl _ rfl) (s:=hS) (h:=?_)
   refine Z.ly ?_
   refine Z.tk 5 undef (y:=y_no) (s:=hS) (h:=?_)
   refine Z.tk 6 undef (y:=y_no) (s:=hS) (h:=?_)
   refine Z.tk 7 undef (y:=y_no) (s:=hS) (h:=?_)
   refine Z.tk 8 undef (y:=y_no) (s:=hS) (h:=?_)
   refine Z.tk 9 (.bool false) (y:=y_pick_f _ _ _ rfl _ rfl rfl) (s:=hS) (h:=?_)
   refine Z.ly ?_
   refine Z.tk 10 (.int .i64 0) (y:=y_assign _ rfl _ rfl) (s:=hS) (h:=?_)
   refine Z.tk 11 (.bool false) (y:=y_assign _ rfl _ rfl) (s:=hS) (h:=?_)
   refine Z.ly ?_
   refine wpAnyH_done (by kernel_rfl) ?_ _
   clear hS
   go_wp2_with fail
   go_ret2
   rw [HI.out,if_pos HK.out,HZ.out,show rkd r=0 from if_neg (by rw [HK.out];decide)]
   exact ⟨rfl,Below.drew HB.out⟩
 ·have i0:(r.k == 0)=false:=by simpa using k0
  by_cases k1:r.k=1
  ·rw [k1] at c0
   have HK:Hid (r.k=1):=k1
   clear hD hvn k0 k1 i0 hW
   go_enter Tryz.func102,Tryz.ntmps102
   go_upto_region 6 with (first | refine qan (by rfl) ?_ | refine qbq _ _ (by rfl) z32 z32 qac qac (w.heap.size+1) (by simp) (by rfl) (by rfl) ?_)
   refine wp_region_held_drew (S:=fun w'=>w'=((w.alloc (.cells (rcs r (.slice a n c)).toArray 107)).alloc (.cells (bv z32).toArray 31)).drew) (by kernel_rfl) (rfl) ?_
   intro hS
   change wpAnyH _ _ _ _ _ 6 _ _ _
   refine Z.tk 0 (.pointer (some ⟨w.heap.size,33,none⟩)) (y:=qmz _ rfl _ _ rfl) (s:=hS) (h:=?_)
   refine Z.tk 1 (.slice a n c) (y:=qax _ rfl _ _ rfl _ (fun w' hs=>(HQ.out w' hs).2.2.1)) (s:=hS) (h:=?_)
   refine Z.tk 2 (.int .i64 ((n:Nat):Int)) (y:=qbp _ rfl _ _ _ rfl) (s:=hS) (h:=?_)
   refine Z.tk 3 (.bool b0) (y:=qbi _ _ rfl _ _ rfl rfl b0 j0) (s:=hS) (h:=?_)
   refine Z.tk 4 (.int .i64 0) (y:=y_assign _ rfl _ rfl) (s:=hS) (h:=?_)
   refine Z.ly ?_
   refine Z.tk 5 (.bool b0) (y:=y_assign _ rfl _ rfl) (s:=hS) (h:=?_)
   refine Z.ly ?_
   refine wpAnyH_done (by kernel_rfl) ?_ _
   clear hS
   go_wp2_with fail
   go_ret2
   rw [HI.out,if_neg (by rw [HK.out];decide),if_pos HK.out,←HN.out.1,←HB0.out,show rkd r=0 from if_neg (by rw [HK.out];decide)]
   exact ⟨rfl,Below.drew HB.out⟩
  ·have i1:(r.k == 1)=false:=by simpa using k1
   by_cases k2:r.k=2
   ·have K:=hD k2 _ _ hvn
    have HI2:=qnc hW k2
    rw [k2] at c0
    have HK:Hid (r.k=2):=k2
    have hrk:rkd r=(dN r.b).k:=if_pos k2
    have mW:∀w' u,Nin w' (dN r.b) u→(dN r.b).W:=fun _ _ h=>h.W
    unfold qzj at K
    obtain ⟨m,em⟩:∃m,m=dN r.b:=⟨_,rfl⟩
    obtain ⟨d,ed⟩:∃d,d=dE r.b:=⟨_,rfl⟩
    obtain ⟨hs,ehs⟩:∃hs,hs=decide (r.h=z32):=⟨_,rfl⟩
    rw [←ehs] at heq HI2
    rw [←em,←ed] at K
    rw [←em] at hrk mW
    rw [←ed,←HN.out.1] at HI2
    have HI3:Hid (isRf KD r=(decide (d=0) && (decide (n<32) && hs))∧rkd r=m.k):=⟨HI2,hrk⟩
    have HBX:Hid (∀w5 (u:Nv),m.W→Below ((w.alloc (.cells (rcs r (.slice a n c)).toArray 107)).alloc (.cells (bv z32).toArray 31)).heap.size ((w.alloc (.cells (rcs r (.slice a n c)).toArray 107)).alloc (.cells (bv z32).toArray 31)) w5→Below w.heap.size w (w5.alloc (.cells (nc m u).toArray 110))∧∀w',w'=(w5.alloc (.cells (nc m u).toArray 110)).drew→(w'.cell? ⟨w.heap.size,0,none⟩=some (.int .i64 r.k)∧w'.rangeAt w.heap.size 1 (bv r.h)∧w'.cell? ⟨w.heap.size,33,none⟩=some (.slice a n c)∧w'.rangeAt (w.heap.size+1) 0 (bv z32))∧w'.cell? ⟨w5.heap.size,0,none⟩=some (.int .i64 m.k)):=fun w5 u hm b5=>by
     have b6:=ch b5 (qaa w5 (.cells (nc m u).toArray 110))
     obtain ⟨q0,q1,q2,q3⟩:=HQ.out _ rfl
     refine ⟨ch HB.out b6,fun w' e=>?_⟩
     subst e
     refine ⟨⟨?_,qbj (qay (w:=((w.alloc (.cells (rcs r (.slice a n c)).toArray 107)).alloc (.cells (bv z32).toArray 31))) (qbj q1 rfl) b6) rfl,?_,qbj (qay (w:=((w.alloc (.cells (rcs r (.slice a n c)).toArray 107)).alloc (.cells (bv z32).toArray 31))) (qbj q3 rfl) b6) rfl⟩,(qba hm w5 u).k⟩
     ·exact (b6.cell (p:=⟨w.heap.size,0,none⟩) (by simp;omega)).trans q0
     ·exact (b6.cell (p:=⟨w.heap.size,33,none⟩) (by simp;omega)).trans q2
    clear hD hvn k0 k1 k2 i0 hW em ed ehs HI2 hrk hc
    obtain ⟨uu,euu⟩:∃z,z=uz:=⟨_,rfl⟩
    obtain ⟨zz,ezz⟩:∃z,z=nz:=⟨_,rfl⟩
    have hz:=zv29
    rw [←ezz,←euu] at hz
    have zW:zz.W:=by rw [ezz];exact nz_w
    clear ezz euu
    by_cases d0:d=0
    ·by_cases n32:n<32
     ·have q1:(((d:Nat):Int) == 0)=true:=by simp;omega
      have q2:decide (((n:Nat):Int)<32)=true:=decide_eq_true (by omega)
      have HD:Hid (decide (d=0)=true∧decide (n<32)=true):=⟨decide_eq_true d0,decide_eq_true n32⟩
      clear d0 n32
      go_enter Tryz.func102,Tryz.ntmps102
      go_upto_region 9 with (first | refine qan (by rfl) ?_ | refine qbq _ _ (by rfl) z32 z32 qac qac (w.heap.size+1) (by simp) (by rfl) (by rfl) ?_ | (go_at_call 71;go_loud (refine K.mono ?_;rintro e w5 ⟨u5,rfl,hI,b5⟩;have hm:=hI.W;have on:=hI.one;obtain ⟨B6,Q6⟩:=HBX.out w5 u5 hm b5;have HB6:Hid (Below w.heap.size w (w5.alloc (.cells (nc m u5).toArray 110))):=B6;have HQ6:Hid (∀w',w'=(w5.alloc (.cells (nc m u5).toArray 110)).drew→(w'.cell? ⟨w.heap.size,0,none⟩=some (.int .i64 r.k)∧w'.rangeAt w.heap.size 1 (bv r.h)∧w'.cell? ⟨w.heap.size,33,none⟩=some (.slice a n c)∧w'.rangeAt (w.heap.size+1) 0 (bv z32))∧w'.cell? ⟨w5.heap.size,0,none⟩=some (.int .i64 m.k)):=Q6;clear hI b5 B6 Q6 K)) | refine qam (by kernel_rfl) _ _ (by rfl) m zz u5 uu hm zW on (by rfl) (by rfl) ?_)
      refine wp_region_held_drew (S:=fun w'=>w'=(w5.alloc (.cells (nc m u5).toArray 110)).drew) (by kernel_rfl) (rfl) ?_
      intro hS
      change wpAnyH _ _ _ _ _ 18 _ _ _
      refine Z.tk 0 (.pointer (some ⟨w5.heap.size,0,none⟩)) (y:=qau _ 0 rfl _ rfl (by omega)) (s:=hS) (h:=?_)
      refine Z.tk 1 (.int .i64 m.k) (y:=qlm _ rfl _ _ rfl _ (fun w' hs=>(HQ6.out w' hs).2)) (s:=hS) (h:=?_)
      refine Z.tk 2 (.int .i64 ((d:Nat):Int)) (y:=y_move _ rfl _ rfl) (s:=hS) (h:=?_)
      refine Z.tk 3 (.bool true) (y:=qbi _ _ rfl _ _ rfl rfl true q1) (s:=hS) (h:=?_)
      refine Z.tk 4 (.bool true) (y:=y_move _ rfl _ rfl) (s:=hS) (h:=?_)
      refine Z.ly ?_
      refine Z.tk 5 (.pointer (some ⟨w.heap.size,33,none⟩)) (y:=qmz _ rfl _ _ rfl) (s:=hS) (h:=?_)
      refine Z.tk 6 (.slice a n c) (y:=qax _ rfl _ _ rfl _ (fun w' hs=>(HQ6.out w' hs).1.2.2.1)) (s:=hS) (h:=?_)
      refine Z.tk 7 (.int .i64 ((n:Nat):Int)) (y:=qbp _ rfl _ _ _ rfl) (s:=hS) (h:=?_)
      refine Z.tk 8 (.bool true) (y:=y_lssIr _ _ rfl _ _ rfl rfl true q2) (s:=hS) (h:=?_)
      refine Z.tk 9 (.bool true) (y:=qap _ _ _ rfl _ rfl rfl) (s:=hS) (h:=?_)
      refine Z.ly ?_
      refine Z.tk 10 (.bool true) (y:=y_move _ rfl _ rfl) (s:=hS) (h:=?_)
      refine Z.tk 11 (.pointer (some ⟨w.heap.size,1,none⟩)) (y:=qqw _ 1 rfl _ _ rfl (by omega)) (s:=hS) (h:=?_)
      refine Z.tk 12 (.agg (bv r.h).toArray) (y:=qif _ rfl _ _ rfl r.h hh (fun w' hs=>(HQ6.out w' hs).1.2.1)) (s:=hS) (h:=?_)
      refine Z.tk 13 (.agg (bv z32).toArray) (y:=qif _ rfl _ _ rfl z32 qac (fun w' hs=>(HQ6.out w' hs).1.2.2.2)) (s:=hS) (h:=?_)
      refine Z.tk 14 (.bool hs) (y:=ql0 _ _ rfl _ _ rfl rfl hs heq) (s:=hS) (h:=?_)
      refine Z.ly ?_
      refine Z.tk 15 (.bool hs) (y:=qap _ _ _ rfl _ rfl rfl) (s:=hS) (h:=?_)
      refine Z.tk 16 (.int .i64 m.k) (y:=y_assign _ rfl _ rfl) (s:=hS) (h:=?_)
      refine Z.tk 17 (.bool hs) (y:=y_assign _ rfl _ rfl) (s:=hS) (h:=?_)
      refine Z.ly ?_
      refine wpAnyH_done (by kernel_rfl) ?_ _
      clear hS
      go_wp2_with fail
      go_ret2
      rw [HI3.out.1,HI3.out.2,HD.out.1,HD.out.2]
      exact ⟨rfl,Below.drew HB6.out⟩
     ·have q1:(((d:Nat):Int) == 0)=true:=by simp;omega
      have q2:decide (((n:Nat):Int)<32)=false:=decide_eq_false (by omega)
      have HD:Hid (decide (d=0)=true∧decide (n<32)=false):=⟨decide_eq_true d0,decide_eq_false n32⟩
      clear d0 n32
      go_enter Tryz.func102,Tryz.ntmps102
      go_upto_region 9 with (first | refine qan (by rfl) ?_ | refine qbq _ _ (by rfl) z32 z32 qac qac (w.heap.size+1) (by simp) (by rfl) (by rfl) ?_ | (go_at_call 71;go_loud (refine K.mono ?_;rintro e w5 ⟨u5,rfl,hI,b5⟩;have hm:=hI.W;have on:=hI.one;obtain ⟨B6,Q6⟩:=HBX.out w5 u5 hm b5;have HB6:Hid (Below w.heap.size w (w5.alloc (.cells (nc m u5).toArray 110))):=B6;have HQ6:Hid (∀w',w'=(w5.alloc (.cells (nc m u5).toArray 110)).drew→(w'.cell? ⟨w.heap.size,0,none⟩=some (.int .i64 r.k)∧w'.rangeAt w.heap.size 1 (bv r.h)∧w'.cell? ⟨w.heap.size,33,none⟩=some (.slice a n c)∧w'.rangeAt (w.heap.size+1) 0 (bv z32))∧w'.cell? ⟨w5.heap.size,0,none⟩=some (.int .i64 m.k)):=Q6;clear hI b5 B6 Q6 K)) | refine qam (by kernel_rfl) _ _ (by rfl) m zz u5 uu hm zW on (by rfl) (by rfl) ?_)
      refine wp_region_held_drew (S:=fun w'=>w'=(w5.alloc (.cells (nc m u5).toArray 110)).drew) (by kernel_rfl) (rfl) ?_
      intro hS
      change wpAnyH _ _ _ _ _ 18 _ _ _
      refine Z.tk 0 (.pointer (some ⟨w5.heap.size,0,none⟩)) (y:=qau _ 0 rfl _ rfl (by omega)) (s:=hS) (h:=?_)
      refine Z.tk 1 (.int .i64 m.k) (y:=qlm _ rfl _ _ rfl _ (fun w' hs=>(HQ6.out w' hs).2)) (s:=hS) (h:=?_)
      refine Z.tk 2 (.int .i64 ((d:Nat):Int)) (y:=y_move _ rfl _ rfl) (s:=hS) (h:=?_)
      refine Z.tk 3 (.bool true) (y:=qbi _ _ rfl _ _ rfl rfl true q1) (s:=hS) (h:=?_)
      refine Z.tk 4 (.bool true) (y:=y_move _ rfl _ rfl) (s:=hS) (h:=?_)
      refine Z.ly ?_
      refine Z.tk 5 (.pointer (some ⟨w.heap.size,33,none⟩)) (y:=qmz _ rfl _ _ rfl) (s:=hS) (h:=?_)
      refine Z.tk 6 (.slice a n c) (y:=qax _ rfl _ _ rfl _ (fun w' hs=>(HQ6.out w' hs).1.2.2.1)) (s:=hS) (h:=?_)
      refine Z.tk 7 (.int .i64 ((n:Nat):Int)) (y:=qbp _ rfl _ _ _ rfl) (s:=hS) (h:=?_)
      refine Z.tk 8 (.bool false) (y:=y_lssIr _ _ rfl _ _ rfl rfl false q2) (s:=hS) (h:=?_)
      refine Z.tk 9 (.bool false) (y:=qap _ _ _ rfl _ rfl rfl) (s:=hS) (h:=?_)
      refine Z.ly ?_
      refine Z.tk 10 (.bool false) (y:=y_move _ rfl _ rfl) (s:=hS) (h:=?_)
      refine Z.tk 11 undef (y:=y_no) (s:=hS) (h:=?_)
      refine Z.tk 12 undef (y:=y_no) (s:=hS) (h:=?_)
      refine Z.tk 13 undef (y:=y_no) (s:=hS) (h:=?_)
      refine Z.tk 14 undef (y:=y_no) (s:=hS) (h:=?_)
      refine Z.ly ?_
      refine Z.tk 15 (.bool false) (y:=y_pick_f _ _ _ rfl _ rfl rfl) (s:=hS) (h:=?_)
      refine Z.tk 16 (.int .i64 m.k) (y:=y_assign _ rfl _ rfl) (s:=hS) (h:=?_)
      refine Z.tk 17 (.bool false) (y:=y_assign _ rfl _ rfl) (s:=hS) (h:=?_)
      refine Z.ly ?_
      refine wpAnyH_done (by kernel_rfl) ?_ _
      clear hS
      go_wp2_with fail
      go_ret2
      rw [HI3.out.1,HI3.out.2,HD.out.1,HD.out.2]
      exact ⟨rfl,Below.drew HB6.out⟩
    ·have q1:(((d:Nat):Int) == 0)=false:=by simp;omega
     have HD:Hid (decide (d=0)=false):=decide_eq_false d0
     clear d0
     go_enter Tryz.func102,Tryz.ntmps102
     go_upto_region 9 with (first | refine qan (by rfl) ?_ | refine qbq _ _ (by rfl) z32 z32 qac qac (w.heap.size+1) (by simp) (by rfl) (by rfl) ?_ | (go_at_call 71;go_loud (refine K.mono ?_;rintro e w5 ⟨u5,rfl,hI,b5⟩;have hm:=hI.W;have on:=hI.one;obtain ⟨B6,Q6⟩:=HBX.out w5 u5 hm b5;have HB6:Hid (Below w.heap.size w (w5.alloc (.cells (nc m u5).toArray 110))):=B6;have HQ6:Hid (∀w',w'=(w5.alloc (.cells (nc m u5).toArray 110)).drew→(w'.cell? ⟨w.heap.size,0,none⟩=some (.int .i64 r.k)∧w'.rangeAt w.heap.size 1 (bv r.h)∧w'.cell? ⟨w.heap.size,33,none⟩=some (.slice a n c)∧w'.rangeAt (w.heap.size+1) 0 (bv z32))∧w'.cell? ⟨w5.heap.size,0,none⟩=some (.int .i64 m.k)):=Q6;clear hI b5 B6 Q6 K)) | refine qam (by kernel_rfl) _ _ (by rfl) m zz u5 uu hm zW on (by rfl) (by rfl) ?_)
     refine wp_region_held_drew (S:=fun w'=>w'=(w5.alloc (.cells (nc m u5).toArray 110)).drew) (by kernel_rfl) (rfl) ?_
     intro hS
     change wpAnyH _ _ _ _ _ 18 _ _ _
     refine Z.tk 0 (.pointer (some ⟨w5.heap.size,0,none⟩)) (y:=qau _ 0 rfl _ rfl (by omega)) (s:=hS) (h:=?_)
     refine Z.tk 1 (.int .i64 m.k) (y:=qlm _ rfl _ _ rfl _ (fun w' hs=>(HQ6.out w' hs).2)) (s:=hS) (h:=?_)
     refine Z.tk 2 (.int .i64 ((d:Nat):Int)) (y:=y_move _ rfl _ rfl) (s:=hS) (h:=?_)
     refine Z.tk 3 (.bool false) (y:=qbi _ _ rfl _ _ rfl rfl false q1) (s:=hS) (h:=?_)
     refine Z.tk 4 (.bool false) (y:=y_move _ rfl _ rfl) (s:=hS) (h:=?_)
     refine Z.ly ?_
     refine Z.tk 5 undef (y:=y_no) (s:=hS) (h:=?_)
     refine Z.tk 6 undef (y:=y_no) (s:=hS) (h:=?_)
     refine Z.tk 7 undef (y:=y_no) (s:=hS) (h:=?_)
     refine Z.tk 8 undef (y:=y_no) (s:=hS) (h:=?_)
     refine Z.tk 9 (.bool false) (y:=y_pick_f _ _ _ rfl _ rfl rfl) (s:=hS) (h:=?_)
     refine Z.ly ?_
     refine Z.tk 10 (.bool false) (y:=y_move _ rfl _ rfl) (s:=hS) (h:=?_)
     refine Z.tk 11 undef (y:=y_no) (s:=hS) (h:=?_)
     refine Z.tk 12 undef (y:=y_no) (s:=hS) (h:=?_)
     refine Z.tk 13 undef (y:=y_no) (s:=hS) (h:=?_)
     refine Z.tk 14 undef (y:=y_no) (s:=hS) (h:=?_)
     refine Z.ly ?_
     refine Z.tk 15 (.bool false) (y:=y_pick_f _ _ _ rfl _ rfl rfl) (s:=hS) (h:=?_)
     refine Z.tk 16 (.int .i64 m.k) (y:=y_assign _ rfl _ rfl) (s:=hS) (h:=?_)
     refine Z.tk 17 (.bool false) (y:=y_assign _ rfl _ rfl) (s:=hS) (h:=?_)
     refine Z.ly ?_
     refine wpAnyH_done (by kernel_rfl) ?_ _
     clear hS
     go_wp2_with fail
     go_ret2
     rw [HI3.out.1,HI3.out.2,HD.out]
     exact ⟨rfl,Below.drew HB6.out⟩
   ·have i2:(r.k == 2)=false:=by simpa using k2
    have HK:Hid (isRf KD r=false∧rkd r=0):=⟨by rw [HI.out,if_neg k0,if_neg k1,if_neg k2],if_neg k2⟩
    clear hD hvn k0 k1 k2 hW
    go_enter Tryz.func102,Tryz.ntmps102
    go_wp2_with (first | refine qan (by rfl) ?_ | refine qbq _ _ (by rfl) z32 z32 qac qac (w.heap.size+1) (by simp) (by rfl) (by rfl) ?_)
    go_ret2
    rw [HK.out.1,HK.out.2]
    exact ⟨rfl,HB.out⟩
end Go.Proofs.YtemcneddbhgadaaGreatDoor
